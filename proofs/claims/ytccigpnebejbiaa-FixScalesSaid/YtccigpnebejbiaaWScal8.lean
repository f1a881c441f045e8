/-
  The walk of FixScales.
-/
import Derived.Test.YtccigpnebejbiaaA10
import Derived.Test.YtccigpnebejbiaaA3
namespace Go.Proofs.Ytccigpnebejbiaa
set_option maxRecDepth 100000
open Go.RowKit
set_option linter.unusedVariables false
set_option linter.unusedSimpArgs false

set_option maxRecDepth 100000 in
set_option maxHeartbeats 8000000 in
theorem FixScales_by {w : World} {a c d j p e s h : Int} (A0 : ∀ W : World, Calls Try.prog 8 #[.int .i64 a, .int .i64 c, .int .i64 d] W (GotV W (.tuple #[.int .i64 (p), .int .i64 (e)]))) (R0 : ∀ W : World, Calls Try.prog 9 #[.int .i64 a, .int .i64 c, .int .i64 d] W (GotV W (.tuple #[.int .i64 (p), .int .i64 (e)]))) (A1 : ∀ W : World, Calls Try.prog 10 #[.int .i64 a, .int .i64 j] W (GotV W (.tuple #[.int .i64 (s), .int .i64 (h)]))) (R1 : ∀ W : World, Calls Try.prog 11 #[.int .i64 a, .int .i64 j] W (GotV W (.tuple #[.int .i64 (s), .int .i64 (h)]))) :
    Calls Try.prog 3 #[.int .i64 a, .agg #[.int .i64 c, .int .i64 d], .int .i64 j] w (fun e w' => e = .returned (.bool true) ∧ Below w.heap.size w w') := by
  have cc := Below.refl w.heap.size w
  go_enter Try.func3, Try.ntmps3
  go_wp2_with fail
  have bA : Below w.heap.size w (w.alloc (.cells #[.int .i64 c, .int .i64 d] 22)) := ((Below.refl _ w).alloc (by simp) _)
  replace cc := bK cc bA
  clear bA
  have pw0 : (w.alloc (.cells #[.int .i64 c, .int .i64 d] 22)).cell? ⟨w.heap.size, 0, none⟩ = some (.int .i64 c) := by simp [go_sem]
  have pw1 : (w.alloc (.cells #[.int .i64 c, .int .i64 d] 22)).cell? ⟨w.heap.size, 1, none⟩ = some (.int .i64 d) := by simp [go_sem]
  have pwl : w.heap.size < (w.alloc (.cells #[.int .i64 c, .int .i64 d] 22)).heap.size := by simp <;> omega
  generalize w.alloc (.cells #[.int .i64 c, .int .i64 d] 22) = v1 at *
  go_wp2_with fail
  refine (A0 _).mono ?_
  rintro e w2 ⟨rfl, b⟩
  replace pw0 := cK b pw0 pwl
  replace pw1 := cK b pw1 pwl
  replace pwl := lK b pwl
  replace cc := bK cc b
  clear b
  go_wp2_with fail
  refine (R0 _).mono ?_
  rintro e w3 ⟨rfl, b⟩
  replace pw0 := cK b pw0 pwl
  replace pw1 := cK b pw1 pwl
  replace pwl := lK b pwl
  replace cc := bK cc b
  clear b
  go_wp2_with fail
  refine (A1 _).mono ?_
  rintro e w4 ⟨rfl, b⟩
  replace pw0 := cK b pw0 pwl
  replace pw1 := cK b pw1 pwl
  replace pwl := lK b pwl
  replace cc := bK cc b
  clear b
  go_wp2_with fail
  refine (R1 _).mono ?_
  rintro e w5 ⟨rfl, b⟩
  replace pw0 := cK b pw0 pwl
  replace pw1 := cK b pw1 pwl
  replace pwl := lK b pwl
  replace cc := bK cc b
  clear b
  go_wp2_with fail
  refine (alive8_any _).mono ?_
  rintro e w6 ⟨rfl, b⟩
  replace pw0 := cK b pw0 pwl
  replace pw1 := cK b pw1 pwl
  replace pwl := lK b pwl
  replace cc := bK cc b
  clear b
  go_wp2_with fail
  go_ret
  exact ⟨rfl, cc⟩

set_option maxRecDepth 100000 in
set_option maxHeartbeats 8000000 in
theorem FixScales_walk {w : World} (a : Int) (wa : (Lit.int .i64 a).wf = true) (c d : Int) (wc : (Lit.int .i64 c).wf = true) (wd : (Lit.int .i64 d).wf = true) (j : Int) (wj : (Lit.int .i64 j).wf = true) :
    Calls Try.prog 3 #[.int .i64 a, .agg #[.int .i64 c, .int .i64 d], .int .i64 j] w (fun e w' => e = .returned (.bool true) ∧ Below w.heap.size w w') := by
  have ha := i64_wf wa
  have hc := i64_wf wc
  have hd := i64_wf wd
  by_cases h1 : d < 1
  · by_cases hj : j < 0 ∨ 40 < j
    · exact FixScales_by (fun W => fscale_no ha hc hd h1) (fun W => rscale8_no h1) (fun W => fsqrt_no ha hj) (fun W => rsqrt8_no hj)
    have j0 : 0 ≤ j := by omega
    have j1 : j ≤ 40 := by omega
    by_cases h0 : a < 0
    · exact FixScales_by (fun W => fscale_no ha hc hd h1) (fun W => rscale8_no h1) (fun W => fsqrt_neg ha h0 j0 j1) (fun W => rsqrt8_neg h0 j0 j1)
    · exact FixScales_by (fun W => fscale_no ha hc hd h1) (fun W => rscale8_no h1) (fun W => fsqrt_N ha (by omega) j0 j1) (fun W => rsqrt8_N ha (by omega) j0 j1)
  · by_cases hj : j < 0 ∨ 40 < j
    · exact FixScales_by (fun W => fscale_N ha hc hd (by omega)) (fun W => rscale8_N ha hc hd (by omega)) (fun W => fsqrt_no ha hj) (fun W => rsqrt8_no hj)
    have j0 : 0 ≤ j := by omega
    have j1 : j ≤ 40 := by omega
    by_cases h0 : a < 0
    · exact FixScales_by (fun W => fscale_N ha hc hd (by omega)) (fun W => rscale8_N ha hc hd (by omega)) (fun W => fsqrt_neg ha h0 j0 j1) (fun W => rsqrt8_neg h0 j0 j1)
    · exact FixScales_by (fun W => fscale_N ha hc hd (by omega)) (fun W => rscale8_N ha hc hd (by omega)) (fun W => fsqrt_N ha (by omega) j0 j1) (fun W => rsqrt8_N ha (by omega) j0 j1)

end Go.Proofs.Ytccigpnebejbiaa
