/-
  The walk of FixReckons.
-/
import Derived.Test.YtccigpnebejbiaaGreatA11
import Derived.Test.YtccigpnebejbiaaGreatA3
namespace Go.Proofs.YtccigpnebejbiaaGreat
set_option maxRecDepth 100000
open Go.RowKit
set_option linter.unusedVariables false
set_option linter.unusedSimpArgs false

set_option maxRecDepth 100000 in
set_option maxHeartbeats 8000000 in
theorem FixReckons_by {w : World} {a b j p e s h u g x l : Int} (A0 : ∀ W : World, Calls Tryz.prog 5 #[.int .i64 a, .int .i64 b] W (GotV W (.tuple #[.int .i64 (p), .int .i64 (e)]))) (R0 : ∀ W : World, Calls Tryz.prog 6 #[.int .i64 a, .int .i64 b] W (GotV W (.tuple #[.int .i64 (p), .int .i64 (e)]))) (A1 : ∀ W : World, Calls Tryz.prog 7 #[.int .i64 a, .int .i64 b] W (GotV W (.tuple #[.int .i64 (s), .int .i64 (h)]))) (R1 : ∀ W : World, Calls Tryz.prog 8 #[.int .i64 a, .int .i64 b] W (GotV W (.tuple #[.int .i64 (s), .int .i64 (h)]))) (A2 : ∀ W : World, Calls Tryz.prog 9 #[.int .i64 a, .int .i64 b, .int .i64 j] W (GotV W (.tuple #[.int .i64 (u), .int .i64 (g)]))) (R2 : ∀ W : World, Calls Tryz.prog 10 #[.int .i64 a, .int .i64 b, .int .i64 j] W (GotV W (.tuple #[.int .i64 (u), .int .i64 (g)]))) (A3 : ∀ W : World, Calls Tryz.prog 11 #[.int .i64 a, .int .i64 b, .int .i64 j] W (GotV W (.tuple #[.int .i64 (x), .int .i64 (l)]))) (R3 : ∀ W : World, Calls Tryz.prog 12 #[.int .i64 a, .int .i64 b, .int .i64 j] W (GotV W (.tuple #[.int .i64 (x), .int .i64 (l)]))) :
    Calls Tryz.prog 3 #[.int .i64 a, .int .i64 b, .int .i64 j] w (fun e w' => e = .returned (.bool true) ∧ Below w.heap.size w w') := by
  have cc := Below.refl w.heap.size w
  go_enter Tryz.func3, Tryz.ntmps3
  go_wp2_with fail
  refine (A0 _).mono ?_
  rintro e w1 ⟨rfl, b⟩
  replace cc := bK cc b
  clear b
  go_wp2_with fail
  refine (R0 _).mono ?_
  rintro e w2 ⟨rfl, b⟩
  replace cc := bK cc b
  clear b
  go_wp2_with fail
  refine (A1 _).mono ?_
  rintro e w3 ⟨rfl, b⟩
  replace cc := bK cc b
  clear b
  go_wp2_with fail
  refine (R1 _).mono ?_
  rintro e w4 ⟨rfl, b⟩
  replace cc := bK cc b
  clear b
  go_wp2_with fail
  refine (A2 _).mono ?_
  rintro e w5 ⟨rfl, b⟩
  replace cc := bK cc b
  clear b
  go_wp2_with fail
  refine (R2 _).mono ?_
  rintro e w6 ⟨rfl, b⟩
  replace cc := bK cc b
  clear b
  go_wp2_with fail
  refine (A3 _).mono ?_
  rintro e w7 ⟨rfl, b⟩
  replace cc := bK cc b
  clear b
  go_wp2_with fail
  refine (R3 _).mono ?_
  rintro e w8 ⟨rfl, b⟩
  replace cc := bK cc b
  clear b
  go_wp2_with fail
  refine (alive8_any _).mono ?_
  rintro e w9 ⟨rfl, b⟩
  replace cc := bK cc b
  clear b
  go_wp2_with fail
  go_ret
  exact ⟨rfl, cc⟩

set_option maxRecDepth 100000 in
set_option maxHeartbeats 8000000 in
theorem FixReckons_walk {w : World} (a : Int) (wa : (Lit.int .i64 a).wf = true) (b : Int) (wb : (Lit.int .i64 b).wf = true) (j : Int) (wj : (Lit.int .i64 j).wf = true) :
    Calls Tryz.prog 3 #[.int .i64 a, .int .i64 b, .int .i64 j] w (fun e w' => e = .returned (.bool true) ∧ Below w.heap.size w w') := by
  have ha := i64_wf wa
  have hb := i64_wf wb
  have A0 := fun W : World => fadd_N (w := W) ha hb
  have R0 := fun W : World => radd8_N (w := W) ha hb
  have A1 := fun W : World => fsub_N (w := W) ha hb
  have R1 := fun W : World => rsub8_N (w := W) ha hb
  by_cases hj : j < 0 ∨ 40 < j
  · exact FixReckons_by A0 R0 A1 R1 (fun W => fmul_no ha hb hj) (fun W => rmul8_no hj) (fun W => fdiv_no ha hb hj) (fun W => rdiv8_no hj)
  have j0 : 0 ≤ j := by omega
  have j1 : j ≤ 40 := by omega
  by_cases h0 : b = 0
  · subst h0; exact FixReckons_by A0 R0 A1 R1 (fun W => fmul_N ha hb j0 j1) (fun W => rmul8_N ha hb j0 j1) (fun W => fdiv_zero ha j0 j1) (fun W => rdiv8_zero ha j0 j1)
  · exact FixReckons_by A0 R0 A1 R1 (fun W => fmul_N ha hb j0 j1) (fun W => rmul8_N ha hb j0 j1) (fun W => fdiv_N ha hb h0 j0 j1) (fun W => rdiv8_N ha hb h0 j0 j1)

end Go.Proofs.YtccigpnebejbiaaGreat
