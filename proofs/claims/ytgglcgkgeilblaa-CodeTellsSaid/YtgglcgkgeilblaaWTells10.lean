/-
  The walk of CodeTells.
-/
import Derived.Test.YtgglcgkgeilblaaA5
namespace Go.Proofs.Ytgglcgkgeilblaa
set_option maxRecDepth 100000
open Go.RowKit
set_option linter.unusedVariables false
set_option linter.unusedSimpArgs false

set_option maxRecDepth 100000 in
set_option maxHeartbeats 8000000 in
theorem CodeTells_by {w : World} {k a b x e n g : Int} {c : Nat} (C0 : ∀ W : World, Calls Try.prog 8 #[.int .i64 k, .int .i64 a, .int .i64 b] W (GotV W (.tuple #[.int .u8 x, .int .i64 e]))) (C1 : ∀ W : World, Calls Try.prog 9 #[.int .i64 k, .int .i64 a, .int .i64 b] W (GotV W (.tuple #[.int .u8 x, .int .i64 e]))) (C2 : ∀ W : World, Calls Try.prog 10 #[.int .i64 k, .int .u8 (c : Int)] W (GotV W (.tuple #[.int .i64 n, .int .i64 g]))) (C3 : ∀ W : World, Calls Try.prog 11 #[.int .i64 k, .int .u8 (c : Int)] W (GotV W (.tuple #[.int .i64 n, .int .i64 g]))) :
    Calls Try.prog 3 #[.int .i64 k, .agg #[.int .i64 a, .int .i64 b], .int .u8 (c : Int)] w fun e w' => e = .returned (.bool true) ∧ Below w.heap.size w w' := by
  have cc := Below.refl w.heap.size w
  go_enter Try.func3, Try.ntmps3
  go_wp2_with fail
  have bA : Below w.heap.size w (w.alloc (.cells #[.int .i64 a, .int .i64 b] 22)) := ((Below.refl _ w).alloc (by simp) _)
  replace cc := cc.trans (bA.mono cc.size)
  clear bA
  have pa0 : (w.alloc (.cells #[.int .i64 a, .int .i64 b] 22)).cell? ⟨w.heap.size, 0, none⟩ = some (.int .i64 a) := by simp [go_sem]
  have pa1 : (w.alloc (.cells #[.int .i64 a, .int .i64 b] 22)).cell? ⟨w.heap.size, 1, none⟩ = some (.int .i64 b) := by simp [go_sem]
  have pal : w.heap.size < (w.alloc (.cells #[.int .i64 a, .int .i64 b] 22)).heap.size := by simp <;> omega
  generalize w.alloc (.cells #[.int .i64 a, .int .i64 b] 22) = v1 at *
  go_wp2_with fail
  refine (C0 _).mono ?_
  rintro e w2 ⟨rfl, b⟩
  replace pa0 := (b.cell (p := ⟨w.heap.size, 0, none⟩) pal).trans pa0
  replace pa1 := (b.cell (p := ⟨w.heap.size, 1, none⟩) pal).trans pa1
  replace pal := Nat.lt_of_lt_of_le pal b.size
  replace cc := cc.trans (b.mono cc.size)
  clear b
  go_wp2_with fail
  refine (C1 _).mono ?_
  rintro e w3 ⟨rfl, b⟩
  replace pa0 := (b.cell (p := ⟨w.heap.size, 0, none⟩) pal).trans pa0
  replace pa1 := (b.cell (p := ⟨w.heap.size, 1, none⟩) pal).trans pa1
  replace pal := Nat.lt_of_lt_of_le pal b.size
  replace cc := cc.trans (b.mono cc.size)
  clear b
  go_wp2_with fail
  refine (C2 _).mono ?_
  rintro e w4 ⟨rfl, b⟩
  replace pa0 := (b.cell (p := ⟨w.heap.size, 0, none⟩) pal).trans pa0
  replace pa1 := (b.cell (p := ⟨w.heap.size, 1, none⟩) pal).trans pa1
  replace pal := Nat.lt_of_lt_of_le pal b.size
  replace cc := cc.trans (b.mono cc.size)
  clear b
  go_wp2_with fail
  refine (C3 _).mono ?_
  rintro e w5 ⟨rfl, b⟩
  replace pa0 := (b.cell (p := ⟨w.heap.size, 0, none⟩) pal).trans pa0
  replace pa1 := (b.cell (p := ⟨w.heap.size, 1, none⟩) pal).trans pa1
  replace pal := Nat.lt_of_lt_of_le pal b.size
  replace cc := cc.trans (b.mono cc.size)
  clear b
  go_wp2_with fail
  refine (alive10_any _).mono ?_
  rintro e w6 ⟨rfl, b⟩
  replace pa0 := (b.cell (p := ⟨w.heap.size, 0, none⟩) pal).trans pa0
  replace pa1 := (b.cell (p := ⟨w.heap.size, 1, none⟩) pal).trans pa1
  replace pal := Nat.lt_of_lt_of_le pal b.size
  replace cc := cc.trans (b.mono cc.size)
  clear b
  go_wp2_with fail
  go_ret
  exact ⟨rfl, cc⟩

theorem CodeTells_walk {w : World} (k : Int) (wk : (Lit.int .i64 k).wf = true) (a b : Int) (wa : (Lit.int .i64 a).wf = true) (wb : (Lit.int .i64 b).wf = true) (c : Int) (wc : (Lit.int .u8 c).wf = true) :
    Calls Try.prog 3 #[.int .i64 k, .agg #[.int .i64 a, .int .i64 b], .int .u8 c] w fun e w' => e = .returned (.bool true) ∧ Below w.heap.size w w' := by
  obtain ⟨q, rfl, hq⟩ := u8_nat wc
  by_cases h : Kind9 k
  · by_cases hS : Shr k a b
    · exact CodeTells_by (fun W => cNear_yes W (i64_wf wa) (i64_wf wb) hS) (fun W => rNear_yes W (i64_wf wa) (i64_wf wb) hS) (fun W => cNum_yes W h hq) (fun W => rNum_yes W h hq)
    · exact CodeTells_by (fun W => cNear_no W (i64_wf wa) (i64_wf wb) hS) (fun W => rNear_no W (i64_wf wa) (i64_wf wb) hS) (fun W => cNum_yes W h hq) (fun W => rNum_yes W h hq)
  · have hS : ¬ Shr k a b := fun x => h x.1
    exact CodeTells_by (fun W => cNear_no W (i64_wf wa) (i64_wf wb) hS) (fun W => rNear_no W (i64_wf wa) (i64_wf wb) hS) (fun W => cNum_no W h hq) (fun W => rNum_no W h hq)

end Go.Proofs.Ytgglcgkgeilblaa
