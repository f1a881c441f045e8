/-
  The walk of CodeOrder.
-/
import Derived.Test.YtgglcgkgeilblaaA5
namespace Go.Proofs.Ytgglcgkgeilblaa
set_option maxRecDepth 100000
open Go.RowKit
set_option linter.unusedVariables false
set_option linter.unusedSimpArgs false

set_option maxRecDepth 100000 in
set_option maxHeartbeats 8000000 in
theorem CodeOrder_a {w : World} {k a b d x y e : Int} (C0 : ∀ W : World, Calls Try.prog 8 #[.int .i64 k, .int .i64 a, .int .i64 d] W (GotV W (.tuple #[.int .u8 x, .int .i64 1]))) (C1 : ∀ W : World, Calls Try.prog 8 #[.int .i64 k, .int .i64 b, .int .i64 d] W (GotV W (.tuple #[.int .u8 y, .int .i64 e]))) :
    Calls Try.prog 5 #[.int .i64 k, .agg #[.int .i64 a, .int .i64 b, .int .i64 d]] w fun e w' => e = .returned (.bool true) ∧ Below w.heap.size w w' := by
  have cc := Below.refl w.heap.size w
  go_enter Try.func5, Try.ntmps5
  go_wp2_with fail
  have bA : Below w.heap.size w (w.alloc (.cells #[.int .i64 a, .int .i64 b, .int .i64 d] 40)) := ((Below.refl _ w).alloc (by simp) _)
  replace cc := cc.trans (bA.mono cc.size)
  clear bA
  have pa0 : (w.alloc (.cells #[.int .i64 a, .int .i64 b, .int .i64 d] 40)).cell? ⟨w.heap.size, 0, none⟩ = some (.int .i64 a) := by simp [go_sem]
  have pa1 : (w.alloc (.cells #[.int .i64 a, .int .i64 b, .int .i64 d] 40)).cell? ⟨w.heap.size, 1, none⟩ = some (.int .i64 b) := by simp [go_sem]
  have pa2 : (w.alloc (.cells #[.int .i64 a, .int .i64 b, .int .i64 d] 40)).cell? ⟨w.heap.size, 2, none⟩ = some (.int .i64 d) := by simp [go_sem]
  have pal : w.heap.size < (w.alloc (.cells #[.int .i64 a, .int .i64 b, .int .i64 d] 40)).heap.size := by simp <;> omega
  generalize w.alloc (.cells #[.int .i64 a, .int .i64 b, .int .i64 d] 40) = v1 at *
  go_wp2_with fail
  go_region_held3 (fun w' => w'.cell? ⟨w.heap.size, 0, none⟩ = some (.int .i64 a) ∧ w'.cell? ⟨w.heap.size, 1, none⟩ = some (.int .i64 b) ∧ w'.cell? ⟨w.heap.size, 2, none⟩ = some (.int .i64 d)) (exact ⟨pa0, pa1, pa2⟩) (fail)
  have bD : Below v1.heap.size v1 v1.drew := below_drewN (Below.refl _ _) 1
  replace pa0 := (bD.cell (p := ⟨w.heap.size, 0, none⟩) pal).trans pa0
  replace pa1 := (bD.cell (p := ⟨w.heap.size, 1, none⟩) pal).trans pa1
  replace pa2 := (bD.cell (p := ⟨w.heap.size, 2, none⟩) pal).trans pa2
  replace pal := Nat.lt_of_lt_of_le pal bD.size
  replace cc := cc.trans (bD.mono cc.size)
  clear bD
  generalize v1.drew = v2 at *
  go_wp2_with fail
  refine (C0 _).mono ?_
  rintro e w3 ⟨rfl, b⟩
  replace pa0 := (b.cell (p := ⟨w.heap.size, 0, none⟩) pal).trans pa0
  replace pa1 := (b.cell (p := ⟨w.heap.size, 1, none⟩) pal).trans pa1
  replace pa2 := (b.cell (p := ⟨w.heap.size, 2, none⟩) pal).trans pa2
  replace pal := Nat.lt_of_lt_of_le pal b.size
  replace cc := cc.trans (b.mono cc.size)
  clear b
  go_wp2_with fail
  refine (C1 _).mono ?_
  rintro e w4 ⟨rfl, b⟩
  replace pa0 := (b.cell (p := ⟨w.heap.size, 0, none⟩) pal).trans pa0
  replace pa1 := (b.cell (p := ⟨w.heap.size, 1, none⟩) pal).trans pa1
  replace pa2 := (b.cell (p := ⟨w.heap.size, 2, none⟩) pal).trans pa2
  replace pal := Nat.lt_of_lt_of_le pal b.size
  replace cc := cc.trans (b.mono cc.size)
  clear b
  go_wp2_with fail
  refine (alive10_any _).mono ?_
  rintro e w5 ⟨rfl, b⟩
  replace pa0 := (b.cell (p := ⟨w.heap.size, 0, none⟩) pal).trans pa0
  replace pa1 := (b.cell (p := ⟨w.heap.size, 1, none⟩) pal).trans pa1
  replace pa2 := (b.cell (p := ⟨w.heap.size, 2, none⟩) pal).trans pa2
  replace pal := Nat.lt_of_lt_of_le pal b.size
  replace cc := cc.trans (b.mono cc.size)
  clear b
  go_wp2_with fail
  go_ret
  exact ⟨rfl, cc⟩

set_option maxRecDepth 100000 in
set_option maxHeartbeats 8000000 in
theorem CodeOrder_b {w : World} {k a b d x y : Int} (C0 : ∀ W : World, Calls Try.prog 8 #[.int .i64 k, .int .i64 a, .int .i64 d] W (GotV W (.tuple #[.int .u8 x, .int .i64 0]))) (C1 : ∀ W : World, Calls Try.prog 8 #[.int .i64 k, .int .i64 b, .int .i64 d] W (GotV W (.tuple #[.int .u8 y, .int .i64 1]))) :
    Calls Try.prog 5 #[.int .i64 k, .agg #[.int .i64 a, .int .i64 b, .int .i64 d]] w fun e w' => e = .returned (.bool true) ∧ Below w.heap.size w w' := by
  have cc := Below.refl w.heap.size w
  go_enter Try.func5, Try.ntmps5
  go_wp2_with fail
  have bA : Below w.heap.size w (w.alloc (.cells #[.int .i64 a, .int .i64 b, .int .i64 d] 40)) := ((Below.refl _ w).alloc (by simp) _)
  replace cc := cc.trans (bA.mono cc.size)
  clear bA
  have pa0 : (w.alloc (.cells #[.int .i64 a, .int .i64 b, .int .i64 d] 40)).cell? ⟨w.heap.size, 0, none⟩ = some (.int .i64 a) := by simp [go_sem]
  have pa1 : (w.alloc (.cells #[.int .i64 a, .int .i64 b, .int .i64 d] 40)).cell? ⟨w.heap.size, 1, none⟩ = some (.int .i64 b) := by simp [go_sem]
  have pa2 : (w.alloc (.cells #[.int .i64 a, .int .i64 b, .int .i64 d] 40)).cell? ⟨w.heap.size, 2, none⟩ = some (.int .i64 d) := by simp [go_sem]
  have pal : w.heap.size < (w.alloc (.cells #[.int .i64 a, .int .i64 b, .int .i64 d] 40)).heap.size := by simp <;> omega
  generalize w.alloc (.cells #[.int .i64 a, .int .i64 b, .int .i64 d] 40) = v1 at *
  go_wp2_with fail
  go_region_held3 (fun w' => w'.cell? ⟨w.heap.size, 0, none⟩ = some (.int .i64 a) ∧ w'.cell? ⟨w.heap.size, 1, none⟩ = some (.int .i64 b) ∧ w'.cell? ⟨w.heap.size, 2, none⟩ = some (.int .i64 d)) (exact ⟨pa0, pa1, pa2⟩) (fail)
  have bD : Below v1.heap.size v1 v1.drew := below_drewN (Below.refl _ _) 1
  replace pa0 := (bD.cell (p := ⟨w.heap.size, 0, none⟩) pal).trans pa0
  replace pa1 := (bD.cell (p := ⟨w.heap.size, 1, none⟩) pal).trans pa1
  replace pa2 := (bD.cell (p := ⟨w.heap.size, 2, none⟩) pal).trans pa2
  replace pal := Nat.lt_of_lt_of_le pal bD.size
  replace cc := cc.trans (bD.mono cc.size)
  clear bD
  generalize v1.drew = v2 at *
  go_wp2_with fail
  refine (C0 _).mono ?_
  rintro e w3 ⟨rfl, b⟩
  replace pa0 := (b.cell (p := ⟨w.heap.size, 0, none⟩) pal).trans pa0
  replace pa1 := (b.cell (p := ⟨w.heap.size, 1, none⟩) pal).trans pa1
  replace pa2 := (b.cell (p := ⟨w.heap.size, 2, none⟩) pal).trans pa2
  replace pal := Nat.lt_of_lt_of_le pal b.size
  replace cc := cc.trans (b.mono cc.size)
  clear b
  go_wp2_with fail
  refine (C1 _).mono ?_
  rintro e w4 ⟨rfl, b⟩
  replace pa0 := (b.cell (p := ⟨w.heap.size, 0, none⟩) pal).trans pa0
  replace pa1 := (b.cell (p := ⟨w.heap.size, 1, none⟩) pal).trans pa1
  replace pa2 := (b.cell (p := ⟨w.heap.size, 2, none⟩) pal).trans pa2
  replace pal := Nat.lt_of_lt_of_le pal b.size
  replace cc := cc.trans (b.mono cc.size)
  clear b
  go_wp2_with fail
  refine (alive10_any _).mono ?_
  rintro e w5 ⟨rfl, b⟩
  replace pa0 := (b.cell (p := ⟨w.heap.size, 0, none⟩) pal).trans pa0
  replace pa1 := (b.cell (p := ⟨w.heap.size, 1, none⟩) pal).trans pa1
  replace pa2 := (b.cell (p := ⟨w.heap.size, 2, none⟩) pal).trans pa2
  replace pal := Nat.lt_of_lt_of_le pal b.size
  replace cc := cc.trans (b.mono cc.size)
  clear b
  go_wp2_with fail
  go_ret
  exact ⟨rfl, cc⟩

set_option maxRecDepth 100000 in
set_option maxHeartbeats 8000000 in
theorem CodeOrder_gt {w : World} {k a b d : Int} {x y : Nat} (C0 : ∀ W : World, Calls Try.prog 8 #[.int .i64 k, .int .i64 a, .int .i64 d] W (GotV W (.tuple #[.int .u8 (x : Int), .int .i64 0]))) (C1 : ∀ W : World, Calls Try.prog 8 #[.int .i64 k, .int .i64 b, .int .i64 d] W (GotV W (.tuple #[.int .u8 (y : Int), .int .i64 0]))) (hab : b < a) :
    Calls Try.prog 5 #[.int .i64 k, .agg #[.int .i64 a, .int .i64 b, .int .i64 d]] w fun e w' => e = .returned (.bool true) ∧ Below w.heap.size w w' := by
  have t1 : decide (b < a) = true := decide_eq_true hab
  have cc := Below.refl w.heap.size w
  go_enter Try.func5, Try.ntmps5
  go_wp2_with fail
  have bA : Below w.heap.size w (w.alloc (.cells #[.int .i64 a, .int .i64 b, .int .i64 d] 40)) := ((Below.refl _ w).alloc (by simp) _)
  replace cc := cc.trans (bA.mono cc.size)
  clear bA
  have pa0 : (w.alloc (.cells #[.int .i64 a, .int .i64 b, .int .i64 d] 40)).cell? ⟨w.heap.size, 0, none⟩ = some (.int .i64 a) := by simp [go_sem]
  have pa1 : (w.alloc (.cells #[.int .i64 a, .int .i64 b, .int .i64 d] 40)).cell? ⟨w.heap.size, 1, none⟩ = some (.int .i64 b) := by simp [go_sem]
  have pa2 : (w.alloc (.cells #[.int .i64 a, .int .i64 b, .int .i64 d] 40)).cell? ⟨w.heap.size, 2, none⟩ = some (.int .i64 d) := by simp [go_sem]
  have pal : w.heap.size < (w.alloc (.cells #[.int .i64 a, .int .i64 b, .int .i64 d] 40)).heap.size := by simp <;> omega
  generalize w.alloc (.cells #[.int .i64 a, .int .i64 b, .int .i64 d] 40) = v1 at *
  go_wp2_with fail
  go_region_held3 (fun w' => w'.cell? ⟨w.heap.size, 0, none⟩ = some (.int .i64 a) ∧ w'.cell? ⟨w.heap.size, 1, none⟩ = some (.int .i64 b) ∧ w'.cell? ⟨w.heap.size, 2, none⟩ = some (.int .i64 d)) (exact ⟨pa0, pa1, pa2⟩) (fail)
  have bD : Below v1.heap.size v1 v1.drew := below_drewN (Below.refl _ _) 1
  replace pa0 := (bD.cell (p := ⟨w.heap.size, 0, none⟩) pal).trans pa0
  replace pa1 := (bD.cell (p := ⟨w.heap.size, 1, none⟩) pal).trans pa1
  replace pa2 := (bD.cell (p := ⟨w.heap.size, 2, none⟩) pal).trans pa2
  replace pal := Nat.lt_of_lt_of_le pal bD.size
  replace cc := cc.trans (bD.mono cc.size)
  clear bD
  generalize v1.drew = v2 at *
  go_wp2_with fail
  refine (C0 _).mono ?_
  rintro e w3 ⟨rfl, b⟩
  replace pa0 := (b.cell (p := ⟨w.heap.size, 0, none⟩) pal).trans pa0
  replace pa1 := (b.cell (p := ⟨w.heap.size, 1, none⟩) pal).trans pa1
  replace pa2 := (b.cell (p := ⟨w.heap.size, 2, none⟩) pal).trans pa2
  replace pal := Nat.lt_of_lt_of_le pal b.size
  replace cc := cc.trans (b.mono cc.size)
  clear b
  go_wp2_with fail
  refine (C1 _).mono ?_
  rintro e w4 ⟨rfl, b⟩
  replace pa0 := (b.cell (p := ⟨w.heap.size, 0, none⟩) pal).trans pa0
  replace pa1 := (b.cell (p := ⟨w.heap.size, 1, none⟩) pal).trans pa1
  replace pa2 := (b.cell (p := ⟨w.heap.size, 2, none⟩) pal).trans pa2
  replace pal := Nat.lt_of_lt_of_le pal b.size
  replace cc := cc.trans (b.mono cc.size)
  clear b
  go_wp2_with fail
  refine (alive10_any _).mono ?_
  rintro e w5 ⟨rfl, b⟩
  replace pa0 := (b.cell (p := ⟨w.heap.size, 0, none⟩) pal).trans pa0
  replace pa1 := (b.cell (p := ⟨w.heap.size, 1, none⟩) pal).trans pa1
  replace pa2 := (b.cell (p := ⟨w.heap.size, 2, none⟩) pal).trans pa2
  replace pal := Nat.lt_of_lt_of_le pal b.size
  replace cc := cc.trans (b.mono cc.size)
  clear b
  go_wp2_with fail
  go_ret
  exact ⟨rfl, cc⟩

set_option maxRecDepth 100000 in
set_option maxHeartbeats 8000000 in
theorem CodeOrder_le {w : World} {k a b d : Int} {x y : Nat} (C0 : ∀ W : World, Calls Try.prog 8 #[.int .i64 k, .int .i64 a, .int .i64 d] W (GotV W (.tuple #[.int .u8 (x : Int), .int .i64 0]))) (C1 : ∀ W : World, Calls Try.prog 8 #[.int .i64 k, .int .i64 b, .int .i64 d] W (GotV W (.tuple #[.int .u8 (y : Int), .int .i64 0]))) (C2 : ∀ W : World, Calls Try.prog 8 #[.int .i64 k, .int .i64 d, .int .i64 d] W (GotV W (.tuple #[.int .u8 255, .int .i64 0]))) (hab : a ≤ b) (hxy : x ≤ y) (hx : x < 256) (hy : y < 256) :
    Calls Try.prog 5 #[.int .i64 k, .agg #[.int .i64 a, .int .i64 b, .int .i64 d]] w fun e w' => e = .returned (.bool true) ∧ Below w.heap.size w w' := by
  have t1 : decide (b < a) = false := decide_eq_false (by omega)
  have t2 : decide ((x : Int) ≤ (y : Int)) = true := decide_eq_true (by omega)
  have t3 : decide (x ≤ y) = true := decide_eq_true hxy
  have x6 : (x : Int) < 256 := by omega
  have y6 : (y : Int) < 256 := by omega
  clear hab hxy
  have cc := Below.refl w.heap.size w
  go_enter Try.func5, Try.ntmps5
  go_wp2_with fail
  have bA : Below w.heap.size w (w.alloc (.cells #[.int .i64 a, .int .i64 b, .int .i64 d] 40)) := ((Below.refl _ w).alloc (by simp) _)
  replace cc := cc.trans (bA.mono cc.size)
  clear bA
  have pa0 : (w.alloc (.cells #[.int .i64 a, .int .i64 b, .int .i64 d] 40)).cell? ⟨w.heap.size, 0, none⟩ = some (.int .i64 a) := by simp [go_sem]
  have pa1 : (w.alloc (.cells #[.int .i64 a, .int .i64 b, .int .i64 d] 40)).cell? ⟨w.heap.size, 1, none⟩ = some (.int .i64 b) := by simp [go_sem]
  have pa2 : (w.alloc (.cells #[.int .i64 a, .int .i64 b, .int .i64 d] 40)).cell? ⟨w.heap.size, 2, none⟩ = some (.int .i64 d) := by simp [go_sem]
  have pal : w.heap.size < (w.alloc (.cells #[.int .i64 a, .int .i64 b, .int .i64 d] 40)).heap.size := by simp <;> omega
  generalize w.alloc (.cells #[.int .i64 a, .int .i64 b, .int .i64 d] 40) = v1 at *
  go_wp2_with fail
  go_region_held3 (fun w' => w'.cell? ⟨w.heap.size, 0, none⟩ = some (.int .i64 a) ∧ w'.cell? ⟨w.heap.size, 1, none⟩ = some (.int .i64 b) ∧ w'.cell? ⟨w.heap.size, 2, none⟩ = some (.int .i64 d)) (exact ⟨pa0, pa1, pa2⟩) (fail)
  have bD : Below v1.heap.size v1 v1.drew := below_drewN (Below.refl _ _) 1
  replace pa0 := (bD.cell (p := ⟨w.heap.size, 0, none⟩) pal).trans pa0
  replace pa1 := (bD.cell (p := ⟨w.heap.size, 1, none⟩) pal).trans pa1
  replace pa2 := (bD.cell (p := ⟨w.heap.size, 2, none⟩) pal).trans pa2
  replace pal := Nat.lt_of_lt_of_le pal bD.size
  replace cc := cc.trans (bD.mono cc.size)
  clear bD
  generalize v1.drew = v2 at *
  go_wp2_with fail
  refine (C0 _).mono ?_
  rintro e w3 ⟨rfl, b⟩
  replace pa0 := (b.cell (p := ⟨w.heap.size, 0, none⟩) pal).trans pa0
  replace pa1 := (b.cell (p := ⟨w.heap.size, 1, none⟩) pal).trans pa1
  replace pa2 := (b.cell (p := ⟨w.heap.size, 2, none⟩) pal).trans pa2
  replace pal := Nat.lt_of_lt_of_le pal b.size
  replace cc := cc.trans (b.mono cc.size)
  clear b
  go_wp2_with fail
  refine (C1 _).mono ?_
  rintro e w4 ⟨rfl, b⟩
  replace pa0 := (b.cell (p := ⟨w.heap.size, 0, none⟩) pal).trans pa0
  replace pa1 := (b.cell (p := ⟨w.heap.size, 1, none⟩) pal).trans pa1
  replace pa2 := (b.cell (p := ⟨w.heap.size, 2, none⟩) pal).trans pa2
  replace pal := Nat.lt_of_lt_of_le pal b.size
  replace cc := cc.trans (b.mono cc.size)
  clear b
  go_wp2_with fail
  refine (C2 _).mono ?_
  rintro e w5 ⟨rfl, b⟩
  replace pa0 := (b.cell (p := ⟨w.heap.size, 0, none⟩) pal).trans pa0
  replace pa1 := (b.cell (p := ⟨w.heap.size, 1, none⟩) pal).trans pa1
  replace pa2 := (b.cell (p := ⟨w.heap.size, 2, none⟩) pal).trans pa2
  replace pal := Nat.lt_of_lt_of_le pal b.size
  replace cc := cc.trans (b.mono cc.size)
  clear b
  go_wp2_with fail
  refine (alive10_any _).mono ?_
  rintro e w6 ⟨rfl, b⟩
  replace pa0 := (b.cell (p := ⟨w.heap.size, 0, none⟩) pal).trans pa0
  replace pa1 := (b.cell (p := ⟨w.heap.size, 1, none⟩) pal).trans pa1
  replace pa2 := (b.cell (p := ⟨w.heap.size, 2, none⟩) pal).trans pa2
  replace pal := Nat.lt_of_lt_of_le pal b.size
  replace cc := cc.trans (b.mono cc.size)
  clear b
  go_wp2_with fail
  go_ret
  exact ⟨rfl, cc⟩

theorem shr_den {k a d : Int} (h : Shr k a d) : Shr k d d := ⟨h.1, h.2.1, Int.le_refl _, by have := h.2.1; omega, .inl (by have := h.2.1; omega)⟩
theorem CodeOrder_walk {w : World} (k : Int) (wk : (Lit.int .i64 k).wf = true) (a b d : Int) (wa : (Lit.int .i64 a).wf = true) (wb : (Lit.int .i64 b).wf = true) (wd : (Lit.int .i64 d).wf = true) :
    Calls Try.prog 5 #[.int .i64 k, .agg #[.int .i64 a, .int .i64 b, .int .i64 d]] w fun e w' => e = .returned (.bool true) ∧ Below w.heap.size w w' := by
  have ha := i64_wf wa
  have hb := i64_wf wb
  have hd := i64_wf wd
  by_cases hS : Shr k a d
  · by_cases hT : Shr k b d
    · by_cases hab : a ≤ b
      · have h1 := near10_le k a d
        have h2 := near10_le k b d
        have h3 := hS.2.1
        exact CodeOrder_le (fun W => cNear_yes W ha hd hS) (fun W => cNear_yes W hb hd hT) (fun W => by have h := cNear_yes W hd hd (shr_den hS); rw [near10_den hS.1 (by omega)] at h; exact h) hab (near10_mono hS.1 (by omega) hab) (by omega) (by omega)
      · exact CodeOrder_gt (fun W => cNear_yes W ha hd hS) (fun W => cNear_yes W hb hd hT) (by omega)
    · exact CodeOrder_b (fun W => cNear_yes W ha hd hS) (fun W => cNear_no W hb hd hT)
  · by_cases hT : Shr k b d
    · exact CodeOrder_a (fun W => cNear_no W ha hd hS) (fun W => cNear_yes W hb hd hT)
    · exact CodeOrder_a (fun W => cNear_no W ha hd hS) (fun W => cNear_no W hb hd hT)

end Go.Proofs.Ytgglcgkgeilblaa
