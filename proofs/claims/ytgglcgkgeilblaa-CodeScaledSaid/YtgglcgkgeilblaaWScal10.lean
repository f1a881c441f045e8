/-
  The walk of CodeScaled.
-/
import Derived.Test.YtgglcgkgeilblaaA5
namespace Go.Proofs.Ytgglcgkgeilblaa
set_option maxRecDepth 100000
open Go.RowKit
set_option linter.unusedVariables false
set_option linter.unusedSimpArgs false

set_option maxRecDepth 100000 in
set_option maxHeartbeats 8000000 in
theorem CodeScaled_0 {w : World} {k a d t : Int} (h0 : 1099511627776 < d) :
    Calls Try.prog 7 #[.int .i64 k, .agg #[.int .i64 a, .int .i64 d], .int .u16 t] w fun e w' => e = .returned (.bool true) ∧ Below w.heap.size w w' := by
  have t0 : decide (1099511627776 < d) = true := decide_eq_true (by omega)
  clear h0
  have cc := Below.refl w.heap.size w
  go_enter Try.func7, Try.ntmps7
  go_wp2_with fail
  have bA : Below w.heap.size w (w.alloc (.cells #[.int .i64 a, .int .i64 d] 22)) := ((Below.refl _ w).alloc (by simp) _)
  replace cc := cc.trans (bA.mono cc.size)
  clear bA
  have pa0 : (w.alloc (.cells #[.int .i64 a, .int .i64 d] 22)).cell? ⟨w.heap.size, 0, none⟩ = some (.int .i64 a) := by simp [go_sem]
  have pa1 : (w.alloc (.cells #[.int .i64 a, .int .i64 d] 22)).cell? ⟨w.heap.size, 1, none⟩ = some (.int .i64 d) := by simp [go_sem]
  have pal : w.heap.size < (w.alloc (.cells #[.int .i64 a, .int .i64 d] 22)).heap.size := by simp <;> omega
  generalize w.alloc (.cells #[.int .i64 a, .int .i64 d] 22) = v1 at *
  go_wp2_with fail
  go_region_held3 (fun w' => w'.cell? ⟨w.heap.size, 0, none⟩ = some (.int .i64 a) ∧ w'.cell? ⟨w.heap.size, 1, none⟩ = some (.int .i64 d)) (exact ⟨pa0, pa1⟩) (fail)
  have bD : Below v1.heap.size v1 v1.drew := below_drewN (Below.refl _ _) 1
  replace pa0 := (bD.cell (p := ⟨w.heap.size, 0, none⟩) pal).trans pa0
  replace pa1 := (bD.cell (p := ⟨w.heap.size, 1, none⟩) pal).trans pa1
  replace pal := Nat.lt_of_lt_of_le pal bD.size
  replace cc := cc.trans (bD.mono cc.size)
  clear bD
  generalize v1.drew = v2 at *
  go_wp2_with fail
  refine (alive10_any _).mono ?_
  rintro e w3 ⟨rfl, b⟩
  replace pa0 := (b.cell (p := ⟨w.heap.size, 0, none⟩) pal).trans pa0
  replace pa1 := (b.cell (p := ⟨w.heap.size, 1, none⟩) pal).trans pa1
  replace pal := Nat.lt_of_lt_of_le pal b.size
  replace cc := cc.trans (b.mono cc.size)
  clear b
  go_wp2_with fail
  go_ret
  exact ⟨rfl, cc⟩

set_option maxRecDepth 100000 in
set_option maxHeartbeats 8000000 in
theorem CodeScaled_1 {w : World} {k a d t : Int} (h0 : ¬ 1099511627776 < d) (h1 : a < -1099511627776) :
    Calls Try.prog 7 #[.int .i64 k, .agg #[.int .i64 a, .int .i64 d], .int .u16 t] w fun e w' => e = .returned (.bool true) ∧ Below w.heap.size w w' := by
  have t0 : decide (1099511627776 < d) = false := decide_eq_false (by omega)
  have t1 : decide (a < -1099511627776) = true := decide_eq_true (by omega)
  clear h0 h1
  have cc := Below.refl w.heap.size w
  go_enter Try.func7, Try.ntmps7
  go_wp2_with fail
  have bA : Below w.heap.size w (w.alloc (.cells #[.int .i64 a, .int .i64 d] 22)) := ((Below.refl _ w).alloc (by simp) _)
  replace cc := cc.trans (bA.mono cc.size)
  clear bA
  have pa0 : (w.alloc (.cells #[.int .i64 a, .int .i64 d] 22)).cell? ⟨w.heap.size, 0, none⟩ = some (.int .i64 a) := by simp [go_sem]
  have pa1 : (w.alloc (.cells #[.int .i64 a, .int .i64 d] 22)).cell? ⟨w.heap.size, 1, none⟩ = some (.int .i64 d) := by simp [go_sem]
  have pal : w.heap.size < (w.alloc (.cells #[.int .i64 a, .int .i64 d] 22)).heap.size := by simp <;> omega
  generalize w.alloc (.cells #[.int .i64 a, .int .i64 d] 22) = v1 at *
  go_wp2_with fail
  go_region_held3 (fun w' => w'.cell? ⟨w.heap.size, 0, none⟩ = some (.int .i64 a) ∧ w'.cell? ⟨w.heap.size, 1, none⟩ = some (.int .i64 d)) (exact ⟨pa0, pa1⟩) (fail)
  have bD : Below v1.heap.size v1 v1.drew := below_drewN (Below.refl _ _) 1
  replace pa0 := (bD.cell (p := ⟨w.heap.size, 0, none⟩) pal).trans pa0
  replace pa1 := (bD.cell (p := ⟨w.heap.size, 1, none⟩) pal).trans pa1
  replace pal := Nat.lt_of_lt_of_le pal bD.size
  replace cc := cc.trans (bD.mono cc.size)
  clear bD
  generalize v1.drew = v2 at *
  go_wp2_with fail
  refine (alive10_any _).mono ?_
  rintro e w3 ⟨rfl, b⟩
  replace pa0 := (b.cell (p := ⟨w.heap.size, 0, none⟩) pal).trans pa0
  replace pa1 := (b.cell (p := ⟨w.heap.size, 1, none⟩) pal).trans pa1
  replace pal := Nat.lt_of_lt_of_le pal b.size
  replace cc := cc.trans (b.mono cc.size)
  clear b
  go_wp2_with fail
  go_ret
  exact ⟨rfl, cc⟩

set_option maxRecDepth 100000 in
set_option maxHeartbeats 8000000 in
theorem CodeScaled_2 {w : World} {k a d t : Int} (h0 : ¬ 1099511627776 < d) (h1 : ¬ a < -1099511627776) (h2 : 1099511627776 < a) :
    Calls Try.prog 7 #[.int .i64 k, .agg #[.int .i64 a, .int .i64 d], .int .u16 t] w fun e w' => e = .returned (.bool true) ∧ Below w.heap.size w w' := by
  have t0 : decide (1099511627776 < d) = false := decide_eq_false (by omega)
  have t1 : decide (a < -1099511627776) = false := decide_eq_false (by omega)
  have t2 : decide (1099511627776 < a) = true := decide_eq_true (by omega)
  clear h0 h1 h2
  have cc := Below.refl w.heap.size w
  go_enter Try.func7, Try.ntmps7
  go_wp2_with fail
  have bA : Below w.heap.size w (w.alloc (.cells #[.int .i64 a, .int .i64 d] 22)) := ((Below.refl _ w).alloc (by simp) _)
  replace cc := cc.trans (bA.mono cc.size)
  clear bA
  have pa0 : (w.alloc (.cells #[.int .i64 a, .int .i64 d] 22)).cell? ⟨w.heap.size, 0, none⟩ = some (.int .i64 a) := by simp [go_sem]
  have pa1 : (w.alloc (.cells #[.int .i64 a, .int .i64 d] 22)).cell? ⟨w.heap.size, 1, none⟩ = some (.int .i64 d) := by simp [go_sem]
  have pal : w.heap.size < (w.alloc (.cells #[.int .i64 a, .int .i64 d] 22)).heap.size := by simp <;> omega
  generalize w.alloc (.cells #[.int .i64 a, .int .i64 d] 22) = v1 at *
  go_wp2_with fail
  go_region_held3 (fun w' => w'.cell? ⟨w.heap.size, 0, none⟩ = some (.int .i64 a) ∧ w'.cell? ⟨w.heap.size, 1, none⟩ = some (.int .i64 d)) (exact ⟨pa0, pa1⟩) (fail)
  have bD : Below v1.heap.size v1 v1.drew := below_drewN (Below.refl _ _) 1
  replace pa0 := (bD.cell (p := ⟨w.heap.size, 0, none⟩) pal).trans pa0
  replace pa1 := (bD.cell (p := ⟨w.heap.size, 1, none⟩) pal).trans pa1
  replace pal := Nat.lt_of_lt_of_le pal bD.size
  replace cc := cc.trans (bD.mono cc.size)
  clear bD
  generalize v1.drew = v2 at *
  go_wp2_with fail
  refine (alive10_any _).mono ?_
  rintro e w3 ⟨rfl, b⟩
  replace pa0 := (b.cell (p := ⟨w.heap.size, 0, none⟩) pal).trans pa0
  replace pa1 := (b.cell (p := ⟨w.heap.size, 1, none⟩) pal).trans pa1
  replace pal := Nat.lt_of_lt_of_le pal b.size
  replace cc := cc.trans (b.mono cc.size)
  clear b
  go_wp2_with fail
  go_ret
  exact ⟨rfl, cc⟩

set_option maxRecDepth 100000 in
set_option maxHeartbeats 8000000 in
theorem CodeScaled_3 {w : World} {k a d t : Int} (h0 : ¬ 1099511627776 < d) (h1 : ¬ a < -1099511627776) (h2 : ¬ 1099511627776 < a) (h3 : d < 1) :
    Calls Try.prog 7 #[.int .i64 k, .agg #[.int .i64 a, .int .i64 d], .int .u16 t] w fun e w' => e = .returned (.bool true) ∧ Below w.heap.size w w' := by
  have t0 : decide (1099511627776 < d) = false := decide_eq_false (by omega)
  have t1 : decide (a < -1099511627776) = false := decide_eq_false (by omega)
  have t2 : decide (1099511627776 < a) = false := decide_eq_false (by omega)
  have t3 : decide (d < 1) = true := decide_eq_true (by omega)
  clear h0 h1 h2 h3
  have cc := Below.refl w.heap.size w
  go_enter Try.func7, Try.ntmps7
  go_wp2_with fail
  have bA : Below w.heap.size w (w.alloc (.cells #[.int .i64 a, .int .i64 d] 22)) := ((Below.refl _ w).alloc (by simp) _)
  replace cc := cc.trans (bA.mono cc.size)
  clear bA
  have pa0 : (w.alloc (.cells #[.int .i64 a, .int .i64 d] 22)).cell? ⟨w.heap.size, 0, none⟩ = some (.int .i64 a) := by simp [go_sem]
  have pa1 : (w.alloc (.cells #[.int .i64 a, .int .i64 d] 22)).cell? ⟨w.heap.size, 1, none⟩ = some (.int .i64 d) := by simp [go_sem]
  have pal : w.heap.size < (w.alloc (.cells #[.int .i64 a, .int .i64 d] 22)).heap.size := by simp <;> omega
  generalize w.alloc (.cells #[.int .i64 a, .int .i64 d] 22) = v1 at *
  go_wp2_with fail
  go_region_held3 (fun w' => w'.cell? ⟨w.heap.size, 0, none⟩ = some (.int .i64 a) ∧ w'.cell? ⟨w.heap.size, 1, none⟩ = some (.int .i64 d)) (exact ⟨pa0, pa1⟩) (fail)
  have bD : Below v1.heap.size v1 v1.drew := below_drewN (Below.refl _ _) 1
  replace pa0 := (bD.cell (p := ⟨w.heap.size, 0, none⟩) pal).trans pa0
  replace pa1 := (bD.cell (p := ⟨w.heap.size, 1, none⟩) pal).trans pa1
  replace pal := Nat.lt_of_lt_of_le pal bD.size
  replace cc := cc.trans (bD.mono cc.size)
  clear bD
  generalize v1.drew = v2 at *
  go_wp2_with fail
  refine (alive10_any _).mono ?_
  rintro e w3 ⟨rfl, b⟩
  replace pa0 := (b.cell (p := ⟨w.heap.size, 0, none⟩) pal).trans pa0
  replace pa1 := (b.cell (p := ⟨w.heap.size, 1, none⟩) pal).trans pa1
  replace pal := Nat.lt_of_lt_of_le pal b.size
  replace cc := cc.trans (b.mono cc.size)
  clear b
  go_wp2_with fail
  go_ret
  exact ⟨rfl, cc⟩

set_option maxRecDepth 100000 in
set_option maxHeartbeats 8000000 in
theorem CodeScaled_4 {w : World} {k a d t u N M x e : Int} (h0 : ¬ 1099511627776 < d) (h1 : ¬ a < -1099511627776) (h2 : ¬ 1099511627776 < a) (h3 : ¬ d < 1) (ht0 : 0 ≤ t) (ht1 : t < 65536) (hu : u = t + 1) (eN : N = a * u) (eM : M = d * u) (hN : I64 N) (hM : I64 M) (C0 : ∀ W : World, Calls Try.prog 8 #[.int .i64 k, .int .i64 a, .int .i64 d] W (GotV W (.tuple #[.int .u8 x, .int .i64 e]))) (C1 : ∀ W : World, Calls Try.prog 8 #[.int .i64 k, .int .i64 N, .int .i64 M] W (GotV W (.tuple #[.int .u8 x, .int .i64 e]))) :
    Calls Try.prog 7 #[.int .i64 k, .agg #[.int .i64 a, .int .i64 d], .int .u16 t] w fun e w' => e = .returned (.bool true) ∧ Below w.heap.size w w' := by
  have t0 : decide (1099511627776 < d) = false := decide_eq_false (by omega)
  have t1 : decide (a < -1099511627776) = false := decide_eq_false (by omega)
  have t2 : decide (1099511627776 < a) = false := decide_eq_false (by omega)
  have t3 : decide (d < 1) = false := decide_eq_false (by omega)
  have k1 : IntKind.i64.wrap t = t := IntWalk.i64_in _ (by omega)
  have k2 : IntKind.i64.wrap (t + 1) = u := by rw [IntWalk.i64_in _ (by omega)]; omega
  have k3 : IntKind.i64.wrap (a * u) = N := by rw [IntWalk.i64_in _ (by unfold I64 at hN; omega)]; omega
  have k4 : IntKind.i64.wrap (d * u) = M := by rw [IntWalk.i64_in _ (by unfold I64 at hM; omega)]; omega
  clear hN hM eN eM hu
  clear h0 h1 h2 h3
  have cc := Below.refl w.heap.size w
  go_enter Try.func7, Try.ntmps7
  go_wp2_with fail
  have bA : Below w.heap.size w (w.alloc (.cells #[.int .i64 a, .int .i64 d] 22)) := ((Below.refl _ w).alloc (by simp) _)
  replace cc := cc.trans (bA.mono cc.size)
  clear bA
  have pa0 : (w.alloc (.cells #[.int .i64 a, .int .i64 d] 22)).cell? ⟨w.heap.size, 0, none⟩ = some (.int .i64 a) := by simp [go_sem]
  have pa1 : (w.alloc (.cells #[.int .i64 a, .int .i64 d] 22)).cell? ⟨w.heap.size, 1, none⟩ = some (.int .i64 d) := by simp [go_sem]
  have pal : w.heap.size < (w.alloc (.cells #[.int .i64 a, .int .i64 d] 22)).heap.size := by simp <;> omega
  generalize w.alloc (.cells #[.int .i64 a, .int .i64 d] 22) = v1 at *
  go_wp2_with fail
  go_region_held3 (fun w' => w'.cell? ⟨w.heap.size, 0, none⟩ = some (.int .i64 a) ∧ w'.cell? ⟨w.heap.size, 1, none⟩ = some (.int .i64 d)) (exact ⟨pa0, pa1⟩) (fail)
  have bD : Below v1.heap.size v1 v1.drew := below_drewN (Below.refl _ _) 1
  replace pa0 := (bD.cell (p := ⟨w.heap.size, 0, none⟩) pal).trans pa0
  replace pa1 := (bD.cell (p := ⟨w.heap.size, 1, none⟩) pal).trans pa1
  replace pal := Nat.lt_of_lt_of_le pal bD.size
  replace cc := cc.trans (bD.mono cc.size)
  clear bD
  generalize v1.drew = v2 at *
  go_wp2_with fail
  refine (C0 _).mono ?_
  rintro e w3 ⟨rfl, b⟩
  replace pa0 := (b.cell (p := ⟨w.heap.size, 0, none⟩) pal).trans pa0
  replace pa1 := (b.cell (p := ⟨w.heap.size, 1, none⟩) pal).trans pa1
  replace pal := Nat.lt_of_lt_of_le pal b.size
  replace cc := cc.trans (b.mono cc.size)
  clear b
  go_wp2_with fail
  refine (C1 _).mono ?_
  rintro e w4 ⟨rfl, b⟩
  replace pa0 := (b.cell (p := ⟨w.heap.size, 0, none⟩) pal).trans pa0
  replace pa1 := (b.cell (p := ⟨w.heap.size, 1, none⟩) pal).trans pa1
  replace pal := Nat.lt_of_lt_of_le pal b.size
  replace cc := cc.trans (b.mono cc.size)
  clear b
  go_wp2_with fail
  refine (alive10_any _).mono ?_
  rintro e w5 ⟨rfl, b⟩
  replace pa0 := (b.cell (p := ⟨w.heap.size, 0, none⟩) pal).trans pa0
  replace pa1 := (b.cell (p := ⟨w.heap.size, 1, none⟩) pal).trans pa1
  replace pal := Nat.lt_of_lt_of_le pal b.size
  replace cc := cc.trans (b.mono cc.size)
  clear b
  go_wp2_with fail
  go_ret
  exact ⟨rfl, cc⟩

theorem CodeScaled_walk {w : World} (k : Int) (wk : (Lit.int .i64 k).wf = true) (a d : Int) (wa : (Lit.int .i64 a).wf = true) (wd : (Lit.int .i64 d).wf = true) (t : Int) (wt : (Lit.int .u16 t).wf = true) :
    Calls Try.prog 7 #[.int .i64 k, .agg #[.int .i64 a, .int .i64 d], .int .u16 t] w fun e w' => e = .returned (.bool true) ∧ Below w.heap.size w w' := by
  obtain ⟨t0, t1⟩ := u16_nat wt
  have ha := i64_wf wa
  have hd := i64_wf wd
  by_cases h0 : 1099511627776 < d
  · exact CodeScaled_0 h0
  by_cases h1 : a < -1099511627776
  · exact CodeScaled_1 h0 h1
  by_cases h2 : 1099511627776 < a
  · exact CodeScaled_2 h0 h1 h2
  by_cases h3 : d < 1
  · exact CodeScaled_3 h0 h1 h2 h3
  have p1 := Int.mul_le_mul_of_nonneg_right (show -1099511627776 ≤ a by omega) (show 0 ≤ t + 1 by omega)
  have p2 := Int.mul_le_mul_of_nonneg_right (show a ≤ 1099511627776 by omega) (show 0 ≤ t + 1 by omega)
  have p3 := Int.mul_le_mul_of_nonneg_right (show 0 ≤ d by omega) (show 0 ≤ t + 1 by omega)
  have p4 := Int.mul_le_mul_of_nonneg_right (show d ≤ 1099511627776 by omega) (show 0 ≤ t + 1 by omega)
  have hN : I64 (a * (t + 1)) := by unfold I64; omega
  have hM : I64 (d * (t + 1)) := by unfold I64; omega
  have hp : 0 < t + 1 := by omega
  by_cases hS : Shr k a d
  · exact CodeScaled_4 h0 h1 h2 h3 t0 t1 rfl rfl rfl hN hM (fun W => cNear_yes W ha hd hS) (fun W => by have e := cNear_yes W hN hM ((shr_scale hp).2 hS); rw [near10_scale hp] at e; exact e)
  · exact CodeScaled_4 h0 h1 h2 h3 t0 t1 rfl rfl rfl hN hM (fun W => cNear_no W ha hd hS) (fun W => cNear_no W hN hM (fun x => hS ((shr_scale hp).1 x)))

end Go.Proofs.Ytgglcgkgeilblaa
