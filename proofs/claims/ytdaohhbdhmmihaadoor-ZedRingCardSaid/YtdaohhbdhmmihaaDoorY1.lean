/-
  Several texts in one: YRing1, YRing.
-/
import Derived.Test.YtdaohhbdhmmihaaDoorA6

/-
  The walk of ZedRing, where the integers are right and of few limbs.
-/
namespace Go.Proofs.YtdaohhbdhmmihaaDoor
open Go.RowKit
set_option linter.unusedVariables false

set_option maxRecDepth 100000 in
set_option maxHeartbeats 8000000 in
theorem ZedRing_ok {w : World} {b0 b1 b2 : Bool} {a0 a1 a2 : Option Addr} {len0 cap0 len1 cap1 len2 cap2 : Nat} {z0 : Int} (h0 : Zn w b0 a0 len0 cap0 z0) {z1 : Int} (h1 : Zn w b1 a1 len1 cap1 z1) {z2 : Int} (h2 : Zn w b2 a2 len2 cap2 z2) (l0 : (limbs z0.natAbs).length ≤ 6) (l1 : (limbs z1.natAbs).length ≤ 6) (l2 : (limbs z2.natAbs).length ≤ 6) (ht : Tab w) (G0 : ∀ W : World, Below w.heap.size w W → Calls Tryd.prog 24 #[.agg #[.bool b0, .slice a0 len0 cap0], .int .i64 6] W (GotV W (.bool true))) (G1 : ∀ W : World, Below w.heap.size w W → Calls Tryd.prog 24 #[.agg #[.bool b1, .slice a1 len1 cap1], .int .i64 6] W (GotV W (.bool true))) (G2 : ∀ W : World, Below w.heap.size w W → Calls Tryd.prog 24 #[.agg #[.bool b2, .slice a2 len2 cap2], .int .i64 6] W (GotV W (.bool true))) :
    Calls Tryd.prog 4 #[.agg #[.bool b0, .slice a0 len0 cap0], .agg #[.bool b1, .slice a1 len1 cap1], .agg #[.bool b2, .slice a2 len2 cap2]] w fun e w' => e = .returned (.bool true) ∧ Below w.heap.size w w' := by
  have m0 : (limbs z0.natAbs).length ≤ 300 := by omega
  have m1 : (limbs z1.natAbs).length ≤ 300 := by omega
  have m2 : (limbs z2.natAbs).length ≤ 300 := by omega
  have s01 : (limbs (z0 + z1).natAbs).length ≤ 300 := Nat.le_trans (zlen_add (k := 6) l0 l1) (by omega)
  have p01 : (limbs (z0 * z1).natAbs).length ≤ 300 := Nat.le_trans (zlen_mul l0 l1) (by omega)
  have s10 : (limbs (z1 + z0).natAbs).length ≤ 300 := Nat.le_trans (zlen_add (k := 6) l1 l0) (by omega)
  have p10 : (limbs (z1 * z0).natAbs).length ≤ 300 := Nat.le_trans (zlen_mul l1 l0) (by omega)
  have sA : (limbs (z0 + z1 + z2).natAbs).length ≤ 300 := Nat.le_trans (zlen_add (k := 7) (zlen_add (k := 6) l0 l1) (Nat.le_trans l2 (by omega))) (by omega)
  have s12 : (limbs (z1 + z2).natAbs).length ≤ 300 := Nat.le_trans (zlen_add (k := 6) l1 l2) (by omega)
  have sB : (limbs (z0 + (z1 + z2)).natAbs).length ≤ 300 := Nat.le_trans (zlen_add (k := 7) (Nat.le_trans l0 (by omega)) (zlen_add (k := 6) l1 l2)) (by omega)
  have pA : (limbs (z0 * z1 * z2).natAbs).length ≤ 300 := Nat.le_trans (zlen_mul (zlen_mul l0 l1) l2) (by omega)
  have p12 : (limbs (z1 * z2).natAbs).length ≤ 300 := Nat.le_trans (zlen_mul l1 l2) (by omega)
  have pB : (limbs (z0 * (z1 * z2)).natAbs).length ≤ 300 := Nat.le_trans (zlen_mul l0 (zlen_mul l1 l2)) (by omega)
  have pC : (limbs ((z0 + z1) * z2).natAbs).length ≤ 300 := Nat.le_trans (zlen_mul (zlen_add (k := 6) l0 l1) l2) (by omega)
  have p02 : (limbs (z0 * z2).natAbs).length ≤ 300 := Nat.le_trans (zlen_mul l0 l2) (by omega)
  have sC : (limbs (z0 * z2 + z1 * z2).natAbs).length ≤ 300 := Nat.le_trans (zlen_add (k := 12) (zlen_mul l0 l2) (zlen_mul l1 l2)) (by omega)
  have g0 : (limbs (-z0).natAbs).length ≤ 300 := Nat.le_trans (zlen_neg l0) (by omega)
  have g1 : (limbs (z0 + -z0).natAbs).length ≤ 300 := Nat.le_trans (zlen_add (k := 6) l0 (zlen_neg l0)) (by omega)
  have g2 : (limbs (-z0 * z1).natAbs).length ≤ 300 := Nat.le_trans (zlen_mul (zlen_neg l0) l1) (by omega)
  have g3 : (limbs (-(z0 * z1)).natAbs).length ≤ 300 := Nat.le_trans (zlen_neg (zlen_mul l0 l1)) (by omega)
  have e1 : decide (z0 + z1 = z1 + z0) = true := decide_eq_true (Int.add_comm _ _)
  have e2 : decide (z0 * z1 = z1 * z0) = true := decide_eq_true (Int.mul_comm _ _)
  have e3 : decide (z0 + z1 + z2 = z0 + (z1 + z2)) = true := decide_eq_true (Int.add_assoc _ _ _)
  have e4 : decide (z0 * z1 * z2 = z0 * (z1 * z2)) = true := decide_eq_true (Int.mul_assoc _ _ _)
  have e5 : decide ((z0 + z1) * z2 = z0 * z2 + z1 * z2) = true := decide_eq_true (Int.add_mul _ _ _)
  have e6 : decide (z0 + -z0 = 0) = true := decide_eq_true (Int.add_right_neg _)
  have e7 : decide (-z0 * z1 = -(z0 * z1)) = true := decide_eq_true (Int.neg_mul _ _)
  have cc := Below.refl w.heap.size w
  go_enter Tryd.func4, Tryd.ntmps4
  go_wp2_with fail
  have bA : Below w.heap.size w (((w.alloc (.cells #[.bool b0, .slice a0 len0 cap0] 25)).alloc (.cells #[.bool b1, .slice a1 len1 cap1] 25)).alloc (.cells #[.bool b2, .slice a2 len2 cap2] 25)) := ((((Below.refl _ w).alloc (by simp) _).alloc (by simp) _).alloc (by simp <;> omega) _)
  replace h0 := h0.on bA
  replace h1 := h1.on bA
  replace h2 := h2.on bA
  replace cc := cc.trans (bA.mono cc.size)
  clear bA
  have p0 : (((w.alloc (.cells #[.bool b0, .slice a0 len0 cap0] 25)).alloc (.cells #[.bool b1, .slice a1 len1 cap1] 25)).alloc (.cells #[.bool b2, .slice a2 len2 cap2] 25)).cell? ⟨w.heap.size, 0, none⟩ = some (.bool b0) := by simp [go_sem]
  have p1 : (((w.alloc (.cells #[.bool b0, .slice a0 len0 cap0] 25)).alloc (.cells #[.bool b1, .slice a1 len1 cap1] 25)).alloc (.cells #[.bool b2, .slice a2 len2 cap2] 25)).cell? ⟨w.heap.size, 1, none⟩ = some (.slice a0 len0 cap0) := by simp [go_sem]
  have pl : w.heap.size < (((w.alloc (.cells #[.bool b0, .slice a0 len0 cap0] 25)).alloc (.cells #[.bool b1, .slice a1 len1 cap1] 25)).alloc (.cells #[.bool b2, .slice a2 len2 cap2] 25)).heap.size := by simp <;> omega
  have q0 : (((w.alloc (.cells #[.bool b0, .slice a0 len0 cap0] 25)).alloc (.cells #[.bool b1, .slice a1 len1 cap1] 25)).alloc (.cells #[.bool b2, .slice a2 len2 cap2] 25)).cell? ⟨w.heap.size + 1, 0, none⟩ = some (.bool b1) := by simp [go_sem]
  have q1 : (((w.alloc (.cells #[.bool b0, .slice a0 len0 cap0] 25)).alloc (.cells #[.bool b1, .slice a1 len1 cap1] 25)).alloc (.cells #[.bool b2, .slice a2 len2 cap2] 25)).cell? ⟨w.heap.size + 1, 1, none⟩ = some (.slice a1 len1 cap1) := by simp [go_sem]
  have ql : w.heap.size + 1 < (((w.alloc (.cells #[.bool b0, .slice a0 len0 cap0] 25)).alloc (.cells #[.bool b1, .slice a1 len1 cap1] 25)).alloc (.cells #[.bool b2, .slice a2 len2 cap2] 25)).heap.size := by simp <;> omega
  have r0 : (((w.alloc (.cells #[.bool b0, .slice a0 len0 cap0] 25)).alloc (.cells #[.bool b1, .slice a1 len1 cap1] 25)).alloc (.cells #[.bool b2, .slice a2 len2 cap2] 25)).cell? ⟨w.heap.size + 1 + 1, 0, none⟩ = some (.bool b2) := by simp [go_sem]
  have r1 : (((w.alloc (.cells #[.bool b0, .slice a0 len0 cap0] 25)).alloc (.cells #[.bool b1, .slice a1 len1 cap1] 25)).alloc (.cells #[.bool b2, .slice a2 len2 cap2] 25)).cell? ⟨w.heap.size + 1 + 1, 1, none⟩ = some (.slice a2 len2 cap2) := by simp [go_sem]
  have rl : w.heap.size + 1 + 1 < (((w.alloc (.cells #[.bool b0, .slice a0 len0 cap0] 25)).alloc (.cells #[.bool b1, .slice a1 len1 cap1] 25)).alloc (.cells #[.bool b2, .slice a2 len2 cap2] 25)).heap.size := by simp <;> omega
  generalize ((w.alloc (.cells #[.bool b0, .slice a0 len0 cap0] 25)).alloc (.cells #[.bool b1, .slice a1 len1 cap1] 25)).alloc (.cells #[.bool b2, .slice a2 len2 cap2] 25) = v1 at *
  refine (G0 _ cc).mono ?_
  rintro e w2 ⟨rfl, b⟩
  replace h0 := h0.on b
  replace h1 := h1.on b
  replace h2 := h2.on b
  replace p0 := (b.cell (p := ⟨w.heap.size, 0, none⟩) pl).trans p0
  replace p1 := (b.cell (p := ⟨w.heap.size, 1, none⟩) pl).trans p1
  replace pl := Nat.lt_of_lt_of_le pl b.size
  replace q0 := (b.cell (p := ⟨w.heap.size + 1, 0, none⟩) ql).trans q0
  replace q1 := (b.cell (p := ⟨w.heap.size + 1, 1, none⟩) ql).trans q1
  replace ql := Nat.lt_of_lt_of_le ql b.size
  replace r0 := (b.cell (p := ⟨w.heap.size + 1 + 1, 0, none⟩) rl).trans r0
  replace r1 := (b.cell (p := ⟨w.heap.size + 1 + 1, 1, none⟩) rl).trans r1
  replace rl := Nat.lt_of_lt_of_le rl b.size
  replace cc := cc.trans (b.mono cc.size)
  clear b
  go_wp2_with fail
  refine (G1 _ cc).mono ?_
  rintro e w3 ⟨rfl, b⟩
  replace h0 := h0.on b
  replace h1 := h1.on b
  replace h2 := h2.on b
  replace p0 := (b.cell (p := ⟨w.heap.size, 0, none⟩) pl).trans p0
  replace p1 := (b.cell (p := ⟨w.heap.size, 1, none⟩) pl).trans p1
  replace pl := Nat.lt_of_lt_of_le pl b.size
  replace q0 := (b.cell (p := ⟨w.heap.size + 1, 0, none⟩) ql).trans q0
  replace q1 := (b.cell (p := ⟨w.heap.size + 1, 1, none⟩) ql).trans q1
  replace ql := Nat.lt_of_lt_of_le ql b.size
  replace r0 := (b.cell (p := ⟨w.heap.size + 1 + 1, 0, none⟩) rl).trans r0
  replace r1 := (b.cell (p := ⟨w.heap.size + 1 + 1, 1, none⟩) rl).trans r1
  replace rl := Nat.lt_of_lt_of_le rl b.size
  replace cc := cc.trans (b.mono cc.size)
  clear b
  go_wp2_with fail
  refine (G2 _ cc).mono ?_
  rintro e w4 ⟨rfl, b⟩
  replace h0 := h0.on b
  replace h1 := h1.on b
  replace h2 := h2.on b
  replace p0 := (b.cell (p := ⟨w.heap.size, 0, none⟩) pl).trans p0
  replace p1 := (b.cell (p := ⟨w.heap.size, 1, none⟩) pl).trans p1
  replace pl := Nat.lt_of_lt_of_le pl b.size
  replace q0 := (b.cell (p := ⟨w.heap.size + 1, 0, none⟩) ql).trans q0
  replace q1 := (b.cell (p := ⟨w.heap.size + 1, 1, none⟩) ql).trans q1
  replace ql := Nat.lt_of_lt_of_le ql b.size
  replace r0 := (b.cell (p := ⟨w.heap.size + 1 + 1, 0, none⟩) rl).trans r0
  replace r1 := (b.cell (p := ⟨w.heap.size + 1 + 1, 1, none⟩) rl).trans r1
  replace rl := Nat.lt_of_lt_of_le rl b.size
  replace cc := cc.trans (b.mono cc.size)
  clear b
  go_upto_region 3 with fail
  go_cut [7, 8] (fun ux uy wx => ∃ (gx gy : Nat) (bx : Bool) (Ax : Option Addr) (nx kx : Nat) (bY : Bool) (Ay : Option Addr) (ny ky : Nat), ux = .pointer (some ⟨gx, 0, none⟩) ∧ uy = .pointer (some ⟨gy, 0, none⟩) ∧ Both w4 wx gx gy bx Ax nx kx bY Ay ny ky (z0 + z1) (z0 * z1))
  case first =>
    have B0 : Below w4.heap.size w4 w4.drew := below_drewN (Below.refl _ w4) 1
    have B1 : Below w4.heap.size w4 (w4.alloc (.cells #[.bool false, .slice none 0 0] 25)).drew := below_drewN (below_one _ _) 1
    have B2 : Below w4.heap.size w4 ((w4.alloc (.cells #[.bool false, .slice none 0 0] 25)).alloc (.cells #[.bool false, .slice none 0 0] 25)).drew := below_drewN (below_two _ _ _) 1
    go_region_held3 (fun w' => w'.cell? ⟨w.heap.size, 0, none⟩ = some (.bool b0) ∧ w'.cell? ⟨w.heap.size, 1, none⟩ = some (.slice a0 len0 cap0) ∧ w'.cell? ⟨w.heap.size + 1, 0, none⟩ = some (.bool b1) ∧ w'.cell? ⟨w.heap.size + 1, 1, none⟩ = some (.slice a1 len1 cap1) ∧ w'.cell? ⟨w.heap.size + 1 + 1, 0, none⟩ = some (.bool b2) ∧ w'.cell? ⟨w.heap.size + 1 + 1, 1, none⟩ = some (.slice a2 len2 cap2))
      (first | with_reducible exact ⟨p0, p1, q0, q1, r0, r1⟩ | with_reducible exact ⟨keep_alloc (p0), keep_alloc (p1), keep_alloc (q0), keep_alloc (q1), keep_alloc (r0), keep_alloc (r1)⟩ | with_reducible exact ⟨keep_alloc (keep_alloc (p0)), keep_alloc (keep_alloc (p1)), keep_alloc (keep_alloc (q0)), keep_alloc (keep_alloc (q1)), keep_alloc (keep_alloc (r0)), keep_alloc (keep_alloc (r1))⟩ | with_reducible exact ⟨(qq.cell (p := ⟨w.heap.size, 0, none⟩) pl).trans p0, (qq.cell (p := ⟨w.heap.size, 1, none⟩) pl).trans p1, (qq.cell (p := ⟨w.heap.size + 1, 0, none⟩) ql).trans q0, (qq.cell (p := ⟨w.heap.size + 1, 1, none⟩) ql).trans q1, (qq.cell (p := ⟨w.heap.size + 1 + 1, 0, none⟩) rl).trans r0, (qq.cell (p := ⟨w.heap.size + 1 + 1, 1, none⟩) rl).trans r1⟩ | with_reducible exact ⟨keep_alloc ((qq.cell (p := ⟨w.heap.size, 0, none⟩) pl).trans p0), keep_alloc ((qq.cell (p := ⟨w.heap.size, 1, none⟩) pl).trans p1), keep_alloc ((qq.cell (p := ⟨w.heap.size + 1, 0, none⟩) ql).trans q0), keep_alloc ((qq.cell (p := ⟨w.heap.size + 1, 1, none⟩) ql).trans q1), keep_alloc ((qq.cell (p := ⟨w.heap.size + 1 + 1, 0, none⟩) rl).trans r0), keep_alloc ((qq.cell (p := ⟨w.heap.size + 1 + 1, 1, none⟩) rl).trans r1)⟩ | with_reducible exact ⟨keep_alloc (keep_alloc ((qq.cell (p := ⟨w.heap.size, 0, none⟩) pl).trans p0)), keep_alloc (keep_alloc ((qq.cell (p := ⟨w.heap.size, 1, none⟩) pl).trans p1)), keep_alloc (keep_alloc ((qq.cell (p := ⟨w.heap.size + 1, 0, none⟩) ql).trans q0)), keep_alloc (keep_alloc ((qq.cell (p := ⟨w.heap.size + 1, 1, none⟩) ql).trans q1)), keep_alloc (keep_alloc ((qq.cell (p := ⟨w.heap.size + 1 + 1, 0, none⟩) rl).trans r0)), keep_alloc (keep_alloc ((qq.cell (p := ⟨w.heap.size + 1 + 1, 1, none⟩) rl).trans r1))⟩ | with_reducible exact ⟨(cell_store (by omega)).trans ((qq.cell (p := ⟨w.heap.size, 0, none⟩) pl).trans p0), (cell_store (by omega)).trans ((qq.cell (p := ⟨w.heap.size, 1, none⟩) pl).trans p1), (cell_store (by omega)).trans ((qq.cell (p := ⟨w.heap.size + 1, 0, none⟩) ql).trans q0), (cell_store (by omega)).trans ((qq.cell (p := ⟨w.heap.size + 1, 1, none⟩) ql).trans q1), (cell_store (by omega)).trans ((qq.cell (p := ⟨w.heap.size + 1 + 1, 0, none⟩) rl).trans r0), (cell_store (by omega)).trans ((qq.cell (p := ⟨w.heap.size + 1 + 1, 1, none⟩) rl).trans r1)⟩ | with_reducible exact ⟨keep_alloc ((cell_store (by omega)).trans ((qq.cell (p := ⟨w.heap.size, 0, none⟩) pl).trans p0)), keep_alloc ((cell_store (by omega)).trans ((qq.cell (p := ⟨w.heap.size, 1, none⟩) pl).trans p1)), keep_alloc ((cell_store (by omega)).trans ((qq.cell (p := ⟨w.heap.size + 1, 0, none⟩) ql).trans q0)), keep_alloc ((cell_store (by omega)).trans ((qq.cell (p := ⟨w.heap.size + 1, 1, none⟩) ql).trans q1)), keep_alloc ((cell_store (by omega)).trans ((qq.cell (p := ⟨w.heap.size + 1 + 1, 0, none⟩) rl).trans r0)), keep_alloc ((cell_store (by omega)).trans ((qq.cell (p := ⟨w.heap.size + 1 + 1, 1, none⟩) rl).trans r1))⟩ | with_reducible exact ⟨keep_alloc (keep_alloc ((cell_store (by omega)).trans ((qq.cell (p := ⟨w.heap.size, 0, none⟩) pl).trans p0))), keep_alloc (keep_alloc ((cell_store (by omega)).trans ((qq.cell (p := ⟨w.heap.size, 1, none⟩) pl).trans p1))), keep_alloc (keep_alloc ((cell_store (by omega)).trans ((qq.cell (p := ⟨w.heap.size + 1, 0, none⟩) ql).trans q0))), keep_alloc (keep_alloc ((cell_store (by omega)).trans ((qq.cell (p := ⟨w.heap.size + 1, 1, none⟩) ql).trans q1))), keep_alloc (keep_alloc ((cell_store (by omega)).trans ((qq.cell (p := ⟨w.heap.size + 1 + 1, 0, none⟩) rl).trans r0))), keep_alloc (keep_alloc ((cell_store (by omega)).trans ((qq.cell (p := ⟨w.heap.size + 1 + 1, 1, none⟩) rl).trans r1)))⟩ | with_reducible exact ⟨(cell_store (by omega)).trans ((cell_store (by omega)).trans ((qq.cell (p := ⟨w.heap.size, 0, none⟩) pl).trans p0)), (cell_store (by omega)).trans ((cell_store (by omega)).trans ((qq.cell (p := ⟨w.heap.size, 1, none⟩) pl).trans p1)), (cell_store (by omega)).trans ((cell_store (by omega)).trans ((qq.cell (p := ⟨w.heap.size + 1, 0, none⟩) ql).trans q0)), (cell_store (by omega)).trans ((cell_store (by omega)).trans ((qq.cell (p := ⟨w.heap.size + 1, 1, none⟩) ql).trans q1)), (cell_store (by omega)).trans ((cell_store (by omega)).trans ((qq.cell (p := ⟨w.heap.size + 1 + 1, 0, none⟩) rl).trans r0)), (cell_store (by omega)).trans ((cell_store (by omega)).trans ((qq.cell (p := ⟨w.heap.size + 1 + 1, 1, none⟩) rl).trans r1))⟩ | with_reducible exact ⟨keep_alloc ((cell_store (by omega)).trans ((cell_store (by omega)).trans ((qq.cell (p := ⟨w.heap.size, 0, none⟩) pl).trans p0))), keep_alloc ((cell_store (by omega)).trans ((cell_store (by omega)).trans ((qq.cell (p := ⟨w.heap.size, 1, none⟩) pl).trans p1))), keep_alloc ((cell_store (by omega)).trans ((cell_store (by omega)).trans ((qq.cell (p := ⟨w.heap.size + 1, 0, none⟩) ql).trans q0))), keep_alloc ((cell_store (by omega)).trans ((cell_store (by omega)).trans ((qq.cell (p := ⟨w.heap.size + 1, 1, none⟩) ql).trans q1))), keep_alloc ((cell_store (by omega)).trans ((cell_store (by omega)).trans ((qq.cell (p := ⟨w.heap.size + 1 + 1, 0, none⟩) rl).trans r0))), keep_alloc ((cell_store (by omega)).trans ((cell_store (by omega)).trans ((qq.cell (p := ⟨w.heap.size + 1 + 1, 1, none⟩) rl).trans r1)))⟩ | with_reducible exact ⟨keep_alloc (keep_alloc ((cell_store (by omega)).trans ((cell_store (by omega)).trans ((qq.cell (p := ⟨w.heap.size, 0, none⟩) pl).trans p0)))), keep_alloc (keep_alloc ((cell_store (by omega)).trans ((cell_store (by omega)).trans ((qq.cell (p := ⟨w.heap.size, 1, none⟩) pl).trans p1)))), keep_alloc (keep_alloc ((cell_store (by omega)).trans ((cell_store (by omega)).trans ((qq.cell (p := ⟨w.heap.size + 1, 0, none⟩) ql).trans q0)))), keep_alloc (keep_alloc ((cell_store (by omega)).trans ((cell_store (by omega)).trans ((qq.cell (p := ⟨w.heap.size + 1, 1, none⟩) ql).trans q1)))), keep_alloc (keep_alloc ((cell_store (by omega)).trans ((cell_store (by omega)).trans ((qq.cell (p := ⟨w.heap.size + 1 + 1, 0, none⟩) rl).trans r0)))), keep_alloc (keep_alloc ((cell_store (by omega)).trans ((cell_store (by omega)).trans ((qq.cell (p := ⟨w.heap.size + 1 + 1, 1, none⟩) rl).trans r1))))⟩ | go_keep)
      (first
        | (go_at_call 16; (with_reducible refine (zadd_N (h0.on B0) (h1.on B0) m0 m1).mono ?_); rintro e wy ⟨bx, Ax, nx, kx, rfl, hx, q⟩; have qq := B0.trans (q.mono B0.size); have qs := qq.size; clear q)
        | (go_at_call 16; (with_reducible refine (zadd_N (h0.on B1) (h1.on B1) m0 m1).mono ?_); rintro e wy ⟨bx, Ax, nx, kx, rfl, hx, q⟩; have qq := B1.trans (q.mono B1.size); have qs := qq.size; have c00 := (q.cell (p := ⟨w4.heap.size, 0, none⟩) (by simp <;> omega)).trans (show _ = some (.bool false) by simp [go_sem]); have c01 := (q.cell (p := ⟨w4.heap.size, 1, none⟩) (by simp <;> omega)).trans (show _ = some (.slice none 0 0) by simp [go_sem]); have d00 := (q.frozen (p := ⟨w4.heap.size, 0, none⟩) (by simp <;> omega)).trans (show _ = false by simp [go_sem]); have d01 := (q.frozen (p := ⟨w4.heap.size, 1, none⟩) (by simp <;> omega)).trans (show _ = false by simp [go_sem]); have l0 : w4.heap.size < wy.heap.size := Nat.lt_of_lt_of_le (by simp <;> omega) q.size; clear q)
        | (go_at_call 16; (with_reducible refine (zadd_N (h0.on B2) (h1.on B2) m0 m1).mono ?_); rintro e wy ⟨bx, Ax, nx, kx, rfl, hx, q⟩; have qq := B2.trans (q.mono B2.size); have qs := qq.size; have c00 := (q.cell (p := ⟨w4.heap.size, 0, none⟩) (by simp <;> omega)).trans (show _ = some (.bool false) by simp [go_sem]); have c01 := (q.cell (p := ⟨w4.heap.size, 1, none⟩) (by simp <;> omega)).trans (show _ = some (.slice none 0 0) by simp [go_sem]); have d00 := (q.frozen (p := ⟨w4.heap.size, 0, none⟩) (by simp <;> omega)).trans (show _ = false by simp [go_sem]); have d01 := (q.frozen (p := ⟨w4.heap.size, 1, none⟩) (by simp <;> omega)).trans (show _ = false by simp [go_sem]); have l0 : w4.heap.size < wy.heap.size := Nat.lt_of_lt_of_le (by simp <;> omega) q.size; have c10 := (q.cell (p := ⟨w4.heap.size + 1, 0, none⟩) (by simp <;> omega)).trans (show _ = some (.bool false) by simp [go_sem]); have c11 := (q.cell (p := ⟨w4.heap.size + 1, 1, none⟩) (by simp <;> omega)).trans (show _ = some (.slice none 0 0) by simp [go_sem]); have d10 := (q.frozen (p := ⟨w4.heap.size + 1, 0, none⟩) (by simp <;> omega)).trans (show _ = false by simp [go_sem]); have d11 := (q.frozen (p := ⟨w4.heap.size + 1, 1, none⟩) (by simp <;> omega)).trans (show _ = false by simp [go_sem]); have l1 : w4.heap.size + 1 < wy.heap.size := Nat.lt_of_lt_of_le (by simp <;> omega) q.size; clear q)
        | (go_at_call 18; have up := Below.refl wy.heap.size wy; (with_reducible refine (zmul_N ((h0.on qq).on up) ((h1.on qq).on up) (Nat.le_trans m0 (by omega)) (Nat.le_trans m1 (by omega))).mono ?_); rintro e wz ⟨bY, Ay, ny, ky, rfl, hy, q⟩; (try have c00' := (q.cell (Nat.lt_of_lt_of_le l0 up.size)).trans ((up.cell l0).trans c00)); (try have d00' := (q.frozen (Nat.lt_of_lt_of_le l0 up.size)).trans ((up.frozen l0).trans d00)); (try have c01' := (q.cell (Nat.lt_of_lt_of_le l0 up.size)).trans ((up.cell l0).trans c01)); (try have d01' := (q.frozen (Nat.lt_of_lt_of_le l0 up.size)).trans ((up.frozen l0).trans d01)); (try have l0' := Nat.lt_of_lt_of_le l0 (Nat.le_trans up.size q.size)); (try have c10' := (q.cell (Nat.lt_of_lt_of_le l1 up.size)).trans ((up.cell l1).trans c10)); (try have d10' := (q.frozen (Nat.lt_of_lt_of_le l1 up.size)).trans ((up.frozen l1).trans d10)); (try have c11' := (q.cell (Nat.lt_of_lt_of_le l1 up.size)).trans ((up.cell l1).trans c11)); (try have d11' := (q.frozen (Nat.lt_of_lt_of_le l1 up.size)).trans ((up.frozen l1).trans d11)); (try have l1' := Nat.lt_of_lt_of_le l1 (Nat.le_trans up.size q.size)); replace hx := (hx.on up).on q; replace qq := (qq.trans (up.mono qq.size)).trans (q.mono (Nat.le_trans qq.size up.size)); have qs2 := qq.size; clear q up)
        | (go_at_call 18; have up := below_one wy (.cells #[.bool false, .slice none 0 0] 25); (with_reducible refine (zmul_N ((h0.on qq).on up) ((h1.on qq).on up) (Nat.le_trans m0 (by omega)) (Nat.le_trans m1 (by omega))).mono ?_); rintro e wz ⟨bY, Ay, ny, ky, rfl, hy, q⟩; (try have c00' := (q.cell (Nat.lt_of_lt_of_le l0 up.size)).trans ((up.cell l0).trans c00)); (try have d00' := (q.frozen (Nat.lt_of_lt_of_le l0 up.size)).trans ((up.frozen l0).trans d00)); (try have c01' := (q.cell (Nat.lt_of_lt_of_le l0 up.size)).trans ((up.cell l0).trans c01)); (try have d01' := (q.frozen (Nat.lt_of_lt_of_le l0 up.size)).trans ((up.frozen l0).trans d01)); (try have l0' := Nat.lt_of_lt_of_le l0 (Nat.le_trans up.size q.size)); (try have c10' := (q.cell (Nat.lt_of_lt_of_le l1 up.size)).trans ((up.cell l1).trans c10)); (try have d10' := (q.frozen (Nat.lt_of_lt_of_le l1 up.size)).trans ((up.frozen l1).trans d10)); (try have c11' := (q.cell (Nat.lt_of_lt_of_le l1 up.size)).trans ((up.cell l1).trans c11)); (try have d11' := (q.frozen (Nat.lt_of_lt_of_le l1 up.size)).trans ((up.frozen l1).trans d11)); (try have l1' := Nat.lt_of_lt_of_le l1 (Nat.le_trans up.size q.size)); have e00 := (q.cell (p := ⟨wy.heap.size, 0, none⟩) (by simp <;> omega)).trans (show _ = some (.bool false) by simp [go_sem]); have e01 := (q.cell (p := ⟨wy.heap.size, 1, none⟩) (by simp <;> omega)).trans (show _ = some (.slice none 0 0) by simp [go_sem]); have f00 := (q.frozen (p := ⟨wy.heap.size, 0, none⟩) (by simp <;> omega)).trans (show _ = false by simp [go_sem]); have f01 := (q.frozen (p := ⟨wy.heap.size, 1, none⟩) (by simp <;> omega)).trans (show _ = false by simp [go_sem]); have n0 : wy.heap.size < wz.heap.size := Nat.lt_of_lt_of_le (by simp <;> omega) q.size; replace hx := (hx.on up).on q; replace qq := (qq.trans (up.mono qq.size)).trans (q.mono (Nat.le_trans qq.size up.size)); have qs2 := qq.size; clear q up)
        | (go_at_call 18; have up := below_two wy (.cells #[.bool false, .slice none 0 0] 25) (.cells #[.bool false, .slice none 0 0] 25); (with_reducible refine (zmul_N ((h0.on qq).on up) ((h1.on qq).on up) (Nat.le_trans m0 (by omega)) (Nat.le_trans m1 (by omega))).mono ?_); rintro e wz ⟨bY, Ay, ny, ky, rfl, hy, q⟩; (try have c00' := (q.cell (Nat.lt_of_lt_of_le l0 up.size)).trans ((up.cell l0).trans c00)); (try have d00' := (q.frozen (Nat.lt_of_lt_of_le l0 up.size)).trans ((up.frozen l0).trans d00)); (try have c01' := (q.cell (Nat.lt_of_lt_of_le l0 up.size)).trans ((up.cell l0).trans c01)); (try have d01' := (q.frozen (Nat.lt_of_lt_of_le l0 up.size)).trans ((up.frozen l0).trans d01)); (try have l0' := Nat.lt_of_lt_of_le l0 (Nat.le_trans up.size q.size)); (try have c10' := (q.cell (Nat.lt_of_lt_of_le l1 up.size)).trans ((up.cell l1).trans c10)); (try have d10' := (q.frozen (Nat.lt_of_lt_of_le l1 up.size)).trans ((up.frozen l1).trans d10)); (try have c11' := (q.cell (Nat.lt_of_lt_of_le l1 up.size)).trans ((up.cell l1).trans c11)); (try have d11' := (q.frozen (Nat.lt_of_lt_of_le l1 up.size)).trans ((up.frozen l1).trans d11)); (try have l1' := Nat.lt_of_lt_of_le l1 (Nat.le_trans up.size q.size)); have e00 := (q.cell (p := ⟨wy.heap.size, 0, none⟩) (by simp <;> omega)).trans (show _ = some (.bool false) by simp [go_sem]); have e01 := (q.cell (p := ⟨wy.heap.size, 1, none⟩) (by simp <;> omega)).trans (show _ = some (.slice none 0 0) by simp [go_sem]); have f00 := (q.frozen (p := ⟨wy.heap.size, 0, none⟩) (by simp <;> omega)).trans (show _ = false by simp [go_sem]); have f01 := (q.frozen (p := ⟨wy.heap.size, 1, none⟩) (by simp <;> omega)).trans (show _ = false by simp [go_sem]); have n0 : wy.heap.size < wz.heap.size := Nat.lt_of_lt_of_le (by simp <;> omega) q.size; have e10 := (q.cell (p := ⟨wy.heap.size + 1, 0, none⟩) (by simp <;> omega)).trans (show _ = some (.bool false) by simp [go_sem]); have e11 := (q.cell (p := ⟨wy.heap.size + 1, 1, none⟩) (by simp <;> omega)).trans (show _ = some (.slice none 0 0) by simp [go_sem]); have f10 := (q.frozen (p := ⟨wy.heap.size + 1, 0, none⟩) (by simp <;> omega)).trans (show _ = false by simp [go_sem]); have f11 := (q.frozen (p := ⟨wy.heap.size + 1, 1, none⟩) (by simp <;> omega)).trans (show _ = false by simp [go_sem]); have n1 : wy.heap.size + 1 < wz.heap.size := Nat.lt_of_lt_of_le (by simp <;> omega) q.size; replace hx := (hx.on up).on q; replace qq := (qq.trans (up.mono qq.size)).trans (q.mono (Nat.le_trans qq.size up.size)); have qs2 := qq.size; clear q up))
    all_goals (go_wp2_with fail; go_meet)
    all_goals refine ⟨_, _, bx, Ax, nx, kx, bY, Ay, ny, ky, rfl, rfl, ?_⟩
    all_goals first
      | with_reducible exact pairA hx hy qq _
      | with_reducible exact pairA' hx hy qq _
      | with_reducible exact pairB (by assumption) (by assumption) hx hy qq (by omega) _
      | with_reducible exact pairB' (by assumption) (by assumption) hx hy qq (by omega) _
      | with_reducible exact pairC (by assumption) (by assumption) (by assumption) (by assumption) hx hy qq (by omega) (by omega) (by omega)
  case rest =>
    obtain ⟨gx, gy, bx, Ax, nx, kx, bY, Ay, ny, ky, rfl, rfl, ⟨x0, x1⟩, ⟨y0, y1⟩, hx, hy, b⟩ := hcut
    have xl := cell_lt x0
    have yl := cell_lt y0
    simp only at xl yl
    replace h0 := h0.on b
    replace h1 := h1.on b
    replace h2 := h2.on b
    replace p0 := (b.cell (p := ⟨w.heap.size, 0, none⟩) pl).trans p0
    replace p1 := (b.cell (p := ⟨w.heap.size, 1, none⟩) pl).trans p1
    replace pl := Nat.lt_of_lt_of_le pl b.size
    replace q0 := (b.cell (p := ⟨w.heap.size + 1, 0, none⟩) ql).trans q0
    replace q1 := (b.cell (p := ⟨w.heap.size + 1, 1, none⟩) ql).trans q1
    replace ql := Nat.lt_of_lt_of_le ql b.size
    replace r0 := (b.cell (p := ⟨w.heap.size + 1 + 1, 0, none⟩) rl).trans r0
    replace r1 := (b.cell (p := ⟨w.heap.size + 1 + 1, 1, none⟩) rl).trans r1
    replace rl := Nat.lt_of_lt_of_le rl b.size
    replace cc := cc.trans (b.mono cc.size)
    clear b
    go_wp2_with fail
    have qq : Below wc.heap.size wc wc.drew := below_drewN (Below.refl _ wc) 1
    have h0' := h0.on qq
    have h1' := h1.on qq
    have h2' := h2.on qq
    have hx' := hx.on qq
    have hy' := hy.on qq
    go_region_held3 (fun w' => w'.cell? ⟨w.heap.size, 0, none⟩ = some (.bool b0) ∧ w'.cell? ⟨w.heap.size, 1, none⟩ = some (.slice a0 len0 cap0) ∧ w'.cell? ⟨w.heap.size + 1, 0, none⟩ = some (.bool b1) ∧ w'.cell? ⟨w.heap.size + 1, 1, none⟩ = some (.slice a1 len1 cap1) ∧ w'.cell? ⟨w.heap.size + 1 + 1, 0, none⟩ = some (.bool b2) ∧ w'.cell? ⟨w.heap.size + 1 + 1, 1, none⟩ = some (.slice a2 len2 cap2) ∧ w'.cell? ⟨gx, 0, none⟩ = some (.bool bx) ∧ w'.cell? ⟨gx, 1, none⟩ = some (.slice Ax nx kx) ∧ w'.cell? ⟨gy, 0, none⟩ = some (.bool bY) ∧ w'.cell? ⟨gy, 1, none⟩ = some (.slice Ay ny ky))
      (first | with_reducible exact ⟨(qq.cell (p := ⟨w.heap.size, 0, none⟩) pl).trans p0, (qq.cell (p := ⟨w.heap.size, 1, none⟩) pl).trans p1, (qq.cell (p := ⟨w.heap.size + 1, 0, none⟩) ql).trans q0, (qq.cell (p := ⟨w.heap.size + 1, 1, none⟩) ql).trans q1, (qq.cell (p := ⟨w.heap.size + 1 + 1, 0, none⟩) rl).trans r0, (qq.cell (p := ⟨w.heap.size + 1 + 1, 1, none⟩) rl).trans r1, (qq.cell (p := ⟨gx, 0, none⟩) xl).trans x0, (qq.cell (p := ⟨gx, 1, none⟩) xl).trans x1, (qq.cell (p := ⟨gy, 0, none⟩) yl).trans y0, (qq.cell (p := ⟨gy, 1, none⟩) yl).trans y1⟩ | go_keep)
      (first
        | (go_at_call 10; (with_reducible refine (rzright_N hx' s01).mono ?_); rintro e wz ⟨rfl, q⟩; replace qq := qq.trans (q.mono qq.size); (try replace h0' := h0'.on q); (try replace h1' := h1'.on q); (try replace h2' := h2'.on q); (try replace hx' := hx'.on q); (try replace hy' := hy'.on q); (try replace fa := fa.on q); (try replace fm := fm.on q); clear q)
        | (go_at_call 10; (with_reducible refine (rzright_N hy' p01).mono ?_); rintro e wz ⟨rfl, q⟩; replace qq := qq.trans (q.mono qq.size); (try replace h0' := h0'.on q); (try replace h1' := h1'.on q); (try replace h2' := h2'.on q); (try replace hx' := hx'.on q); (try replace hy' := hy'.on q); (try replace fa := fa.on q); (try replace fm := fm.on q); clear q)
        | (go_at_call 16; (with_reducible refine (zadd_N h1' h0' m1 m0).mono ?_); rintro e wz ⟨bfa, Afa, nfa, cfa, rfl, fa, q⟩; replace qq := qq.trans (q.mono qq.size); (try replace h0' := h0'.on q); (try replace h1' := h1'.on q); (try replace h2' := h2'.on q); (try replace hx' := hx'.on q); (try replace hy' := hy'.on q); (try replace fm := fm.on q); clear q)
        | (go_at_call 11; (with_reducible refine (zsame_N true hx' fa (Nat.le_trans s01 (by omega)) (Nat.le_trans s10 (by omega)) e1).mono ?_); rintro e wz ⟨rfl, q⟩; replace qq := qq.trans (q.mono qq.size); (try replace h0' := h0'.on q); (try replace h1' := h1'.on q); (try replace h2' := h2'.on q); (try replace hx' := hx'.on q); (try replace hy' := hy'.on q); (try replace fa := fa.on q); (try replace fm := fm.on q); clear q)
        | (go_at_call 18; (with_reducible refine (zmul_N h1' h0' (Nat.le_trans m1 (by omega)) (Nat.le_trans m0 (by omega))).mono ?_); rintro e wz ⟨bfm, Afm, nfm, cfm, rfl, fm, q⟩; replace qq := qq.trans (q.mono qq.size); (try replace h0' := h0'.on q); (try replace h1' := h1'.on q); (try replace h2' := h2'.on q); (try replace hx' := hx'.on q); (try replace hy' := hy'.on q); (try replace fa := fa.on q); clear q)
        | (go_at_call 11; (with_reducible refine (zsame_N true hy' fm (Nat.le_trans p01 (by omega)) (Nat.le_trans p10 (by omega)) e2).mono ?_); rintro e wz ⟨rfl, q⟩; replace qq := qq.trans (q.mono qq.size); (try replace h0' := h0'.on q); (try replace h1' := h1'.on q); (try replace h2' := h2'.on q); (try replace hx' := hx'.on q); (try replace hy' := hy'.on q); (try replace fa := fa.on q); (try replace fm := fm.on q); clear q))
    clear h0
    have h0 := h0'
    clear h0'
    clear h1
    have h1 := h1'
    clear h1'
    clear h2
    have h2 := h2'
    clear h2'
    clear hx
    have hx := hx'
    clear hx'
    clear hy
    have hy := hy'
    clear hy'
    replace p0 := (qq.cell (p := ⟨w.heap.size, 0, none⟩) pl).trans p0
    replace p1 := (qq.cell (p := ⟨w.heap.size, 1, none⟩) pl).trans p1
    replace pl := Nat.lt_of_lt_of_le pl qq.size
    replace q0 := (qq.cell (p := ⟨w.heap.size + 1, 0, none⟩) ql).trans q0
    replace q1 := (qq.cell (p := ⟨w.heap.size + 1, 1, none⟩) ql).trans q1
    replace ql := Nat.lt_of_lt_of_le ql qq.size
    replace r0 := (qq.cell (p := ⟨w.heap.size + 1 + 1, 0, none⟩) rl).trans r0
    replace r1 := (qq.cell (p := ⟨w.heap.size + 1 + 1, 1, none⟩) rl).trans r1
    replace rl := Nat.lt_of_lt_of_le rl qq.size
    replace x0 := (qq.cell (p := ⟨gx, 0, none⟩) xl).trans x0
    replace x1 := (qq.cell (p := ⟨gx, 1, none⟩) xl).trans x1
    replace xl := Nat.lt_of_lt_of_le xl qq.size
    replace y0 := (qq.cell (p := ⟨gy, 0, none⟩) yl).trans y0
    replace y1 := (qq.cell (p := ⟨gy, 1, none⟩) yl).trans y1
    replace yl := Nat.lt_of_lt_of_le yl qq.size
    replace cc := cc.trans (qq.mono cc.size)
    clear qq
    go_wp2_with fail
    have qq : Below wz.heap.size wz wz.drew := below_drewN (Below.refl _ wz) 1
    have h0' := h0.on qq
    have h1' := h1.on qq
    have h2' := h2.on qq
    have hx' := hx.on qq
    have hy' := hy.on qq
    go_region_held3 (fun w' => w'.cell? ⟨w.heap.size, 0, none⟩ = some (.bool b0) ∧ w'.cell? ⟨w.heap.size, 1, none⟩ = some (.slice a0 len0 cap0) ∧ w'.cell? ⟨w.heap.size + 1, 0, none⟩ = some (.bool b1) ∧ w'.cell? ⟨w.heap.size + 1, 1, none⟩ = some (.slice a1 len1 cap1) ∧ w'.cell? ⟨w.heap.size + 1 + 1, 0, none⟩ = some (.bool b2) ∧ w'.cell? ⟨w.heap.size + 1 + 1, 1, none⟩ = some (.slice a2 len2 cap2) ∧ w'.cell? ⟨gx, 0, none⟩ = some (.bool bx) ∧ w'.cell? ⟨gx, 1, none⟩ = some (.slice Ax nx kx) ∧ w'.cell? ⟨gy, 0, none⟩ = some (.bool bY) ∧ w'.cell? ⟨gy, 1, none⟩ = some (.slice Ay ny ky))
      (first | with_reducible exact ⟨(qq.cell (p := ⟨w.heap.size, 0, none⟩) pl).trans p0, (qq.cell (p := ⟨w.heap.size, 1, none⟩) pl).trans p1, (qq.cell (p := ⟨w.heap.size + 1, 0, none⟩) ql).trans q0, (qq.cell (p := ⟨w.heap.size + 1, 1, none⟩) ql).trans q1, (qq.cell (p := ⟨w.heap.size + 1 + 1, 0, none⟩) rl).trans r0, (qq.cell (p := ⟨w.heap.size + 1 + 1, 1, none⟩) rl).trans r1, (qq.cell (p := ⟨gx, 0, none⟩) xl).trans x0, (qq.cell (p := ⟨gx, 1, none⟩) xl).trans x1, (qq.cell (p := ⟨gy, 0, none⟩) yl).trans y0, (qq.cell (p := ⟨gy, 1, none⟩) yl).trans y1⟩ | go_keep)
      (first
        | (go_at_call 16; (with_reducible refine (zadd_N hx' h2' s01 m2).mono ?_); rintro e wz ⟨bga, Aga, nga, cga, rfl, ga, q⟩; replace qq := qq.trans (q.mono qq.size); (try replace h0' := h0'.on q); (try replace h1' := h1'.on q); (try replace h2' := h2'.on q); (try replace hx' := hx'.on q); (try replace hy' := hy'.on q); (try replace gb := gb.on q); (try replace gc := gc.on q); clear q)
        | (go_at_call 16; (with_reducible refine (zadd_N h1' h2' m1 m2).mono ?_); rintro e wz ⟨bgb, Agb, ngb, cgb, rfl, gb, q⟩; replace qq := qq.trans (q.mono qq.size); (try replace h0' := h0'.on q); (try replace h1' := h1'.on q); (try replace h2' := h2'.on q); (try replace hx' := hx'.on q); (try replace hy' := hy'.on q); (try replace ga := ga.on q); (try replace gc := gc.on q); clear q)
        | (go_at_call 16; (with_reducible refine (zadd_N h0' gb m0 s12).mono ?_); rintro e wz ⟨bgc, Agc, ngc, cgc, rfl, gc, q⟩; replace qq := qq.trans (q.mono qq.size); (try replace h0' := h0'.on q); (try replace h1' := h1'.on q); (try replace h2' := h2'.on q); (try replace hx' := hx'.on q); (try replace hy' := hy'.on q); (try replace ga := ga.on q); (try replace gb := gb.on q); clear q)
        | (go_at_call 11; (with_reducible refine (zsame_N true ga gc (Nat.le_trans sA (by omega)) (Nat.le_trans sB (by omega)) e3).mono ?_); rintro e wz ⟨rfl, q⟩; replace qq := qq.trans (q.mono qq.size); (try replace h0' := h0'.on q); (try replace h1' := h1'.on q); (try replace h2' := h2'.on q); (try replace hx' := hx'.on q); (try replace hy' := hy'.on q); (try replace ga := ga.on q); (try replace gb := gb.on q); (try replace gc := gc.on q); clear q))
    clear h0
    have h0 := h0'
    clear h0'
    clear h1
    have h1 := h1'
    clear h1'
    clear h2
    have h2 := h2'
    clear h2'
    clear hx
    have hx := hx'
    clear hx'
    clear hy
    have hy := hy'
    clear hy'
    replace p0 := (qq.cell (p := ⟨w.heap.size, 0, none⟩) pl).trans p0
    replace p1 := (qq.cell (p := ⟨w.heap.size, 1, none⟩) pl).trans p1
    replace pl := Nat.lt_of_lt_of_le pl qq.size
    replace q0 := (qq.cell (p := ⟨w.heap.size + 1, 0, none⟩) ql).trans q0
    replace q1 := (qq.cell (p := ⟨w.heap.size + 1, 1, none⟩) ql).trans q1
    replace ql := Nat.lt_of_lt_of_le ql qq.size
    replace r0 := (qq.cell (p := ⟨w.heap.size + 1 + 1, 0, none⟩) rl).trans r0
    replace r1 := (qq.cell (p := ⟨w.heap.size + 1 + 1, 1, none⟩) rl).trans r1
    replace rl := Nat.lt_of_lt_of_le rl qq.size
    replace x0 := (qq.cell (p := ⟨gx, 0, none⟩) xl).trans x0
    replace x1 := (qq.cell (p := ⟨gx, 1, none⟩) xl).trans x1
    replace xl := Nat.lt_of_lt_of_le xl qq.size
    replace y0 := (qq.cell (p := ⟨gy, 0, none⟩) yl).trans y0
    replace y1 := (qq.cell (p := ⟨gy, 1, none⟩) yl).trans y1
    replace yl := Nat.lt_of_lt_of_le yl qq.size
    replace cc := cc.trans (qq.mono cc.size)
    clear qq
    go_wp2_with fail
    have qq : Below wz.heap.size wz wz.drew := below_drewN (Below.refl _ wz) 1
    have h0' := h0.on qq
    have h1' := h1.on qq
    have h2' := h2.on qq
    have hx' := hx.on qq
    have hy' := hy.on qq
    go_region_held3 (fun w' => w'.cell? ⟨w.heap.size, 0, none⟩ = some (.bool b0) ∧ w'.cell? ⟨w.heap.size, 1, none⟩ = some (.slice a0 len0 cap0) ∧ w'.cell? ⟨w.heap.size + 1, 0, none⟩ = some (.bool b1) ∧ w'.cell? ⟨w.heap.size + 1, 1, none⟩ = some (.slice a1 len1 cap1) ∧ w'.cell? ⟨w.heap.size + 1 + 1, 0, none⟩ = some (.bool b2) ∧ w'.cell? ⟨w.heap.size + 1 + 1, 1, none⟩ = some (.slice a2 len2 cap2) ∧ w'.cell? ⟨gx, 0, none⟩ = some (.bool bx) ∧ w'.cell? ⟨gx, 1, none⟩ = some (.slice Ax nx kx) ∧ w'.cell? ⟨gy, 0, none⟩ = some (.bool bY) ∧ w'.cell? ⟨gy, 1, none⟩ = some (.slice Ay ny ky))
      (first | with_reducible exact ⟨(qq.cell (p := ⟨w.heap.size, 0, none⟩) pl).trans p0, (qq.cell (p := ⟨w.heap.size, 1, none⟩) pl).trans p1, (qq.cell (p := ⟨w.heap.size + 1, 0, none⟩) ql).trans q0, (qq.cell (p := ⟨w.heap.size + 1, 1, none⟩) ql).trans q1, (qq.cell (p := ⟨w.heap.size + 1 + 1, 0, none⟩) rl).trans r0, (qq.cell (p := ⟨w.heap.size + 1 + 1, 1, none⟩) rl).trans r1, (qq.cell (p := ⟨gx, 0, none⟩) xl).trans x0, (qq.cell (p := ⟨gx, 1, none⟩) xl).trans x1, (qq.cell (p := ⟨gy, 0, none⟩) yl).trans y0, (qq.cell (p := ⟨gy, 1, none⟩) yl).trans y1⟩ | go_keep)
      (first
        | (go_at_call 18; (with_reducible refine (zmul_N hy' h2' (Nat.le_trans p01 (by omega)) (Nat.le_trans m2 (by omega))).mono ?_); rintro e wz ⟨bpa, Apa, npa, cpa, rfl, pa, q⟩; replace qq := qq.trans (q.mono qq.size); (try replace h0' := h0'.on q); (try replace h1' := h1'.on q); (try replace h2' := h2'.on q); (try replace hx' := hx'.on q); (try replace hy' := hy'.on q); (try replace pb := pb.on q); (try replace pc := pc.on q); (try replace pd := pd.on q); (try replace pe := pe.on q); (try replace pf := pf.on q); clear q)
        | (go_at_call 18; (with_reducible refine (zmul_N h1' h2' (Nat.le_trans m1 (by omega)) (Nat.le_trans m2 (by omega))).mono ?_); rintro e wz ⟨bpb, Apb, npb, cpb, rfl, pb, q⟩; replace qq := qq.trans (q.mono qq.size); (try replace h0' := h0'.on q); (try replace h1' := h1'.on q); (try replace h2' := h2'.on q); (try replace hx' := hx'.on q); (try replace hy' := hy'.on q); (try replace pa := pa.on q); (try replace pc := pc.on q); (try replace pd := pd.on q); (try replace pe := pe.on q); (try replace pf := pf.on q); clear q)
        | (go_at_call 18; (with_reducible refine (zmul_N h0' pb (Nat.le_trans m0 (by omega)) (Nat.le_trans p12 (by omega))).mono ?_); rintro e wz ⟨bpc, Apc, npc, cpc, rfl, pc, q⟩; replace qq := qq.trans (q.mono qq.size); (try replace h0' := h0'.on q); (try replace h1' := h1'.on q); (try replace h2' := h2'.on q); (try replace hx' := hx'.on q); (try replace hy' := hy'.on q); (try replace pa := pa.on q); (try replace pb := pb.on q); (try replace pd := pd.on q); (try replace pe := pe.on q); (try replace pf := pf.on q); clear q)
        | (go_at_call 11; (with_reducible refine (zsame_N true pa pc (Nat.le_trans pA (by omega)) (Nat.le_trans pB (by omega)) e4).mono ?_); rintro e wz ⟨rfl, q⟩; replace qq := qq.trans (q.mono qq.size); (try replace h0' := h0'.on q); (try replace h1' := h1'.on q); (try replace h2' := h2'.on q); (try replace hx' := hx'.on q); (try replace hy' := hy'.on q); (try replace pa := pa.on q); (try replace pb := pb.on q); (try replace pc := pc.on q); (try replace pd := pd.on q); (try replace pe := pe.on q); (try replace pf := pf.on q); clear q)
        | (go_at_call 18; (with_reducible refine (zmul_N hx' h2' (Nat.le_trans s01 (by omega)) (Nat.le_trans m2 (by omega))).mono ?_); rintro e wz ⟨bpd, Apd, npd, cpd, rfl, pd, q⟩; replace qq := qq.trans (q.mono qq.size); (try replace h0' := h0'.on q); (try replace h1' := h1'.on q); (try replace h2' := h2'.on q); (try replace hx' := hx'.on q); (try replace hy' := hy'.on q); (try replace pa := pa.on q); (try replace pb := pb.on q); (try replace pc := pc.on q); (try replace pe := pe.on q); (try replace pf := pf.on q); clear q)
        | (go_at_call 18; (with_reducible refine (zmul_N h0' h2' (Nat.le_trans m0 (by omega)) (Nat.le_trans m2 (by omega))).mono ?_); rintro e wz ⟨bpe, Ape, npe, cpe, rfl, pe, q⟩; replace qq := qq.trans (q.mono qq.size); (try replace h0' := h0'.on q); (try replace h1' := h1'.on q); (try replace h2' := h2'.on q); (try replace hx' := hx'.on q); (try replace hy' := hy'.on q); (try replace pa := pa.on q); (try replace pb := pb.on q); (try replace pc := pc.on q); (try replace pd := pd.on q); (try replace pf := pf.on q); clear q)
        | (go_at_call 16; (with_reducible refine (zadd_N pe pb p02 p12).mono ?_); rintro e wz ⟨bpf, Apf, npf, cpf, rfl, pf, q⟩; replace qq := qq.trans (q.mono qq.size); (try replace h0' := h0'.on q); (try replace h1' := h1'.on q); (try replace h2' := h2'.on q); (try replace hx' := hx'.on q); (try replace hy' := hy'.on q); (try replace pa := pa.on q); (try replace pb := pb.on q); (try replace pc := pc.on q); (try replace pd := pd.on q); (try replace pe := pe.on q); clear q)
        | (go_at_call 11; (with_reducible refine (zsame_N true pd pf (Nat.le_trans pC (by omega)) (Nat.le_trans sC (by omega)) e5).mono ?_); rintro e wz ⟨rfl, q⟩; replace qq := qq.trans (q.mono qq.size); (try replace h0' := h0'.on q); (try replace h1' := h1'.on q); (try replace h2' := h2'.on q); (try replace hx' := hx'.on q); (try replace hy' := hy'.on q); (try replace pa := pa.on q); (try replace pb := pb.on q); (try replace pc := pc.on q); (try replace pd := pd.on q); (try replace pe := pe.on q); (try replace pf := pf.on q); clear q))
    clear h0
    have h0 := h0'
    clear h0'
    clear h1
    have h1 := h1'
    clear h1'
    clear h2
    have h2 := h2'
    clear h2'
    clear hx
    have hx := hx'
    clear hx'
    clear hy
    have hy := hy'
    clear hy'
    replace p0 := (qq.cell (p := ⟨w.heap.size, 0, none⟩) pl).trans p0
    replace p1 := (qq.cell (p := ⟨w.heap.size, 1, none⟩) pl).trans p1
    replace pl := Nat.lt_of_lt_of_le pl qq.size
    replace q0 := (qq.cell (p := ⟨w.heap.size + 1, 0, none⟩) ql).trans q0
    replace q1 := (qq.cell (p := ⟨w.heap.size + 1, 1, none⟩) ql).trans q1
    replace ql := Nat.lt_of_lt_of_le ql qq.size
    replace r0 := (qq.cell (p := ⟨w.heap.size + 1 + 1, 0, none⟩) rl).trans r0
    replace r1 := (qq.cell (p := ⟨w.heap.size + 1 + 1, 1, none⟩) rl).trans r1
    replace rl := Nat.lt_of_lt_of_le rl qq.size
    replace x0 := (qq.cell (p := ⟨gx, 0, none⟩) xl).trans x0
    replace x1 := (qq.cell (p := ⟨gx, 1, none⟩) xl).trans x1
    replace xl := Nat.lt_of_lt_of_le xl qq.size
    replace y0 := (qq.cell (p := ⟨gy, 0, none⟩) yl).trans y0
    replace y1 := (qq.cell (p := ⟨gy, 1, none⟩) yl).trans y1
    replace yl := Nat.lt_of_lt_of_le yl qq.size
    replace cc := cc.trans (qq.mono cc.size)
    clear qq
    go_wp2_with fail
    have qq : Below wz.heap.size wz wz.drew := below_drewN (Below.refl _ wz) 1
    have h0' := h0.on qq
    have h1' := h1.on qq
    have h2' := h2.on qq
    have hx' := hx.on qq
    have hy' := hy.on qq
    have hT := (ht.on cc).on qq
    go_region_held3 (fun w' => w'.cell? ⟨w.heap.size, 0, none⟩ = some (.bool b0) ∧ w'.cell? ⟨w.heap.size, 1, none⟩ = some (.slice a0 len0 cap0) ∧ w'.cell? ⟨w.heap.size + 1, 0, none⟩ = some (.bool b1) ∧ w'.cell? ⟨w.heap.size + 1, 1, none⟩ = some (.slice a1 len1 cap1) ∧ w'.cell? ⟨w.heap.size + 1 + 1, 0, none⟩ = some (.bool b2) ∧ w'.cell? ⟨w.heap.size + 1 + 1, 1, none⟩ = some (.slice a2 len2 cap2) ∧ w'.cell? ⟨gx, 0, none⟩ = some (.bool bx) ∧ w'.cell? ⟨gx, 1, none⟩ = some (.slice Ax nx kx) ∧ w'.cell? ⟨gy, 0, none⟩ = some (.bool bY) ∧ w'.cell? ⟨gy, 1, none⟩ = some (.slice Ay ny ky))
      (first | with_reducible exact ⟨(qq.cell (p := ⟨w.heap.size, 0, none⟩) pl).trans p0, (qq.cell (p := ⟨w.heap.size, 1, none⟩) pl).trans p1, (qq.cell (p := ⟨w.heap.size + 1, 0, none⟩) ql).trans q0, (qq.cell (p := ⟨w.heap.size + 1, 1, none⟩) ql).trans q1, (qq.cell (p := ⟨w.heap.size + 1 + 1, 0, none⟩) rl).trans r0, (qq.cell (p := ⟨w.heap.size + 1 + 1, 1, none⟩) rl).trans r1, (qq.cell (p := ⟨gx, 0, none⟩) xl).trans x0, (qq.cell (p := ⟨gx, 1, none⟩) xl).trans x1, (qq.cell (p := ⟨gy, 0, none⟩) yl).trans y0, (qq.cell (p := ⟨gy, 1, none⟩) yl).trans y1⟩ | go_keep)
      (first
        | (go_at_call 8; (with_reducible refine (alive_any _ hT).mono ?_); rintro e wz ⟨rfl, q⟩; replace qq := qq.trans (q.mono qq.size); (try replace h0' := h0'.on q); (try replace h1' := h1'.on q); (try replace h2' := h2'.on q); (try replace hx' := hx'.on q); (try replace hy' := hy'.on q); (try replace na := na.on q); (try replace nb := nb.on q); (try replace nc := nc.on q); (try replace nd := nd.on q); (try replace hT := hT.on q); clear q)
        | (go_at_call 20; (with_reducible refine (zneg_N h0' m0).mono ?_); rintro e wz ⟨bna, Ana, nna, cna, rfl, na, q⟩; replace qq := qq.trans (q.mono qq.size); (try replace h0' := h0'.on q); (try replace h1' := h1'.on q); (try replace h2' := h2'.on q); (try replace hx' := hx'.on q); (try replace hy' := hy'.on q); (try replace nb := nb.on q); (try replace nc := nc.on q); (try replace nd := nd.on q); (try replace hT := hT.on q); clear q)
        | (go_at_call 16; (with_reducible refine (zadd_N h0' na m0 g0).mono ?_); rintro e wz ⟨bnb, Anb, nnb, cnb, rfl, nb, q⟩; replace qq := qq.trans (q.mono qq.size); (try replace h0' := h0'.on q); (try replace h1' := h1'.on q); (try replace h2' := h2'.on q); (try replace hx' := hx'.on q); (try replace hy' := hy'.on q); (try replace na := na.on q); (try replace nc := nc.on q); (try replace nd := nd.on q); (try replace hT := hT.on q); clear q)
        | (go_at_call 11; (with_reducible refine (zsame_N true nb (zn_zero _) (Nat.le_trans g1 (by omega)) (Nat.le_trans len_z0 (by omega)) e6).mono ?_); rintro e wz ⟨rfl, q⟩; replace qq := qq.trans (q.mono qq.size); (try replace h0' := h0'.on q); (try replace h1' := h1'.on q); (try replace h2' := h2'.on q); (try replace hx' := hx'.on q); (try replace hy' := hy'.on q); (try replace na := na.on q); (try replace nb := nb.on q); (try replace nc := nc.on q); (try replace nd := nd.on q); (try replace hT := hT.on q); clear q)
        | (go_at_call 18; (with_reducible refine (zmul_N na h1' (Nat.le_trans g0 (by omega)) (Nat.le_trans m1 (by omega))).mono ?_); rintro e wz ⟨bnc, Anc, nnc, cnc, rfl, nc, q⟩; replace qq := qq.trans (q.mono qq.size); (try replace h0' := h0'.on q); (try replace h1' := h1'.on q); (try replace h2' := h2'.on q); (try replace hx' := hx'.on q); (try replace hy' := hy'.on q); (try replace na := na.on q); (try replace nb := nb.on q); (try replace nd := nd.on q); (try replace hT := hT.on q); clear q)
        | (go_at_call 20; (with_reducible refine (zneg_N hy' p01).mono ?_); rintro e wz ⟨bnd, And, nnd, cnd, rfl, nd, q⟩; replace qq := qq.trans (q.mono qq.size); (try replace h0' := h0'.on q); (try replace h1' := h1'.on q); (try replace h2' := h2'.on q); (try replace hx' := hx'.on q); (try replace hy' := hy'.on q); (try replace na := na.on q); (try replace nb := nb.on q); (try replace nc := nc.on q); (try replace hT := hT.on q); clear q)
        | (go_at_call 11; (with_reducible refine (zsame_N true nc nd (Nat.le_trans g2 (by omega)) (Nat.le_trans g3 (by omega)) e7).mono ?_); rintro e wz ⟨rfl, q⟩; replace qq := qq.trans (q.mono qq.size); (try replace h0' := h0'.on q); (try replace h1' := h1'.on q); (try replace h2' := h2'.on q); (try replace hx' := hx'.on q); (try replace hy' := hy'.on q); (try replace na := na.on q); (try replace nb := nb.on q); (try replace nc := nc.on q); (try replace nd := nd.on q); (try replace hT := hT.on q); clear q))
    clear h0
    have h0 := h0'
    clear h0'
    clear h1
    have h1 := h1'
    clear h1'
    clear h2
    have h2 := h2'
    clear h2'
    clear hx
    have hx := hx'
    clear hx'
    clear hy
    have hy := hy'
    clear hy'
    replace p0 := (qq.cell (p := ⟨w.heap.size, 0, none⟩) pl).trans p0
    replace p1 := (qq.cell (p := ⟨w.heap.size, 1, none⟩) pl).trans p1
    replace pl := Nat.lt_of_lt_of_le pl qq.size
    replace q0 := (qq.cell (p := ⟨w.heap.size + 1, 0, none⟩) ql).trans q0
    replace q1 := (qq.cell (p := ⟨w.heap.size + 1, 1, none⟩) ql).trans q1
    replace ql := Nat.lt_of_lt_of_le ql qq.size
    replace r0 := (qq.cell (p := ⟨w.heap.size + 1 + 1, 0, none⟩) rl).trans r0
    replace r1 := (qq.cell (p := ⟨w.heap.size + 1 + 1, 1, none⟩) rl).trans r1
    replace rl := Nat.lt_of_lt_of_le rl qq.size
    replace x0 := (qq.cell (p := ⟨gx, 0, none⟩) xl).trans x0
    replace x1 := (qq.cell (p := ⟨gx, 1, none⟩) xl).trans x1
    replace xl := Nat.lt_of_lt_of_le xl qq.size
    replace y0 := (qq.cell (p := ⟨gy, 0, none⟩) yl).trans y0
    replace y1 := (qq.cell (p := ⟨gy, 1, none⟩) yl).trans y1
    replace yl := Nat.lt_of_lt_of_le yl qq.size
    replace cc := cc.trans (qq.mono cc.size)
    clear qq
    go_wp2_with fail
    go_ret
    exact ⟨rfl, cc⟩

end Go.Proofs.YtdaohhbdhmmihaaDoor

/-
  The walk of ZedRing.
-/
namespace Go.Proofs.YtdaohhbdhmmihaaDoor
open Go.RowKit
set_option linter.unusedVariables false

set_option maxRecDepth 100000 in
set_option maxHeartbeats 8000000 in
theorem ZedRing_no0 {w : World} {b0 b1 b2 : Bool} {a0 a1 a2 : Option Addr} {len0 cap0 len1 cap1 len2 cap2 : Nat} (ht : Tab w) (G0 : ∀ W : World, Below w.heap.size w W → Calls Tryd.prog 24 #[.agg #[.bool b0, .slice a0 len0 cap0], .int .i64 6] W (GotV W (.bool false))) :
    Calls Tryd.prog 4 #[.agg #[.bool b0, .slice a0 len0 cap0], .agg #[.bool b1, .slice a1 len1 cap1], .agg #[.bool b2, .slice a2 len2 cap2]] w fun e w' => e = .returned (.bool true) ∧ Below w.heap.size w w' := by
  have cc := Below.refl w.heap.size w
  go_enter Tryd.func4, Tryd.ntmps4
  go_wp2_with fail
  have bA : Below w.heap.size w (((w.alloc (.cells #[.bool b0, .slice a0 len0 cap0] 25)).alloc (.cells #[.bool b1, .slice a1 len1 cap1] 25)).alloc (.cells #[.bool b2, .slice a2 len2 cap2] 25)) := ((((Below.refl _ w).alloc (by simp) _).alloc (by simp) _).alloc (by simp <;> omega) _)
  replace cc := cc.trans (bA.mono cc.size)
  clear bA
  have p0 : (((w.alloc (.cells #[.bool b0, .slice a0 len0 cap0] 25)).alloc (.cells #[.bool b1, .slice a1 len1 cap1] 25)).alloc (.cells #[.bool b2, .slice a2 len2 cap2] 25)).cell? ⟨w.heap.size, 0, none⟩ = some (.bool b0) := by simp [go_sem]
  have p1 : (((w.alloc (.cells #[.bool b0, .slice a0 len0 cap0] 25)).alloc (.cells #[.bool b1, .slice a1 len1 cap1] 25)).alloc (.cells #[.bool b2, .slice a2 len2 cap2] 25)).cell? ⟨w.heap.size, 1, none⟩ = some (.slice a0 len0 cap0) := by simp [go_sem]
  have pl : w.heap.size < (((w.alloc (.cells #[.bool b0, .slice a0 len0 cap0] 25)).alloc (.cells #[.bool b1, .slice a1 len1 cap1] 25)).alloc (.cells #[.bool b2, .slice a2 len2 cap2] 25)).heap.size := by simp <;> omega
  have q0 : (((w.alloc (.cells #[.bool b0, .slice a0 len0 cap0] 25)).alloc (.cells #[.bool b1, .slice a1 len1 cap1] 25)).alloc (.cells #[.bool b2, .slice a2 len2 cap2] 25)).cell? ⟨w.heap.size + 1, 0, none⟩ = some (.bool b1) := by simp [go_sem]
  have q1 : (((w.alloc (.cells #[.bool b0, .slice a0 len0 cap0] 25)).alloc (.cells #[.bool b1, .slice a1 len1 cap1] 25)).alloc (.cells #[.bool b2, .slice a2 len2 cap2] 25)).cell? ⟨w.heap.size + 1, 1, none⟩ = some (.slice a1 len1 cap1) := by simp [go_sem]
  have ql : w.heap.size + 1 < (((w.alloc (.cells #[.bool b0, .slice a0 len0 cap0] 25)).alloc (.cells #[.bool b1, .slice a1 len1 cap1] 25)).alloc (.cells #[.bool b2, .slice a2 len2 cap2] 25)).heap.size := by simp <;> omega
  have r0 : (((w.alloc (.cells #[.bool b0, .slice a0 len0 cap0] 25)).alloc (.cells #[.bool b1, .slice a1 len1 cap1] 25)).alloc (.cells #[.bool b2, .slice a2 len2 cap2] 25)).cell? ⟨w.heap.size + 1 + 1, 0, none⟩ = some (.bool b2) := by simp [go_sem]
  have r1 : (((w.alloc (.cells #[.bool b0, .slice a0 len0 cap0] 25)).alloc (.cells #[.bool b1, .slice a1 len1 cap1] 25)).alloc (.cells #[.bool b2, .slice a2 len2 cap2] 25)).cell? ⟨w.heap.size + 1 + 1, 1, none⟩ = some (.slice a2 len2 cap2) := by simp [go_sem]
  have rl : w.heap.size + 1 + 1 < (((w.alloc (.cells #[.bool b0, .slice a0 len0 cap0] 25)).alloc (.cells #[.bool b1, .slice a1 len1 cap1] 25)).alloc (.cells #[.bool b2, .slice a2 len2 cap2] 25)).heap.size := by simp <;> omega
  generalize ((w.alloc (.cells #[.bool b0, .slice a0 len0 cap0] 25)).alloc (.cells #[.bool b1, .slice a1 len1 cap1] 25)).alloc (.cells #[.bool b2, .slice a2 len2 cap2] 25) = v1 at *
  refine (G0 _ cc).mono ?_
  rintro e w2 ⟨rfl, b⟩
  replace p0 := (b.cell (p := ⟨w.heap.size, 0, none⟩) pl).trans p0
  replace p1 := (b.cell (p := ⟨w.heap.size, 1, none⟩) pl).trans p1
  replace pl := Nat.lt_of_lt_of_le pl b.size
  replace q0 := (b.cell (p := ⟨w.heap.size + 1, 0, none⟩) ql).trans q0
  replace q1 := (b.cell (p := ⟨w.heap.size + 1, 1, none⟩) ql).trans q1
  replace ql := Nat.lt_of_lt_of_le ql b.size
  replace r0 := (b.cell (p := ⟨w.heap.size + 1 + 1, 0, none⟩) rl).trans r0
  replace r1 := (b.cell (p := ⟨w.heap.size + 1 + 1, 1, none⟩) rl).trans r1
  replace rl := Nat.lt_of_lt_of_le rl b.size
  replace cc := cc.trans (b.mono cc.size)
  clear b
  go_wp2_with fail
  refine (alive_any _ (ht.on cc)).mono ?_
  rintro e w3 ⟨rfl, b⟩
  replace p0 := (b.cell (p := ⟨w.heap.size, 0, none⟩) pl).trans p0
  replace p1 := (b.cell (p := ⟨w.heap.size, 1, none⟩) pl).trans p1
  replace pl := Nat.lt_of_lt_of_le pl b.size
  replace q0 := (b.cell (p := ⟨w.heap.size + 1, 0, none⟩) ql).trans q0
  replace q1 := (b.cell (p := ⟨w.heap.size + 1, 1, none⟩) ql).trans q1
  replace ql := Nat.lt_of_lt_of_le ql b.size
  replace r0 := (b.cell (p := ⟨w.heap.size + 1 + 1, 0, none⟩) rl).trans r0
  replace r1 := (b.cell (p := ⟨w.heap.size + 1 + 1, 1, none⟩) rl).trans r1
  replace rl := Nat.lt_of_lt_of_le rl b.size
  replace cc := cc.trans (b.mono cc.size)
  clear b
  go_wp2_with fail
  go_ret
  exact ⟨rfl, cc⟩

set_option maxRecDepth 100000 in
set_option maxHeartbeats 8000000 in
theorem ZedRing_no1 {w : World} {b0 b1 b2 : Bool} {a0 a1 a2 : Option Addr} {len0 cap0 len1 cap1 len2 cap2 : Nat} (ht : Tab w) (G0 : ∀ W : World, Below w.heap.size w W → Calls Tryd.prog 24 #[.agg #[.bool b0, .slice a0 len0 cap0], .int .i64 6] W (GotV W (.bool true))) (G1 : ∀ W : World, Below w.heap.size w W → Calls Tryd.prog 24 #[.agg #[.bool b1, .slice a1 len1 cap1], .int .i64 6] W (GotV W (.bool false))) :
    Calls Tryd.prog 4 #[.agg #[.bool b0, .slice a0 len0 cap0], .agg #[.bool b1, .slice a1 len1 cap1], .agg #[.bool b2, .slice a2 len2 cap2]] w fun e w' => e = .returned (.bool true) ∧ Below w.heap.size w w' := by
  have cc := Below.refl w.heap.size w
  go_enter Tryd.func4, Tryd.ntmps4
  go_wp2_with fail
  have bA : Below w.heap.size w (((w.alloc (.cells #[.bool b0, .slice a0 len0 cap0] 25)).alloc (.cells #[.bool b1, .slice a1 len1 cap1] 25)).alloc (.cells #[.bool b2, .slice a2 len2 cap2] 25)) := ((((Below.refl _ w).alloc (by simp) _).alloc (by simp) _).alloc (by simp <;> omega) _)
  replace cc := cc.trans (bA.mono cc.size)
  clear bA
  have p0 : (((w.alloc (.cells #[.bool b0, .slice a0 len0 cap0] 25)).alloc (.cells #[.bool b1, .slice a1 len1 cap1] 25)).alloc (.cells #[.bool b2, .slice a2 len2 cap2] 25)).cell? ⟨w.heap.size, 0, none⟩ = some (.bool b0) := by simp [go_sem]
  have p1 : (((w.alloc (.cells #[.bool b0, .slice a0 len0 cap0] 25)).alloc (.cells #[.bool b1, .slice a1 len1 cap1] 25)).alloc (.cells #[.bool b2, .slice a2 len2 cap2] 25)).cell? ⟨w.heap.size, 1, none⟩ = some (.slice a0 len0 cap0) := by simp [go_sem]
  have pl : w.heap.size < (((w.alloc (.cells #[.bool b0, .slice a0 len0 cap0] 25)).alloc (.cells #[.bool b1, .slice a1 len1 cap1] 25)).alloc (.cells #[.bool b2, .slice a2 len2 cap2] 25)).heap.size := by simp <;> omega
  have q0 : (((w.alloc (.cells #[.bool b0, .slice a0 len0 cap0] 25)).alloc (.cells #[.bool b1, .slice a1 len1 cap1] 25)).alloc (.cells #[.bool b2, .slice a2 len2 cap2] 25)).cell? ⟨w.heap.size + 1, 0, none⟩ = some (.bool b1) := by simp [go_sem]
  have q1 : (((w.alloc (.cells #[.bool b0, .slice a0 len0 cap0] 25)).alloc (.cells #[.bool b1, .slice a1 len1 cap1] 25)).alloc (.cells #[.bool b2, .slice a2 len2 cap2] 25)).cell? ⟨w.heap.size + 1, 1, none⟩ = some (.slice a1 len1 cap1) := by simp [go_sem]
  have ql : w.heap.size + 1 < (((w.alloc (.cells #[.bool b0, .slice a0 len0 cap0] 25)).alloc (.cells #[.bool b1, .slice a1 len1 cap1] 25)).alloc (.cells #[.bool b2, .slice a2 len2 cap2] 25)).heap.size := by simp <;> omega
  have r0 : (((w.alloc (.cells #[.bool b0, .slice a0 len0 cap0] 25)).alloc (.cells #[.bool b1, .slice a1 len1 cap1] 25)).alloc (.cells #[.bool b2, .slice a2 len2 cap2] 25)).cell? ⟨w.heap.size + 1 + 1, 0, none⟩ = some (.bool b2) := by simp [go_sem]
  have r1 : (((w.alloc (.cells #[.bool b0, .slice a0 len0 cap0] 25)).alloc (.cells #[.bool b1, .slice a1 len1 cap1] 25)).alloc (.cells #[.bool b2, .slice a2 len2 cap2] 25)).cell? ⟨w.heap.size + 1 + 1, 1, none⟩ = some (.slice a2 len2 cap2) := by simp [go_sem]
  have rl : w.heap.size + 1 + 1 < (((w.alloc (.cells #[.bool b0, .slice a0 len0 cap0] 25)).alloc (.cells #[.bool b1, .slice a1 len1 cap1] 25)).alloc (.cells #[.bool b2, .slice a2 len2 cap2] 25)).heap.size := by simp <;> omega
  generalize ((w.alloc (.cells #[.bool b0, .slice a0 len0 cap0] 25)).alloc (.cells #[.bool b1, .slice a1 len1 cap1] 25)).alloc (.cells #[.bool b2, .slice a2 len2 cap2] 25) = v1 at *
  refine (G0 _ cc).mono ?_
  rintro e w2 ⟨rfl, b⟩
  replace p0 := (b.cell (p := ⟨w.heap.size, 0, none⟩) pl).trans p0
  replace p1 := (b.cell (p := ⟨w.heap.size, 1, none⟩) pl).trans p1
  replace pl := Nat.lt_of_lt_of_le pl b.size
  replace q0 := (b.cell (p := ⟨w.heap.size + 1, 0, none⟩) ql).trans q0
  replace q1 := (b.cell (p := ⟨w.heap.size + 1, 1, none⟩) ql).trans q1
  replace ql := Nat.lt_of_lt_of_le ql b.size
  replace r0 := (b.cell (p := ⟨w.heap.size + 1 + 1, 0, none⟩) rl).trans r0
  replace r1 := (b.cell (p := ⟨w.heap.size + 1 + 1, 1, none⟩) rl).trans r1
  replace rl := Nat.lt_of_lt_of_le rl b.size
  replace cc := cc.trans (b.mono cc.size)
  clear b
  go_wp2_with fail
  refine (G1 _ cc).mono ?_
  rintro e w3 ⟨rfl, b⟩
  replace p0 := (b.cell (p := ⟨w.heap.size, 0, none⟩) pl).trans p0
  replace p1 := (b.cell (p := ⟨w.heap.size, 1, none⟩) pl).trans p1
  replace pl := Nat.lt_of_lt_of_le pl b.size
  replace q0 := (b.cell (p := ⟨w.heap.size + 1, 0, none⟩) ql).trans q0
  replace q1 := (b.cell (p := ⟨w.heap.size + 1, 1, none⟩) ql).trans q1
  replace ql := Nat.lt_of_lt_of_le ql b.size
  replace r0 := (b.cell (p := ⟨w.heap.size + 1 + 1, 0, none⟩) rl).trans r0
  replace r1 := (b.cell (p := ⟨w.heap.size + 1 + 1, 1, none⟩) rl).trans r1
  replace rl := Nat.lt_of_lt_of_le rl b.size
  replace cc := cc.trans (b.mono cc.size)
  clear b
  go_wp2_with fail
  refine (alive_any _ (ht.on cc)).mono ?_
  rintro e w4 ⟨rfl, b⟩
  replace p0 := (b.cell (p := ⟨w.heap.size, 0, none⟩) pl).trans p0
  replace p1 := (b.cell (p := ⟨w.heap.size, 1, none⟩) pl).trans p1
  replace pl := Nat.lt_of_lt_of_le pl b.size
  replace q0 := (b.cell (p := ⟨w.heap.size + 1, 0, none⟩) ql).trans q0
  replace q1 := (b.cell (p := ⟨w.heap.size + 1, 1, none⟩) ql).trans q1
  replace ql := Nat.lt_of_lt_of_le ql b.size
  replace r0 := (b.cell (p := ⟨w.heap.size + 1 + 1, 0, none⟩) rl).trans r0
  replace r1 := (b.cell (p := ⟨w.heap.size + 1 + 1, 1, none⟩) rl).trans r1
  replace rl := Nat.lt_of_lt_of_le rl b.size
  replace cc := cc.trans (b.mono cc.size)
  clear b
  go_wp2_with fail
  go_ret
  exact ⟨rfl, cc⟩

set_option maxRecDepth 100000 in
set_option maxHeartbeats 8000000 in
theorem ZedRing_no2 {w : World} {b0 b1 b2 : Bool} {a0 a1 a2 : Option Addr} {len0 cap0 len1 cap1 len2 cap2 : Nat} (ht : Tab w) (G0 : ∀ W : World, Below w.heap.size w W → Calls Tryd.prog 24 #[.agg #[.bool b0, .slice a0 len0 cap0], .int .i64 6] W (GotV W (.bool true))) (G1 : ∀ W : World, Below w.heap.size w W → Calls Tryd.prog 24 #[.agg #[.bool b1, .slice a1 len1 cap1], .int .i64 6] W (GotV W (.bool true))) (G2 : ∀ W : World, Below w.heap.size w W → Calls Tryd.prog 24 #[.agg #[.bool b2, .slice a2 len2 cap2], .int .i64 6] W (GotV W (.bool false))) :
    Calls Tryd.prog 4 #[.agg #[.bool b0, .slice a0 len0 cap0], .agg #[.bool b1, .slice a1 len1 cap1], .agg #[.bool b2, .slice a2 len2 cap2]] w fun e w' => e = .returned (.bool true) ∧ Below w.heap.size w w' := by
  have cc := Below.refl w.heap.size w
  go_enter Tryd.func4, Tryd.ntmps4
  go_wp2_with fail
  have bA : Below w.heap.size w (((w.alloc (.cells #[.bool b0, .slice a0 len0 cap0] 25)).alloc (.cells #[.bool b1, .slice a1 len1 cap1] 25)).alloc (.cells #[.bool b2, .slice a2 len2 cap2] 25)) := ((((Below.refl _ w).alloc (by simp) _).alloc (by simp) _).alloc (by simp <;> omega) _)
  replace cc := cc.trans (bA.mono cc.size)
  clear bA
  have p0 : (((w.alloc (.cells #[.bool b0, .slice a0 len0 cap0] 25)).alloc (.cells #[.bool b1, .slice a1 len1 cap1] 25)).alloc (.cells #[.bool b2, .slice a2 len2 cap2] 25)).cell? ⟨w.heap.size, 0, none⟩ = some (.bool b0) := by simp [go_sem]
  have p1 : (((w.alloc (.cells #[.bool b0, .slice a0 len0 cap0] 25)).alloc (.cells #[.bool b1, .slice a1 len1 cap1] 25)).alloc (.cells #[.bool b2, .slice a2 len2 cap2] 25)).cell? ⟨w.heap.size, 1, none⟩ = some (.slice a0 len0 cap0) := by simp [go_sem]
  have pl : w.heap.size < (((w.alloc (.cells #[.bool b0, .slice a0 len0 cap0] 25)).alloc (.cells #[.bool b1, .slice a1 len1 cap1] 25)).alloc (.cells #[.bool b2, .slice a2 len2 cap2] 25)).heap.size := by simp <;> omega
  have q0 : (((w.alloc (.cells #[.bool b0, .slice a0 len0 cap0] 25)).alloc (.cells #[.bool b1, .slice a1 len1 cap1] 25)).alloc (.cells #[.bool b2, .slice a2 len2 cap2] 25)).cell? ⟨w.heap.size + 1, 0, none⟩ = some (.bool b1) := by simp [go_sem]
  have q1 : (((w.alloc (.cells #[.bool b0, .slice a0 len0 cap0] 25)).alloc (.cells #[.bool b1, .slice a1 len1 cap1] 25)).alloc (.cells #[.bool b2, .slice a2 len2 cap2] 25)).cell? ⟨w.heap.size + 1, 1, none⟩ = some (.slice a1 len1 cap1) := by simp [go_sem]
  have ql : w.heap.size + 1 < (((w.alloc (.cells #[.bool b0, .slice a0 len0 cap0] 25)).alloc (.cells #[.bool b1, .slice a1 len1 cap1] 25)).alloc (.cells #[.bool b2, .slice a2 len2 cap2] 25)).heap.size := by simp <;> omega
  have r0 : (((w.alloc (.cells #[.bool b0, .slice a0 len0 cap0] 25)).alloc (.cells #[.bool b1, .slice a1 len1 cap1] 25)).alloc (.cells #[.bool b2, .slice a2 len2 cap2] 25)).cell? ⟨w.heap.size + 1 + 1, 0, none⟩ = some (.bool b2) := by simp [go_sem]
  have r1 : (((w.alloc (.cells #[.bool b0, .slice a0 len0 cap0] 25)).alloc (.cells #[.bool b1, .slice a1 len1 cap1] 25)).alloc (.cells #[.bool b2, .slice a2 len2 cap2] 25)).cell? ⟨w.heap.size + 1 + 1, 1, none⟩ = some (.slice a2 len2 cap2) := by simp [go_sem]
  have rl : w.heap.size + 1 + 1 < (((w.alloc (.cells #[.bool b0, .slice a0 len0 cap0] 25)).alloc (.cells #[.bool b1, .slice a1 len1 cap1] 25)).alloc (.cells #[.bool b2, .slice a2 len2 cap2] 25)).heap.size := by simp <;> omega
  generalize ((w.alloc (.cells #[.bool b0, .slice a0 len0 cap0] 25)).alloc (.cells #[.bool b1, .slice a1 len1 cap1] 25)).alloc (.cells #[.bool b2, .slice a2 len2 cap2] 25) = v1 at *
  refine (G0 _ cc).mono ?_
  rintro e w2 ⟨rfl, b⟩
  replace p0 := (b.cell (p := ⟨w.heap.size, 0, none⟩) pl).trans p0
  replace p1 := (b.cell (p := ⟨w.heap.size, 1, none⟩) pl).trans p1
  replace pl := Nat.lt_of_lt_of_le pl b.size
  replace q0 := (b.cell (p := ⟨w.heap.size + 1, 0, none⟩) ql).trans q0
  replace q1 := (b.cell (p := ⟨w.heap.size + 1, 1, none⟩) ql).trans q1
  replace ql := Nat.lt_of_lt_of_le ql b.size
  replace r0 := (b.cell (p := ⟨w.heap.size + 1 + 1, 0, none⟩) rl).trans r0
  replace r1 := (b.cell (p := ⟨w.heap.size + 1 + 1, 1, none⟩) rl).trans r1
  replace rl := Nat.lt_of_lt_of_le rl b.size
  replace cc := cc.trans (b.mono cc.size)
  clear b
  go_wp2_with fail
  refine (G1 _ cc).mono ?_
  rintro e w3 ⟨rfl, b⟩
  replace p0 := (b.cell (p := ⟨w.heap.size, 0, none⟩) pl).trans p0
  replace p1 := (b.cell (p := ⟨w.heap.size, 1, none⟩) pl).trans p1
  replace pl := Nat.lt_of_lt_of_le pl b.size
  replace q0 := (b.cell (p := ⟨w.heap.size + 1, 0, none⟩) ql).trans q0
  replace q1 := (b.cell (p := ⟨w.heap.size + 1, 1, none⟩) ql).trans q1
  replace ql := Nat.lt_of_lt_of_le ql b.size
  replace r0 := (b.cell (p := ⟨w.heap.size + 1 + 1, 0, none⟩) rl).trans r0
  replace r1 := (b.cell (p := ⟨w.heap.size + 1 + 1, 1, none⟩) rl).trans r1
  replace rl := Nat.lt_of_lt_of_le rl b.size
  replace cc := cc.trans (b.mono cc.size)
  clear b
  go_wp2_with fail
  refine (G2 _ cc).mono ?_
  rintro e w4 ⟨rfl, b⟩
  replace p0 := (b.cell (p := ⟨w.heap.size, 0, none⟩) pl).trans p0
  replace p1 := (b.cell (p := ⟨w.heap.size, 1, none⟩) pl).trans p1
  replace pl := Nat.lt_of_lt_of_le pl b.size
  replace q0 := (b.cell (p := ⟨w.heap.size + 1, 0, none⟩) ql).trans q0
  replace q1 := (b.cell (p := ⟨w.heap.size + 1, 1, none⟩) ql).trans q1
  replace ql := Nat.lt_of_lt_of_le ql b.size
  replace r0 := (b.cell (p := ⟨w.heap.size + 1 + 1, 0, none⟩) rl).trans r0
  replace r1 := (b.cell (p := ⟨w.heap.size + 1 + 1, 1, none⟩) rl).trans r1
  replace rl := Nat.lt_of_lt_of_le rl b.size
  replace cc := cc.trans (b.mono cc.size)
  clear b
  go_wp2_with fail
  refine (alive_any _ (ht.on cc)).mono ?_
  rintro e w5 ⟨rfl, b⟩
  replace p0 := (b.cell (p := ⟨w.heap.size, 0, none⟩) pl).trans p0
  replace p1 := (b.cell (p := ⟨w.heap.size, 1, none⟩) pl).trans p1
  replace pl := Nat.lt_of_lt_of_le pl b.size
  replace q0 := (b.cell (p := ⟨w.heap.size + 1, 0, none⟩) ql).trans q0
  replace q1 := (b.cell (p := ⟨w.heap.size + 1, 1, none⟩) ql).trans q1
  replace ql := Nat.lt_of_lt_of_le ql b.size
  replace r0 := (b.cell (p := ⟨w.heap.size + 1 + 1, 0, none⟩) rl).trans r0
  replace r1 := (b.cell (p := ⟨w.heap.size + 1 + 1, 1, none⟩) rl).trans r1
  replace rl := Nat.lt_of_lt_of_le rl b.size
  replace cc := cc.trans (b.mono cc.size)
  clear b
  go_wp2_with fail
  go_ret
  exact ⟨rfl, cc⟩

theorem ZedRing_walk {w : World} (ht : Tab w) (b0 : Bool) {a0 : Option Addr} {len0 cap0 : Nat} {l0 : List Nat} (hl0 : Lim w.heap.size w a0 len0 cap0 l0) (hs0 : len0 ≤ 9223372036854775807) (b1 : Bool) {a1 : Option Addr} {len1 cap1 : Nat} {l1 : List Nat} (hl1 : Lim w.heap.size w a1 len1 cap1 l1) (hs1 : len1 ≤ 9223372036854775807) (b2 : Bool) {a2 : Option Addr} {len2 cap2 : Nat} {l2 : List Nat} (hl2 : Lim w.heap.size w a2 len2 cap2 l2) (hs2 : len2 ≤ 9223372036854775807) :
    Calls Tryd.prog 4 #[.agg #[.bool b0, .slice a0 len0 cap0], .agg #[.bool b1, .slice a1 len1 cap1], .agg #[.bool b2, .slice a2 len2 cap2]] w fun e w' => e = .returned (.bool true) ∧ Below w.heap.size w w' := by
  have G : ∀ {b : Bool} {a : Option Addr} {len cap : Nat} {l : List Nat} (r : Bool), Lim w.heap.size w a len cap l → len ≤ 9223372036854775807 → (decide ((len : Int) ≤ 6) && okZ b len l) = r → ∀ W : World, Below w.heap.size w W → Calls Tryd.prog 24 #[.agg #[.bool b, .slice a len cap], .int .i64 6] W (GotV W (.bool r)) := fun r hl hs hr W hW => rzfew_any 6 r (hl.on hW) hs hr
  cases h0 : (decide ((len0 : Int) ≤ 6) && okZ b0 len0 l0) with
  | false => exact ZedRing_no0 ht (G false hl0 hs0 h0)
  | true =>
    cases h1 : (decide ((len1 : Int) ≤ 6) && okZ b1 len1 l1) with
    | false => exact ZedRing_no1 ht (G true hl0 hs0 h0) (G false hl1 hs1 h1)
    | true =>
      cases h2 : (decide ((len2 : Int) ≤ 6) && okZ b2 len2 l2) with
      | false => exact ZedRing_no2 ht (G true hl0 hs0 h0) (G true hl1 hs1 h1) (G false hl2 hs2 h2)
      | true =>
        obtain ⟨n0, t0⟩ := few_zn 6 hl0 h0
        obtain ⟨n1, t1⟩ := few_zn 6 hl1 h1
        obtain ⟨n2, t2⟩ := few_zn 6 hl2 h2
        exact ZedRing_ok n0 n1 n2 t0 t1 t2 ht (G true hl0 hs0 h0) (G true hl1 hs1 h1) (G true hl2 hs2 h2)

end Go.Proofs.YtdaohhbdhmmihaaDoor
