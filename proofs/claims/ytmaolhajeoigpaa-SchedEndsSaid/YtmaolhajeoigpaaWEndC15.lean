/-
  SchedEnds: by steps, not as often.
-/
import Derived.Test.YtmaolhajeoigpaaA9
import Derived.Test.YtmaolhajeoigpaaA10
import Derived.Test.YtmaolhajeoigpaaA3
namespace Go.Proofs.Ytmaolhajeoigpaa
set_option maxRecDepth 100000
set_option maxHeartbeats 8000000
open Go.RowKit
set_option linter.unusedVariables false
set_option linter.unusedSimpArgs false

theorem SchedEnds_d011 {w : World} {kd ba ra en wa ev la po t u f : Int} (hR0 : OkR f kd ba ra en wa ev la po) (h0 : ¬ t ≤ wa) (h1 : ¬ u ≤ wa) (h2 : ¬ t < 1) (h3 : ¬ u < 1) (h4 : ¬ 1000000 < t) (h5 : ¬ 1000000 < u) (hk : kd = 2) (qn : ¬ (t - wa) / ev = (u - wa) / ev) (q0 : 0 < (t - wa) / ev) (qr : ra = ((2 ^ f.toNat : Nat) : Int)) (hIt : I64 kd ∧ I64 ba ∧ I64 ra ∧ I64 en ∧ I64 wa ∧ I64 ev ∧ I64 la ∧ I64 po ∧ I64 t ∧ I64 f) (hIu : I64 kd ∧ I64 ba ∧ I64 ra ∧ I64 en ∧ I64 wa ∧ I64 ev ∧ I64 la ∧ I64 po ∧ I64 u ∧ I64 f) :
    Calls Try.prog 6 #[.agg #[.int .i64 kd, .int .i64 ba, .int .i64 ra, .int .i64 en, .int .i64 wa, .int .i64 ev, .int .i64 la, .int .i64 po], .agg #[.int .i64 t, .int .i64 u], .int .i64 f] w fun e w' => e = .returned (.bool true) ∧ Below w.heap.size w w' := by
  have CR0 : ∀ W : World, Calls Try.prog 8 #[.agg #[.int .i64 kd, .int .i64 ba, .int .i64 ra, .int .i64 en, .int .i64 wa, .int .i64 ev, .int .i64 la, .int .i64 po], .int .i64 f] W (GotV W (.bool true)) := fun W => by have h := rRight15_N (w := W) (f := f) (kd := kd) (ba := ba) (ra := ra) (en := en) (wa := wa) (ev := ev) (la := la) (po := po); rw [decide_eq_true hR0] at h; exact h
  have t0 : decide (t ≤ wa) = false := decide_eq_false h0
  have t1 : decide (u ≤ wa) = false := decide_eq_false h1
  have t2 : decide (t < 1) = false := decide_eq_false h2
  have t3 : decide (u < 1) = false := decide_eq_false h3
  have t4 : decide (1000000 < t) = false := decide_eq_false h4
  have t5 : decide (1000000 < u) = false := decide_eq_false h5
  have s3 : ((kd : Int) == 3) = false := beq_eq_false_iff_ne.2 (by omega)
  have s3n : ((kd : Int) != 3) = true := by simp; omega
  have s2 : ((kd : Int) == 2) = true := beq_iff_eq.2 (by omega)
  have s2n : ((kd : Int) != 2) = false := by simp; omega
  obtain ⟨d1, d2, d3⟩ := hR0.2.2.2.2.1 hk
  have f0 := hR0.1
  have wa0 := hR0.2.2.2.1
  have zt := rt_drop (f := f) (ba := ba) (ra := ra) (en := en) (ev := ev) (la := la) (po := po) (t := t) (show wa < t by omega) hk
  have zu := rt_drop (f := f) (ba := ba) (ra := ra) (en := en) (ev := ev) (la := la) (po := po) (t := u) (show wa < u by omega) hk
  have hd : 2 ^ f.toNat ≠ 0 := Nat.ne_of_gt (Nat.pow_pos (by omega))
  have h40 : 2 ^ f.toNat ≤ 1099511627776 := Nat.le_trans (Nat.pow_le_pow_right (by omega) (show f.toNat ≤ 40 by omega)) (by decide)
  obtain ⟨p, ep⟩ : ∃ q, (t - wa) / ev = q := ⟨_, rfl⟩
  have bp : 0 ≤ p ∧ p ≤ 1000000 := by rw [← ep]; exact ⟨Int.ediv_nonneg (by omega) (by omega), Int.le_trans (Int.ediv_le_self _ (by omega)) (by omega)⟩
  obtain ⟨m, em⟩ : ∃ q, (u - wa) / ev = q := ⟨_, rfl⟩
  have bm : 0 ≤ m ∧ m ≤ 1000000 := by rw [← em]; exact ⟨Int.ediv_nonneg (by omega) (by omega), Int.le_trans (Int.ediv_le_self _ (by omega)) (by omega)⟩
  rw [ep] at zt qn q0
  rw [em] at zu qn
  obtain ⟨x, e_x⟩ : ∃ x, rt15 f kd ba ra en wa ev la po t = x := ⟨_, rfl⟩
  obtain ⟨y, e_y⟩ : ∃ y, rt15 f kd ba ra en wa ev la po u = y := ⟨_, rfl⟩
  have CX : ∀ W : World, Calls Try.prog 10 #[.agg #[.int .i64 kd, .int .i64 ba, .int .i64 ra, .int .i64 en, .int .i64 wa, .int .i64 ev, .int .i64 la, .int .i64 po], .int .i64 t, .int .i64 f] W (GotV W (.tuple #[.int .i64 x, .int .i64 0])) := fun W => by
    have h := sRate_N W (t := t) (f := f) (hIt)
    rw [(rVE hR0 (by omega) (by omega)).1, (rVE hR0 (by omega) (by omega)).2, e_x] at h
    exact h
  have CY : ∀ W : World, Calls Try.prog 10 #[.agg #[.int .i64 kd, .int .i64 ba, .int .i64 ra, .int .i64 en, .int .i64 wa, .int .i64 ev, .int .i64 la, .int .i64 po], .int .i64 u, .int .i64 f] W (GotV W (.tuple #[.int .i64 y, .int .i64 0])) := fun W => by
    have h := sRate_N W (t := u) (f := f) (hIu)
    rw [(rVE hR0 (by omega) (by omega)).1, (rVE hR0 (by omega) (by omega)).2, e_y] at h
    exact h
  rw [e_x] at zt
  rw [e_y] at zu
  obtain ⟨a, ea⟩ : ∃ a, t - wa = a := ⟨_, rfl⟩
  have k1a : IntKind.i64.wrap (t - wa) = a := by rw [ea]; exact IntWalk.i64_in _ (by omega)
  rw [ea] at ep
  have k3p : Int.tdiv a ev = p := by rw [Int.tdiv_eq_ediv_of_nonneg (by omega)]; exact ep
  have k4p : IntKind.i64.wrap p = p := IntWalk.i64_in _ (by omega)
  have k6p : IntKind.i64.wrap (a / ev) = p := by rw [ep]; exact k4p
  obtain ⟨b, eb⟩ : ∃ a, u - wa = a := ⟨_, rfl⟩
  have k1b : IntKind.i64.wrap (u - wa) = b := by rw [eb]; exact IntWalk.i64_in _ (by omega)
  rw [eb] at em
  have k3m : Int.tdiv b ev = m := by rw [Int.tdiv_eq_ediv_of_nonneg (by omega)]; exact em
  have k4m : IntKind.i64.wrap m = m := IntWalk.i64_in _ (by omega)
  have k6m : IntKind.i64.wrap (b / ev) = m := by rw [em]; exact k4m
  have k5 : (ev == 0) = false := beq_eq_false_iff_ne.2 (by omega)
  have k7 : ¬ ev = 0 := by omega
  have lnm : (p == m) = false := beq_eq_false_iff_ne.2 qn
  have lnmn : (p != m) = true := by simp; omega
  have ln0 : decide (0 < p) = true := decide_eq_true (by omega)
  have lxb : (x == ba) = true := beq_iff_eq.2 (by rw [zt, qr]; exact drop_one hd _)
  obtain ⟨fn, rfl⟩ : ∃ n : Nat, f = (n : Int) := ⟨f.toNat, by omega⟩
  rw [Int.toNat_natCast] at h40 qr
  have jf : fn ≤ 40 := by omega
  obtain ⟨D, eD⟩ : ∃ D, 2 ^ fn = D := ⟨_, rfl⟩
  rw [eD] at h40 qr
  have kf : IntKind.i64.wrap (2 ^ fn) = (D : Int) := by rw [show ((2 : Int) ^ fn) = ((2 ^ fn : Nat) : Int) by simp, eD]; exact IntWalk.i64_in _ (by omega)
  have kf2 : IntKind.i64.wrap (2 ^ min fn 64) = (D : Int) := by rw [Nat.min_eq_left (by omega)]; exact kf
  have jf0 : decide ((fn : Int) < 0) = false := decide_eq_false (by omega)
  have jf1 : ¬ ((fn : Int) < 0) := by omega
  have lrd : (ra == (D : Int)) = true := beq_iff_eq.2 qr
  have lrdn : (ra != (D : Int)) = false := by simp; omega
  clear d1 d2 d3 f0 wa0 zt zu hd h40 ep bp em bm ea eb eD
  clear hR0 h0 h1 h2 h3 h4 h5 e_x e_y hIt hIu hk qn q0 qr
  have cc := Below.refl w.heap.size w
  go_enter Try.func6, Try.ntmps6
  go_wp2_with fail
  generalize hv_ : (w.alloc (.cells #[.int .i64 kd, .int .i64 ba, .int .i64 ra, .int .i64 en, .int .i64 wa, .int .i64 ev, .int .i64 la, .int .i64 po] 23)).alloc (.cells #[.int .i64 t, .int .i64 u] 24) = v1
  have bA : Below w.heap.size w v1 := by rw [← hv_]; exact (((Below.refl _ w).alloc (by simp) _).alloc (by simp) _)
  replace cc := bK cc bA
  clear bA
  have sc0 : v1.cell? ⟨w.heap.size, 0, none⟩ = some (.int .i64 kd) := by simp [← hv_, go_sem]
  have sc1 : v1.cell? ⟨w.heap.size, 1, none⟩ = some (.int .i64 ba) := by simp [← hv_, go_sem]
  have sc2 : v1.cell? ⟨w.heap.size, 2, none⟩ = some (.int .i64 ra) := by simp [← hv_, go_sem]
  have sc3 : v1.cell? ⟨w.heap.size, 3, none⟩ = some (.int .i64 en) := by simp [← hv_, go_sem]
  have sc4 : v1.cell? ⟨w.heap.size, 4, none⟩ = some (.int .i64 wa) := by simp [← hv_, go_sem]
  have sc5 : v1.cell? ⟨w.heap.size, 5, none⟩ = some (.int .i64 ev) := by simp [← hv_, go_sem]
  have sc6 : v1.cell? ⟨w.heap.size, 6, none⟩ = some (.int .i64 la) := by simp [← hv_, go_sem]
  have sc7 : v1.cell? ⟨w.heap.size, 7, none⟩ = some (.int .i64 po) := by simp [← hv_, go_sem]
  have scl : w.heap.size < v1.heap.size := by simp [← hv_] <;> omega
  obtain ⟨pt0, pt1⟩ : Cs2 v1 (w.heap.size + 1) (.int .i64 t) (.int .i64 u) := by simp [Cs2, ← hv_, go_sem]
  have ptl : w.heap.size + 1 < v1.heap.size := by simp [← hv_] <;> omega
  clear hv_
  go_wp2_with fail
  refine (CR0 _).mono ?_
  rintro e w2 ⟨rfl, b⟩
  rewrite [cR b scl] at sc0 sc1 sc2 sc3 sc4 sc5 sc6 sc7
  replace scl := lK b scl
  rewrite [cR b ptl] at pt0 pt1
  replace ptl := lK b ptl
  replace cc := bK cc b
  clear b
  go_wp2_with fail
  refine (CX _).mono ?_
  rintro e w3 ⟨rfl, b⟩
  rewrite [cR b scl] at sc0 sc1 sc2 sc3 sc4 sc5 sc6 sc7
  replace scl := lK b scl
  rewrite [cR b ptl] at pt0 pt1
  replace ptl := lK b ptl
  replace cc := bK cc b
  clear b
  go_wp2_with fail
  refine (CY _).mono ?_
  rintro e w4 ⟨rfl, b⟩
  rewrite [cR b scl] at sc0 sc1 sc2 sc3 sc4 sc5 sc6 sc7
  replace scl := lK b scl
  rewrite [cR b ptl] at pt0 pt1
  replace ptl := lK b ptl
  replace cc := bK cc b
  clear b
  go_wp2_with fail
  have bD : Below w4.heap.size w4 w4.drew := below_drewN (Below.refl _ w4) 1
  rewrite [cR bD scl] at sc0 sc1 sc2 sc3 sc4 sc5 sc6 sc7
  replace scl := lK bD scl
  rewrite [cR bD ptl] at pt0 pt1
  replace ptl := lK bD ptl
  replace cc := bK cc bD
  clear bD
  go_region_held3 (fun w' => w'.cell? ⟨w.heap.size, 0, none⟩ = some (.int .i64 kd) ∧ w'.cell? ⟨w.heap.size, 1, none⟩ = some (.int .i64 ba) ∧ w'.cell? ⟨w.heap.size, 2, none⟩ = some (.int .i64 ra) ∧ w'.cell? ⟨w.heap.size, 3, none⟩ = some (.int .i64 en) ∧ w'.cell? ⟨w.heap.size, 4, none⟩ = some (.int .i64 wa) ∧ w'.cell? ⟨w.heap.size, 5, none⟩ = some (.int .i64 ev) ∧ w'.cell? ⟨w.heap.size, 6, none⟩ = some (.int .i64 la) ∧ w'.cell? ⟨w.heap.size, 7, none⟩ = some (.int .i64 po) ∧ w'.cell? ⟨w.heap.size + 1, 0, none⟩ = some (.int .i64 t) ∧ w'.cell? ⟨w.heap.size + 1, 1, none⟩ = some (.int .i64 u)) (exact ⟨sc0, sc1, sc2, sc3, sc4, sc5, sc6, sc7, pt0, pt1⟩) (fail)
  generalize w4.drew = v5 at *
  go_wp2_with fail
  have bD : Below v5.heap.size v5 v5.drew := below_drewN (Below.refl _ v5) 1
  rewrite [cR bD scl] at sc0 sc1 sc2 sc3 sc4 sc5 sc6 sc7
  replace scl := lK bD scl
  rewrite [cR bD ptl] at pt0 pt1
  replace ptl := lK bD ptl
  replace cc := bK cc bD
  clear bD
  refine wp_region_held_drew (S := fun w' => w'.cell? ⟨w.heap.size, 0, none⟩ = some (.int .i64 kd) ∧ w'.cell? ⟨w.heap.size, 1, none⟩ = some (.int .i64 ba) ∧ w'.cell? ⟨w.heap.size, 2, none⟩ = some (.int .i64 ra) ∧ w'.cell? ⟨w.heap.size, 3, none⟩ = some (.int .i64 en) ∧ w'.cell? ⟨w.heap.size, 4, none⟩ = some (.int .i64 wa) ∧ w'.cell? ⟨w.heap.size, 5, none⟩ = some (.int .i64 ev) ∧ w'.cell? ⟨w.heap.size, 6, none⟩ = some (.int .i64 la) ∧ w'.cell? ⟨w.heap.size, 7, none⟩ = some (.int .i64 po) ∧ w'.cell? ⟨w.heap.size + 1, 0, none⟩ = some (.int .i64 t) ∧ w'.cell? ⟨w.heap.size + 1, 1, none⟩ = some (.int .i64 u)) (by kernel_rfl) ?_ (fun hHeld => ?_)
  · exact ⟨sc0, sc1, sc2, sc3, sc4, sc5, sc6, sc7, pt0, pt1⟩
  refine wpAnyH_ready (rs := [0]) (by kernel_rfl) (by simp) ?_
  refine AllReadyH.cons rfl (fun K hK => ?_) AllReadyH.nil
  (try simp only [pT])
  rw [if_pos (by rfl)]
  go_simp
  go_at_call 9
  refine (alive15_any _).mono ?_
  rintro e w6 ⟨rfl, b⟩
  rewrite [cR b scl] at sc0 sc1 sc2 sc3 sc4 sc5 sc6 sc7
  replace scl := lK b scl
  rewrite [cR b ptl] at pt0 pt1
  replace ptl := lK b ptl
  replace cc := bK cc b
  clear b
  refine hK.out _ _ ?_ (fun hHeld => ?_)
  · exact ⟨sc0, sc1, sc2, sc3, sc4, sc5, sc6, sc7, pt0, pt1⟩
  clear hK K
  try simp only [Act.put, pT]
  refine tY (i := 1) (v := ?_) rfl ?_ hHeld ?_
  rotate_left
  · (intro w hSw; (try dsimp only at hSw); go_simp; (try with_reducible rfl))
  try simp only [Act.put, pT]
  refine tY (i := 2) (v := ?_) rfl ?_ hHeld ?_
  rotate_left
  · (intro w hSw; (try dsimp only at hSw); go_simp; (try with_reducible rfl))
  try simp only [Act.put, pT]
  refine tY (i := 3) (v := ?_) rfl ?_ hHeld ?_
  rotate_left
  · (intro w hSw; (try dsimp only at hSw); go_simp; (try with_reducible rfl))
  try simp only [Act.put, pT]
  refine tY (i := 4) (v := ?_) rfl ?_ hHeld ?_
  rotate_left
  · (intro w hSw; (try dsimp only at hSw); go_simp; (try with_reducible rfl))
  try simp only [Act.put, pT]
  refine tY (i := 5) (v := ?_) rfl ?_ hHeld ?_
  rotate_left
  · (intro w hSw; (try dsimp only at hSw); go_simp; (try with_reducible rfl))
  try simp only [Act.put, pT]
  refine tU (i := 6) rfl hHeld ?_
  try simp only [Act.put, pT]
  refine tU (i := 7) rfl hHeld ?_
  try simp only [Act.put, pT]
  refine tU (i := 8) rfl hHeld ?_
  try simp only [Act.put, pT]
  refine tY (i := 9) (v := ?_) rfl ?_ hHeld ?_
  rotate_left
  · (intro w hSw; (try dsimp only at hSw); go_simp; (try with_reducible rfl))
  try simp only [Act.put, pT]
  refine tY (i := 10) (v := ?_) rfl ?_ hHeld ?_
  rotate_left
  · (intro w hSw; (try dsimp only at hSw); go_simp; (try with_reducible rfl))
  try simp only [Act.put, pT]
  refine tY (i := 11) (v := ?_) rfl ?_ hHeld ?_
  rotate_left
  · (intro w hSw; (try dsimp only at hSw); go_simp; (try with_reducible rfl))
  try simp only [Act.put, pT]
  refine tY (i := 12) (v := ?_) rfl ?_ hHeld ?_
  rotate_left
  · (intro w hSw; (try dsimp only at hSw); go_simp; (try with_reducible rfl))
  try simp only [Act.put, pT]
  refine tY (i := 13) (v := ?_) rfl ?_ hHeld ?_
  rotate_left
  · (intro w hSw; (try dsimp only at hSw); go_simp; (try with_reducible rfl))
  try simp only [Act.put, pT]
  refine tY (i := 14) (v := ?_) rfl ?_ hHeld ?_
  rotate_left
  · (intro w hSw; (try dsimp only at hSw); go_simp; (try with_reducible rfl))
  try simp only [Act.put, pT]
  refine tU (i := 15) rfl hHeld ?_
  try simp only [Act.put, pT]
  refine tU (i := 16) rfl hHeld ?_
  try simp only [Act.put, pT]
  refine tU (i := 17) rfl hHeld ?_
  try simp only [Act.put, pT]
  refine tU (i := 18) rfl hHeld ?_
  try simp only [Act.put, pT]
  refine tY (i := 19) (v := ?_) rfl ?_ hHeld ?_
  rotate_left
  · (intro w hSw; (try dsimp only at hSw); go_simp; (try with_reducible rfl))
  try simp only [Act.put, pT]
  refine tY (i := 20) (v := ?_) rfl ?_ hHeld ?_
  rotate_left
  · (intro w hSw; (try dsimp only at hSw); go_simp; (try with_reducible rfl))
  try simp only [Act.put, pT]
  refine tY (i := 21) (v := ?_) rfl ?_ hHeld ?_
  rotate_left
  · (intro w hSw; (try dsimp only at hSw); go_simp; (try with_reducible rfl))
  try simp only [Act.put, pT]
  refine tY (i := 22) (v := ?_) rfl ?_ hHeld ?_
  rotate_left
  · (intro w hSw; (try dsimp only at hSw); go_simp; (try with_reducible rfl))
  try simp only [Act.put, pT]
  refine tY (i := 23) (v := ?_) rfl ?_ hHeld ?_
  rotate_left
  · (intro w hSw; (try dsimp only at hSw); go_simp; (try with_reducible rfl))
  try simp only [Act.put, pT]
  refine tY (i := 24) (v := ?_) rfl ?_ hHeld ?_
  rotate_left
  · (intro w hSw; (try dsimp only at hSw); go_simp; (try with_reducible rfl))
  try simp only [Act.put, pT]
  refine tY (i := 25) (v := ?_) rfl ?_ hHeld ?_
  rotate_left
  · (intro w hSw; (try dsimp only at hSw); go_simp; (try with_reducible rfl))
  try simp only [Act.put, pT]
  refine tY (i := 26) (v := ?_) rfl ?_ hHeld ?_
  rotate_left
  · (intro w hSw; (try dsimp only at hSw); go_simp; (try with_reducible rfl))
  try simp only [Act.put, pT]
  refine tY (i := 27) (v := ?_) rfl ?_ hHeld ?_
  rotate_left
  · (intro w hSw; (try dsimp only at hSw); go_simp; (try with_reducible rfl))
  try simp only [Act.put, pT]
  refine tY (i := 28) (v := ?_) rfl ?_ hHeld ?_
  rotate_left
  · (intro w hSw; (try dsimp only at hSw); go_simp; (try with_reducible rfl))
  try simp only [Act.put, pT]
  refine tY (i := 29) (v := ?_) rfl ?_ hHeld ?_
  rotate_left
  · (intro w hSw; (try dsimp only at hSw); go_simp; (try with_reducible rfl))
  try simp only [Act.put, pT]
  refine tY (i := 30) (v := ?_) rfl ?_ hHeld ?_
  rotate_left
  · (intro w hSw; (try dsimp only at hSw); go_simp; (try with_reducible rfl))
  try simp only [Act.put, pT]
  refine tY (i := 31) (v := ?_) rfl ?_ hHeld ?_
  rotate_left
  · (intro w hSw; (try dsimp only at hSw); go_simp; (try with_reducible rfl))
  try simp only [Act.put, pT]
  refine tY (i := 32) (v := ?_) rfl ?_ hHeld ?_
  rotate_left
  · (intro w hSw; (try dsimp only at hSw); go_simp; (try with_reducible rfl))
  try simp only [Act.put, pT]
  refine tY (i := 33) (v := ?_) rfl ?_ hHeld ?_
  rotate_left
  · (intro w hSw; (try dsimp only at hSw); go_simp; (try with_reducible rfl))
  try simp only [Act.put, pT]
  refine tY (i := 34) (v := ?_) rfl ?_ hHeld ?_
  rotate_left
  · (intro w hSw; (try dsimp only at hSw); go_simp; (try with_reducible rfl))
  try simp only [Act.put, pT]
  refine wpAnyH_done (by kernel_rfl) ?_ _
  clear hHeld
  go_wp2_with fail
  go_ret
  exact ⟨rfl, cc⟩

theorem SchedEnds_d010 {w : World} {kd ba ra en wa ev la po t u f : Int} (hR0 : OkR f kd ba ra en wa ev la po) (h0 : ¬ t ≤ wa) (h1 : ¬ u ≤ wa) (h2 : ¬ t < 1) (h3 : ¬ u < 1) (h4 : ¬ 1000000 < t) (h5 : ¬ 1000000 < u) (hk : kd = 2) (qn : ¬ (t - wa) / ev = (u - wa) / ev) (q0 : 0 < (t - wa) / ev) (qr : ¬ ra = ((2 ^ f.toNat : Nat) : Int)) (hIt : I64 kd ∧ I64 ba ∧ I64 ra ∧ I64 en ∧ I64 wa ∧ I64 ev ∧ I64 la ∧ I64 po ∧ I64 t ∧ I64 f) (hIu : I64 kd ∧ I64 ba ∧ I64 ra ∧ I64 en ∧ I64 wa ∧ I64 ev ∧ I64 la ∧ I64 po ∧ I64 u ∧ I64 f) :
    Calls Try.prog 6 #[.agg #[.int .i64 kd, .int .i64 ba, .int .i64 ra, .int .i64 en, .int .i64 wa, .int .i64 ev, .int .i64 la, .int .i64 po], .agg #[.int .i64 t, .int .i64 u], .int .i64 f] w fun e w' => e = .returned (.bool true) ∧ Below w.heap.size w w' := by
  have CR0 : ∀ W : World, Calls Try.prog 8 #[.agg #[.int .i64 kd, .int .i64 ba, .int .i64 ra, .int .i64 en, .int .i64 wa, .int .i64 ev, .int .i64 la, .int .i64 po], .int .i64 f] W (GotV W (.bool true)) := fun W => by have h := rRight15_N (w := W) (f := f) (kd := kd) (ba := ba) (ra := ra) (en := en) (wa := wa) (ev := ev) (la := la) (po := po); rw [decide_eq_true hR0] at h; exact h
  have t0 : decide (t ≤ wa) = false := decide_eq_false h0
  have t1 : decide (u ≤ wa) = false := decide_eq_false h1
  have t2 : decide (t < 1) = false := decide_eq_false h2
  have t3 : decide (u < 1) = false := decide_eq_false h3
  have t4 : decide (1000000 < t) = false := decide_eq_false h4
  have t5 : decide (1000000 < u) = false := decide_eq_false h5
  have s3 : ((kd : Int) == 3) = false := beq_eq_false_iff_ne.2 (by omega)
  have s3n : ((kd : Int) != 3) = true := by simp; omega
  have s2 : ((kd : Int) == 2) = true := beq_iff_eq.2 (by omega)
  have s2n : ((kd : Int) != 2) = false := by simp; omega
  obtain ⟨d1, d2, d3⟩ := hR0.2.2.2.2.1 hk
  have f0 := hR0.1
  have wa0 := hR0.2.2.2.1
  have zt := rt_drop (f := f) (ba := ba) (ra := ra) (en := en) (ev := ev) (la := la) (po := po) (t := t) (show wa < t by omega) hk
  have zu := rt_drop (f := f) (ba := ba) (ra := ra) (en := en) (ev := ev) (la := la) (po := po) (t := u) (show wa < u by omega) hk
  have hd : 2 ^ f.toNat ≠ 0 := Nat.ne_of_gt (Nat.pow_pos (by omega))
  have h40 : 2 ^ f.toNat ≤ 1099511627776 := Nat.le_trans (Nat.pow_le_pow_right (by omega) (show f.toNat ≤ 40 by omega)) (by decide)
  obtain ⟨p, ep⟩ : ∃ q, (t - wa) / ev = q := ⟨_, rfl⟩
  have bp : 0 ≤ p ∧ p ≤ 1000000 := by rw [← ep]; exact ⟨Int.ediv_nonneg (by omega) (by omega), Int.le_trans (Int.ediv_le_self _ (by omega)) (by omega)⟩
  obtain ⟨m, em⟩ : ∃ q, (u - wa) / ev = q := ⟨_, rfl⟩
  have bm : 0 ≤ m ∧ m ≤ 1000000 := by rw [← em]; exact ⟨Int.ediv_nonneg (by omega) (by omega), Int.le_trans (Int.ediv_le_self _ (by omega)) (by omega)⟩
  rw [ep] at zt qn q0
  rw [em] at zu qn
  obtain ⟨x, e_x⟩ : ∃ x, rt15 f kd ba ra en wa ev la po t = x := ⟨_, rfl⟩
  obtain ⟨y, e_y⟩ : ∃ y, rt15 f kd ba ra en wa ev la po u = y := ⟨_, rfl⟩
  have CX : ∀ W : World, Calls Try.prog 10 #[.agg #[.int .i64 kd, .int .i64 ba, .int .i64 ra, .int .i64 en, .int .i64 wa, .int .i64 ev, .int .i64 la, .int .i64 po], .int .i64 t, .int .i64 f] W (GotV W (.tuple #[.int .i64 x, .int .i64 0])) := fun W => by
    have h := sRate_N W (t := t) (f := f) (hIt)
    rw [(rVE hR0 (by omega) (by omega)).1, (rVE hR0 (by omega) (by omega)).2, e_x] at h
    exact h
  have CY : ∀ W : World, Calls Try.prog 10 #[.agg #[.int .i64 kd, .int .i64 ba, .int .i64 ra, .int .i64 en, .int .i64 wa, .int .i64 ev, .int .i64 la, .int .i64 po], .int .i64 u, .int .i64 f] W (GotV W (.tuple #[.int .i64 y, .int .i64 0])) := fun W => by
    have h := sRate_N W (t := u) (f := f) (hIu)
    rw [(rVE hR0 (by omega) (by omega)).1, (rVE hR0 (by omega) (by omega)).2, e_y] at h
    exact h
  rw [e_x] at zt
  rw [e_y] at zu
  obtain ⟨a, ea⟩ : ∃ a, t - wa = a := ⟨_, rfl⟩
  have k1a : IntKind.i64.wrap (t - wa) = a := by rw [ea]; exact IntWalk.i64_in _ (by omega)
  rw [ea] at ep
  have k3p : Int.tdiv a ev = p := by rw [Int.tdiv_eq_ediv_of_nonneg (by omega)]; exact ep
  have k4p : IntKind.i64.wrap p = p := IntWalk.i64_in _ (by omega)
  have k6p : IntKind.i64.wrap (a / ev) = p := by rw [ep]; exact k4p
  obtain ⟨b, eb⟩ : ∃ a, u - wa = a := ⟨_, rfl⟩
  have k1b : IntKind.i64.wrap (u - wa) = b := by rw [eb]; exact IntWalk.i64_in _ (by omega)
  rw [eb] at em
  have k3m : Int.tdiv b ev = m := by rw [Int.tdiv_eq_ediv_of_nonneg (by omega)]; exact em
  have k4m : IntKind.i64.wrap m = m := IntWalk.i64_in _ (by omega)
  have k6m : IntKind.i64.wrap (b / ev) = m := by rw [em]; exact k4m
  have k5 : (ev == 0) = false := beq_eq_false_iff_ne.2 (by omega)
  have k7 : ¬ ev = 0 := by omega
  have lnm : (p == m) = false := beq_eq_false_iff_ne.2 qn
  have lnmn : (p != m) = true := by simp; omega
  have ln0 : decide (0 < p) = true := decide_eq_true (by omega)
  obtain ⟨fn, rfl⟩ : ∃ n : Nat, f = (n : Int) := ⟨f.toNat, by omega⟩
  rw [Int.toNat_natCast] at h40 qr
  have jf : fn ≤ 40 := by omega
  obtain ⟨D, eD⟩ : ∃ D, 2 ^ fn = D := ⟨_, rfl⟩
  rw [eD] at h40 qr
  have kf : IntKind.i64.wrap (2 ^ fn) = (D : Int) := by rw [show ((2 : Int) ^ fn) = ((2 ^ fn : Nat) : Int) by simp, eD]; exact IntWalk.i64_in _ (by omega)
  have kf2 : IntKind.i64.wrap (2 ^ min fn 64) = (D : Int) := by rw [Nat.min_eq_left (by omega)]; exact kf
  have jf0 : decide ((fn : Int) < 0) = false := decide_eq_false (by omega)
  have jf1 : ¬ ((fn : Int) < 0) := by omega
  have lrd : (ra == (D : Int)) = false := beq_eq_false_iff_ne.2 qr
  have lrdn : (ra != (D : Int)) = true := by simp; omega
  clear d1 d2 d3 f0 wa0 zt zu hd h40 ep bp em bm ea eb eD
  clear hR0 h0 h1 h2 h3 h4 h5 e_x e_y hIt hIu hk qn q0 qr
  have cc := Below.refl w.heap.size w
  go_enter Try.func6, Try.ntmps6
  go_wp2_with fail
  generalize hv_ : (w.alloc (.cells #[.int .i64 kd, .int .i64 ba, .int .i64 ra, .int .i64 en, .int .i64 wa, .int .i64 ev, .int .i64 la, .int .i64 po] 23)).alloc (.cells #[.int .i64 t, .int .i64 u] 24) = v1
  have bA : Below w.heap.size w v1 := by rw [← hv_]; exact (((Below.refl _ w).alloc (by simp) _).alloc (by simp) _)
  replace cc := bK cc bA
  clear bA
  have sc0 : v1.cell? ⟨w.heap.size, 0, none⟩ = some (.int .i64 kd) := by simp [← hv_, go_sem]
  have sc1 : v1.cell? ⟨w.heap.size, 1, none⟩ = some (.int .i64 ba) := by simp [← hv_, go_sem]
  have sc2 : v1.cell? ⟨w.heap.size, 2, none⟩ = some (.int .i64 ra) := by simp [← hv_, go_sem]
  have sc3 : v1.cell? ⟨w.heap.size, 3, none⟩ = some (.int .i64 en) := by simp [← hv_, go_sem]
  have sc4 : v1.cell? ⟨w.heap.size, 4, none⟩ = some (.int .i64 wa) := by simp [← hv_, go_sem]
  have sc5 : v1.cell? ⟨w.heap.size, 5, none⟩ = some (.int .i64 ev) := by simp [← hv_, go_sem]
  have sc6 : v1.cell? ⟨w.heap.size, 6, none⟩ = some (.int .i64 la) := by simp [← hv_, go_sem]
  have sc7 : v1.cell? ⟨w.heap.size, 7, none⟩ = some (.int .i64 po) := by simp [← hv_, go_sem]
  have scl : w.heap.size < v1.heap.size := by simp [← hv_] <;> omega
  obtain ⟨pt0, pt1⟩ : Cs2 v1 (w.heap.size + 1) (.int .i64 t) (.int .i64 u) := by simp [Cs2, ← hv_, go_sem]
  have ptl : w.heap.size + 1 < v1.heap.size := by simp [← hv_] <;> omega
  clear hv_
  go_wp2_with fail
  refine (CR0 _).mono ?_
  rintro e w2 ⟨rfl, b⟩
  rewrite [cR b scl] at sc0 sc1 sc2 sc3 sc4 sc5 sc6 sc7
  replace scl := lK b scl
  rewrite [cR b ptl] at pt0 pt1
  replace ptl := lK b ptl
  replace cc := bK cc b
  clear b
  go_wp2_with fail
  refine (CX _).mono ?_
  rintro e w3 ⟨rfl, b⟩
  rewrite [cR b scl] at sc0 sc1 sc2 sc3 sc4 sc5 sc6 sc7
  replace scl := lK b scl
  rewrite [cR b ptl] at pt0 pt1
  replace ptl := lK b ptl
  replace cc := bK cc b
  clear b
  go_wp2_with fail
  refine (CY _).mono ?_
  rintro e w4 ⟨rfl, b⟩
  rewrite [cR b scl] at sc0 sc1 sc2 sc3 sc4 sc5 sc6 sc7
  replace scl := lK b scl
  rewrite [cR b ptl] at pt0 pt1
  replace ptl := lK b ptl
  replace cc := bK cc b
  clear b
  go_wp2_with fail
  have bD : Below w4.heap.size w4 w4.drew := below_drewN (Below.refl _ w4) 1
  rewrite [cR bD scl] at sc0 sc1 sc2 sc3 sc4 sc5 sc6 sc7
  replace scl := lK bD scl
  rewrite [cR bD ptl] at pt0 pt1
  replace ptl := lK bD ptl
  replace cc := bK cc bD
  clear bD
  go_region_held3 (fun w' => w'.cell? ⟨w.heap.size, 0, none⟩ = some (.int .i64 kd) ∧ w'.cell? ⟨w.heap.size, 1, none⟩ = some (.int .i64 ba) ∧ w'.cell? ⟨w.heap.size, 2, none⟩ = some (.int .i64 ra) ∧ w'.cell? ⟨w.heap.size, 3, none⟩ = some (.int .i64 en) ∧ w'.cell? ⟨w.heap.size, 4, none⟩ = some (.int .i64 wa) ∧ w'.cell? ⟨w.heap.size, 5, none⟩ = some (.int .i64 ev) ∧ w'.cell? ⟨w.heap.size, 6, none⟩ = some (.int .i64 la) ∧ w'.cell? ⟨w.heap.size, 7, none⟩ = some (.int .i64 po) ∧ w'.cell? ⟨w.heap.size + 1, 0, none⟩ = some (.int .i64 t) ∧ w'.cell? ⟨w.heap.size + 1, 1, none⟩ = some (.int .i64 u)) (exact ⟨sc0, sc1, sc2, sc3, sc4, sc5, sc6, sc7, pt0, pt1⟩) (fail)
  generalize w4.drew = v5 at *
  go_wp2_with fail
  have bD : Below v5.heap.size v5 v5.drew := below_drewN (Below.refl _ v5) 1
  rewrite [cR bD scl] at sc0 sc1 sc2 sc3 sc4 sc5 sc6 sc7
  replace scl := lK bD scl
  rewrite [cR bD ptl] at pt0 pt1
  replace ptl := lK bD ptl
  replace cc := bK cc bD
  clear bD
  refine wp_region_held_drew (S := fun w' => w'.cell? ⟨w.heap.size, 0, none⟩ = some (.int .i64 kd) ∧ w'.cell? ⟨w.heap.size, 1, none⟩ = some (.int .i64 ba) ∧ w'.cell? ⟨w.heap.size, 2, none⟩ = some (.int .i64 ra) ∧ w'.cell? ⟨w.heap.size, 3, none⟩ = some (.int .i64 en) ∧ w'.cell? ⟨w.heap.size, 4, none⟩ = some (.int .i64 wa) ∧ w'.cell? ⟨w.heap.size, 5, none⟩ = some (.int .i64 ev) ∧ w'.cell? ⟨w.heap.size, 6, none⟩ = some (.int .i64 la) ∧ w'.cell? ⟨w.heap.size, 7, none⟩ = some (.int .i64 po) ∧ w'.cell? ⟨w.heap.size + 1, 0, none⟩ = some (.int .i64 t) ∧ w'.cell? ⟨w.heap.size + 1, 1, none⟩ = some (.int .i64 u)) (by kernel_rfl) ?_ (fun hHeld => ?_)
  · exact ⟨sc0, sc1, sc2, sc3, sc4, sc5, sc6, sc7, pt0, pt1⟩
  refine wpAnyH_ready (rs := [0]) (by kernel_rfl) (by simp) ?_
  refine AllReadyH.cons rfl (fun K hK => ?_) AllReadyH.nil
  (try simp only [pT])
  rw [if_pos (by rfl)]
  go_simp
  go_at_call 9
  refine (alive15_any _).mono ?_
  rintro e w6 ⟨rfl, b⟩
  rewrite [cR b scl] at sc0 sc1 sc2 sc3 sc4 sc5 sc6 sc7
  replace scl := lK b scl
  rewrite [cR b ptl] at pt0 pt1
  replace ptl := lK b ptl
  replace cc := bK cc b
  clear b
  refine hK.out _ _ ?_ (fun hHeld => ?_)
  · exact ⟨sc0, sc1, sc2, sc3, sc4, sc5, sc6, sc7, pt0, pt1⟩
  clear hK K
  try simp only [Act.put, pT]
  refine tY (i := 1) (v := ?_) rfl ?_ hHeld ?_
  rotate_left
  · (intro w hSw; (try dsimp only at hSw); go_simp; (try with_reducible rfl))
  try simp only [Act.put, pT]
  refine tY (i := 2) (v := ?_) rfl ?_ hHeld ?_
  rotate_left
  · (intro w hSw; (try dsimp only at hSw); go_simp; (try with_reducible rfl))
  try simp only [Act.put, pT]
  refine tY (i := 3) (v := ?_) rfl ?_ hHeld ?_
  rotate_left
  · (intro w hSw; (try dsimp only at hSw); go_simp; (try with_reducible rfl))
  try simp only [Act.put, pT]
  refine tY (i := 4) (v := ?_) rfl ?_ hHeld ?_
  rotate_left
  · (intro w hSw; (try dsimp only at hSw); go_simp; (try with_reducible rfl))
  try simp only [Act.put, pT]
  refine tY (i := 5) (v := ?_) rfl ?_ hHeld ?_
  rotate_left
  · (intro w hSw; (try dsimp only at hSw); go_simp; (try with_reducible rfl))
  try simp only [Act.put, pT]
  refine tU (i := 6) rfl hHeld ?_
  try simp only [Act.put, pT]
  refine tU (i := 7) rfl hHeld ?_
  try simp only [Act.put, pT]
  refine tU (i := 8) rfl hHeld ?_
  try simp only [Act.put, pT]
  refine tY (i := 9) (v := ?_) rfl ?_ hHeld ?_
  rotate_left
  · (intro w hSw; (try dsimp only at hSw); go_simp; (try with_reducible rfl))
  try simp only [Act.put, pT]
  refine tY (i := 10) (v := ?_) rfl ?_ hHeld ?_
  rotate_left
  · (intro w hSw; (try dsimp only at hSw); go_simp; (try with_reducible rfl))
  try simp only [Act.put, pT]
  refine tY (i := 11) (v := ?_) rfl ?_ hHeld ?_
  rotate_left
  · (intro w hSw; (try dsimp only at hSw); go_simp; (try with_reducible rfl))
  try simp only [Act.put, pT]
  refine tY (i := 12) (v := ?_) rfl ?_ hHeld ?_
  rotate_left
  · (intro w hSw; (try dsimp only at hSw); go_simp; (try with_reducible rfl))
  try simp only [Act.put, pT]
  refine tY (i := 13) (v := ?_) rfl ?_ hHeld ?_
  rotate_left
  · (intro w hSw; (try dsimp only at hSw); go_simp; (try with_reducible rfl))
  try simp only [Act.put, pT]
  refine tY (i := 14) (v := ?_) rfl ?_ hHeld ?_
  rotate_left
  · (intro w hSw; (try dsimp only at hSw); go_simp; (try with_reducible rfl))
  try simp only [Act.put, pT]
  refine tU (i := 15) rfl hHeld ?_
  try simp only [Act.put, pT]
  refine tU (i := 16) rfl hHeld ?_
  try simp only [Act.put, pT]
  refine tU (i := 17) rfl hHeld ?_
  try simp only [Act.put, pT]
  refine tU (i := 18) rfl hHeld ?_
  try simp only [Act.put, pT]
  refine tY (i := 19) (v := ?_) rfl ?_ hHeld ?_
  rotate_left
  · (intro w hSw; (try dsimp only at hSw); go_simp; (try with_reducible rfl))
  try simp only [Act.put, pT]
  refine tY (i := 20) (v := ?_) rfl ?_ hHeld ?_
  rotate_left
  · (intro w hSw; (try dsimp only at hSw); go_simp; (try with_reducible rfl))
  try simp only [Act.put, pT]
  refine tY (i := 21) (v := ?_) rfl ?_ hHeld ?_
  rotate_left
  · (intro w hSw; (try dsimp only at hSw); go_simp; (try with_reducible rfl))
  try simp only [Act.put, pT]
  refine tY (i := 22) (v := ?_) rfl ?_ hHeld ?_
  rotate_left
  · (intro w hSw; (try dsimp only at hSw); go_simp; (try with_reducible rfl))
  try simp only [Act.put, pT]
  refine tY (i := 23) (v := ?_) rfl ?_ hHeld ?_
  rotate_left
  · (intro w hSw; (try dsimp only at hSw); go_simp; (try with_reducible rfl))
  try simp only [Act.put, pT]
  refine tY (i := 24) (v := ?_) rfl ?_ hHeld ?_
  rotate_left
  · (intro w hSw; (try dsimp only at hSw); go_simp; (try with_reducible rfl))
  try simp only [Act.put, pT]
  refine tY (i := 25) (v := ?_) rfl ?_ hHeld ?_
  rotate_left
  · (intro w hSw; (try dsimp only at hSw); go_simp; (try with_reducible rfl))
  try simp only [Act.put, pT]
  refine tY (i := 26) (v := ?_) rfl ?_ hHeld ?_
  rotate_left
  · (intro w hSw; (try dsimp only at hSw); go_simp; (try with_reducible rfl))
  try simp only [Act.put, pT]
  refine tY (i := 27) (v := ?_) rfl ?_ hHeld ?_
  rotate_left
  · (intro w hSw; (try dsimp only at hSw); go_simp; (try with_reducible rfl))
  try simp only [Act.put, pT]
  refine tU (i := 28) rfl hHeld ?_
  try simp only [Act.put, pT]
  refine tU (i := 29) rfl hHeld ?_
  try simp only [Act.put, pT]
  refine tU (i := 30) rfl hHeld ?_
  try simp only [Act.put, pT]
  refine tU (i := 31) rfl hHeld ?_
  try simp only [Act.put, pT]
  refine tY (i := 32) (v := ?_) rfl ?_ hHeld ?_
  rotate_left
  · (intro w hSw; (try dsimp only at hSw); go_simp; (try with_reducible rfl))
  try simp only [Act.put, pT]
  refine tY (i := 33) (v := ?_) rfl ?_ hHeld ?_
  rotate_left
  · (intro w hSw; (try dsimp only at hSw); go_simp; (try with_reducible rfl))
  try simp only [Act.put, pT]
  refine tY (i := 34) (v := ?_) rfl ?_ hHeld ?_
  rotate_left
  · (intro w hSw; (try dsimp only at hSw); go_simp; (try with_reducible rfl))
  try simp only [Act.put, pT]
  refine wpAnyH_done (by kernel_rfl) ?_ _
  clear hHeld
  go_wp2_with fail
  go_ret
  exact ⟨rfl, cc⟩

theorem SchedEnds_d001 {w : World} {kd ba ra en wa ev la po t u f : Int} (hR0 : OkR f kd ba ra en wa ev la po) (h0 : ¬ t ≤ wa) (h1 : ¬ u ≤ wa) (h2 : ¬ t < 1) (h3 : ¬ u < 1) (h4 : ¬ 1000000 < t) (h5 : ¬ 1000000 < u) (hk : kd = 2) (qn : ¬ (t - wa) / ev = (u - wa) / ev) (q0 : ¬ 0 < (t - wa) / ev) (qr : ra = ((2 ^ f.toNat : Nat) : Int)) (hIt : I64 kd ∧ I64 ba ∧ I64 ra ∧ I64 en ∧ I64 wa ∧ I64 ev ∧ I64 la ∧ I64 po ∧ I64 t ∧ I64 f) (hIu : I64 kd ∧ I64 ba ∧ I64 ra ∧ I64 en ∧ I64 wa ∧ I64 ev ∧ I64 la ∧ I64 po ∧ I64 u ∧ I64 f) :
    Calls Try.prog 6 #[.agg #[.int .i64 kd, .int .i64 ba, .int .i64 ra, .int .i64 en, .int .i64 wa, .int .i64 ev, .int .i64 la, .int .i64 po], .agg #[.int .i64 t, .int .i64 u], .int .i64 f] w fun e w' => e = .returned (.bool true) ∧ Below w.heap.size w w' := by
  have CR0 : ∀ W : World, Calls Try.prog 8 #[.agg #[.int .i64 kd, .int .i64 ba, .int .i64 ra, .int .i64 en, .int .i64 wa, .int .i64 ev, .int .i64 la, .int .i64 po], .int .i64 f] W (GotV W (.bool true)) := fun W => by have h := rRight15_N (w := W) (f := f) (kd := kd) (ba := ba) (ra := ra) (en := en) (wa := wa) (ev := ev) (la := la) (po := po); rw [decide_eq_true hR0] at h; exact h
  have t0 : decide (t ≤ wa) = false := decide_eq_false h0
  have t1 : decide (u ≤ wa) = false := decide_eq_false h1
  have t2 : decide (t < 1) = false := decide_eq_false h2
  have t3 : decide (u < 1) = false := decide_eq_false h3
  have t4 : decide (1000000 < t) = false := decide_eq_false h4
  have t5 : decide (1000000 < u) = false := decide_eq_false h5
  have s3 : ((kd : Int) == 3) = false := beq_eq_false_iff_ne.2 (by omega)
  have s3n : ((kd : Int) != 3) = true := by simp; omega
  have s2 : ((kd : Int) == 2) = true := beq_iff_eq.2 (by omega)
  have s2n : ((kd : Int) != 2) = false := by simp; omega
  obtain ⟨d1, d2, d3⟩ := hR0.2.2.2.2.1 hk
  have f0 := hR0.1
  have wa0 := hR0.2.2.2.1
  have zt := rt_drop (f := f) (ba := ba) (ra := ra) (en := en) (ev := ev) (la := la) (po := po) (t := t) (show wa < t by omega) hk
  have zu := rt_drop (f := f) (ba := ba) (ra := ra) (en := en) (ev := ev) (la := la) (po := po) (t := u) (show wa < u by omega) hk
  have hd : 2 ^ f.toNat ≠ 0 := Nat.ne_of_gt (Nat.pow_pos (by omega))
  have h40 : 2 ^ f.toNat ≤ 1099511627776 := Nat.le_trans (Nat.pow_le_pow_right (by omega) (show f.toNat ≤ 40 by omega)) (by decide)
  obtain ⟨p, ep⟩ : ∃ q, (t - wa) / ev = q := ⟨_, rfl⟩
  have bp : 0 ≤ p ∧ p ≤ 1000000 := by rw [← ep]; exact ⟨Int.ediv_nonneg (by omega) (by omega), Int.le_trans (Int.ediv_le_self _ (by omega)) (by omega)⟩
  obtain ⟨m, em⟩ : ∃ q, (u - wa) / ev = q := ⟨_, rfl⟩
  have bm : 0 ≤ m ∧ m ≤ 1000000 := by rw [← em]; exact ⟨Int.ediv_nonneg (by omega) (by omega), Int.le_trans (Int.ediv_le_self _ (by omega)) (by omega)⟩
  rw [ep] at zt qn q0
  rw [em] at zu qn
  obtain ⟨x, e_x⟩ : ∃ x, rt15 f kd ba ra en wa ev la po t = x := ⟨_, rfl⟩
  obtain ⟨y, e_y⟩ : ∃ y, rt15 f kd ba ra en wa ev la po u = y := ⟨_, rfl⟩
  have CX : ∀ W : World, Calls Try.prog 10 #[.agg #[.int .i64 kd, .int .i64 ba, .int .i64 ra, .int .i64 en, .int .i64 wa, .int .i64 ev, .int .i64 la, .int .i64 po], .int .i64 t, .int .i64 f] W (GotV W (.tuple #[.int .i64 x, .int .i64 0])) := fun W => by
    have h := sRate_N W (t := t) (f := f) (hIt)
    rw [(rVE hR0 (by omega) (by omega)).1, (rVE hR0 (by omega) (by omega)).2, e_x] at h
    exact h
  have CY : ∀ W : World, Calls Try.prog 10 #[.agg #[.int .i64 kd, .int .i64 ba, .int .i64 ra, .int .i64 en, .int .i64 wa, .int .i64 ev, .int .i64 la, .int .i64 po], .int .i64 u, .int .i64 f] W (GotV W (.tuple #[.int .i64 y, .int .i64 0])) := fun W => by
    have h := sRate_N W (t := u) (f := f) (hIu)
    rw [(rVE hR0 (by omega) (by omega)).1, (rVE hR0 (by omega) (by omega)).2, e_y] at h
    exact h
  rw [e_x] at zt
  rw [e_y] at zu
  obtain ⟨a, ea⟩ : ∃ a, t - wa = a := ⟨_, rfl⟩
  have k1a : IntKind.i64.wrap (t - wa) = a := by rw [ea]; exact IntWalk.i64_in _ (by omega)
  rw [ea] at ep
  have k3p : Int.tdiv a ev = p := by rw [Int.tdiv_eq_ediv_of_nonneg (by omega)]; exact ep
  have k4p : IntKind.i64.wrap p = p := IntWalk.i64_in _ (by omega)
  have k6p : IntKind.i64.wrap (a / ev) = p := by rw [ep]; exact k4p
  obtain ⟨b, eb⟩ : ∃ a, u - wa = a := ⟨_, rfl⟩
  have k1b : IntKind.i64.wrap (u - wa) = b := by rw [eb]; exact IntWalk.i64_in _ (by omega)
  rw [eb] at em
  have k3m : Int.tdiv b ev = m := by rw [Int.tdiv_eq_ediv_of_nonneg (by omega)]; exact em
  have k4m : IntKind.i64.wrap m = m := IntWalk.i64_in _ (by omega)
  have k6m : IntKind.i64.wrap (b / ev) = m := by rw [em]; exact k4m
  have k5 : (ev == 0) = false := beq_eq_false_iff_ne.2 (by omega)
  have k7 : ¬ ev = 0 := by omega
  have lnm : (p == m) = false := beq_eq_false_iff_ne.2 qn
  have lnmn : (p != m) = true := by simp; omega
  have ln0 : decide (0 < p) = false := decide_eq_false (by omega)
  have lxb : (x == ba) = true := beq_iff_eq.2 (by rw [zt, show (min p 200).toNat = 0 by omega]; rfl)
  obtain ⟨fn, rfl⟩ : ∃ n : Nat, f = (n : Int) := ⟨f.toNat, by omega⟩
  rw [Int.toNat_natCast] at h40 qr
  have jf : fn ≤ 40 := by omega
  obtain ⟨D, eD⟩ : ∃ D, 2 ^ fn = D := ⟨_, rfl⟩
  rw [eD] at h40 qr
  have kf : IntKind.i64.wrap (2 ^ fn) = (D : Int) := by rw [show ((2 : Int) ^ fn) = ((2 ^ fn : Nat) : Int) by simp, eD]; exact IntWalk.i64_in _ (by omega)
  have kf2 : IntKind.i64.wrap (2 ^ min fn 64) = (D : Int) := by rw [Nat.min_eq_left (by omega)]; exact kf
  have jf0 : decide ((fn : Int) < 0) = false := decide_eq_false (by omega)
  have jf1 : ¬ ((fn : Int) < 0) := by omega
  have lrd : (ra == (D : Int)) = true := beq_iff_eq.2 qr
  have lrdn : (ra != (D : Int)) = false := by simp; omega
  clear d1 d2 d3 f0 wa0 zt zu hd h40 ep bp em bm ea eb eD
  clear hR0 h0 h1 h2 h3 h4 h5 e_x e_y hIt hIu hk qn q0 qr
  have cc := Below.refl w.heap.size w
  go_enter Try.func6, Try.ntmps6
  go_wp2_with fail
  generalize hv_ : (w.alloc (.cells #[.int .i64 kd, .int .i64 ba, .int .i64 ra, .int .i64 en, .int .i64 wa, .int .i64 ev, .int .i64 la, .int .i64 po] 23)).alloc (.cells #[.int .i64 t, .int .i64 u] 24) = v1
  have bA : Below w.heap.size w v1 := by rw [← hv_]; exact (((Below.refl _ w).alloc (by simp) _).alloc (by simp) _)
  replace cc := bK cc bA
  clear bA
  have sc0 : v1.cell? ⟨w.heap.size, 0, none⟩ = some (.int .i64 kd) := by simp [← hv_, go_sem]
  have sc1 : v1.cell? ⟨w.heap.size, 1, none⟩ = some (.int .i64 ba) := by simp [← hv_, go_sem]
  have sc2 : v1.cell? ⟨w.heap.size, 2, none⟩ = some (.int .i64 ra) := by simp [← hv_, go_sem]
  have sc3 : v1.cell? ⟨w.heap.size, 3, none⟩ = some (.int .i64 en) := by simp [← hv_, go_sem]
  have sc4 : v1.cell? ⟨w.heap.size, 4, none⟩ = some (.int .i64 wa) := by simp [← hv_, go_sem]
  have sc5 : v1.cell? ⟨w.heap.size, 5, none⟩ = some (.int .i64 ev) := by simp [← hv_, go_sem]
  have sc6 : v1.cell? ⟨w.heap.size, 6, none⟩ = some (.int .i64 la) := by simp [← hv_, go_sem]
  have sc7 : v1.cell? ⟨w.heap.size, 7, none⟩ = some (.int .i64 po) := by simp [← hv_, go_sem]
  have scl : w.heap.size < v1.heap.size := by simp [← hv_] <;> omega
  obtain ⟨pt0, pt1⟩ : Cs2 v1 (w.heap.size + 1) (.int .i64 t) (.int .i64 u) := by simp [Cs2, ← hv_, go_sem]
  have ptl : w.heap.size + 1 < v1.heap.size := by simp [← hv_] <;> omega
  clear hv_
  go_wp2_with fail
  refine (CR0 _).mono ?_
  rintro e w2 ⟨rfl, b⟩
  rewrite [cR b scl] at sc0 sc1 sc2 sc3 sc4 sc5 sc6 sc7
  replace scl := lK b scl
  rewrite [cR b ptl] at pt0 pt1
  replace ptl := lK b ptl
  replace cc := bK cc b
  clear b
  go_wp2_with fail
  refine (CX _).mono ?_
  rintro e w3 ⟨rfl, b⟩
  rewrite [cR b scl] at sc0 sc1 sc2 sc3 sc4 sc5 sc6 sc7
  replace scl := lK b scl
  rewrite [cR b ptl] at pt0 pt1
  replace ptl := lK b ptl
  replace cc := bK cc b
  clear b
  go_wp2_with fail
  refine (CY _).mono ?_
  rintro e w4 ⟨rfl, b⟩
  rewrite [cR b scl] at sc0 sc1 sc2 sc3 sc4 sc5 sc6 sc7
  replace scl := lK b scl
  rewrite [cR b ptl] at pt0 pt1
  replace ptl := lK b ptl
  replace cc := bK cc b
  clear b
  go_wp2_with fail
  have bD : Below w4.heap.size w4 w4.drew := below_drewN (Below.refl _ w4) 1
  rewrite [cR bD scl] at sc0 sc1 sc2 sc3 sc4 sc5 sc6 sc7
  replace scl := lK bD scl
  rewrite [cR bD ptl] at pt0 pt1
  replace ptl := lK bD ptl
  replace cc := bK cc bD
  clear bD
  go_region_held3 (fun w' => w'.cell? ⟨w.heap.size, 0, none⟩ = some (.int .i64 kd) ∧ w'.cell? ⟨w.heap.size, 1, none⟩ = some (.int .i64 ba) ∧ w'.cell? ⟨w.heap.size, 2, none⟩ = some (.int .i64 ra) ∧ w'.cell? ⟨w.heap.size, 3, none⟩ = some (.int .i64 en) ∧ w'.cell? ⟨w.heap.size, 4, none⟩ = some (.int .i64 wa) ∧ w'.cell? ⟨w.heap.size, 5, none⟩ = some (.int .i64 ev) ∧ w'.cell? ⟨w.heap.size, 6, none⟩ = some (.int .i64 la) ∧ w'.cell? ⟨w.heap.size, 7, none⟩ = some (.int .i64 po) ∧ w'.cell? ⟨w.heap.size + 1, 0, none⟩ = some (.int .i64 t) ∧ w'.cell? ⟨w.heap.size + 1, 1, none⟩ = some (.int .i64 u)) (exact ⟨sc0, sc1, sc2, sc3, sc4, sc5, sc6, sc7, pt0, pt1⟩) (fail)
  generalize w4.drew = v5 at *
  go_wp2_with fail
  have bD : Below v5.heap.size v5 v5.drew := below_drewN (Below.refl _ v5) 1
  rewrite [cR bD scl] at sc0 sc1 sc2 sc3 sc4 sc5 sc6 sc7
  replace scl := lK bD scl
  rewrite [cR bD ptl] at pt0 pt1
  replace ptl := lK bD ptl
  replace cc := bK cc bD
  clear bD
  refine wp_region_held_drew (S := fun w' => w'.cell? ⟨w.heap.size, 0, none⟩ = some (.int .i64 kd) ∧ w'.cell? ⟨w.heap.size, 1, none⟩ = some (.int .i64 ba) ∧ w'.cell? ⟨w.heap.size, 2, none⟩ = some (.int .i64 ra) ∧ w'.cell? ⟨w.heap.size, 3, none⟩ = some (.int .i64 en) ∧ w'.cell? ⟨w.heap.size, 4, none⟩ = some (.int .i64 wa) ∧ w'.cell? ⟨w.heap.size, 5, none⟩ = some (.int .i64 ev) ∧ w'.cell? ⟨w.heap.size, 6, none⟩ = some (.int .i64 la) ∧ w'.cell? ⟨w.heap.size, 7, none⟩ = some (.int .i64 po) ∧ w'.cell? ⟨w.heap.size + 1, 0, none⟩ = some (.int .i64 t) ∧ w'.cell? ⟨w.heap.size + 1, 1, none⟩ = some (.int .i64 u)) (by kernel_rfl) ?_ (fun hHeld => ?_)
  · exact ⟨sc0, sc1, sc2, sc3, sc4, sc5, sc6, sc7, pt0, pt1⟩
  refine wpAnyH_ready (rs := [0]) (by kernel_rfl) (by simp) ?_
  refine AllReadyH.cons rfl (fun K hK => ?_) AllReadyH.nil
  (try simp only [pT])
  rw [if_pos (by rfl)]
  go_simp
  go_at_call 9
  refine (alive15_any _).mono ?_
  rintro e w6 ⟨rfl, b⟩
  rewrite [cR b scl] at sc0 sc1 sc2 sc3 sc4 sc5 sc6 sc7
  replace scl := lK b scl
  rewrite [cR b ptl] at pt0 pt1
  replace ptl := lK b ptl
  replace cc := bK cc b
  clear b
  refine hK.out _ _ ?_ (fun hHeld => ?_)
  · exact ⟨sc0, sc1, sc2, sc3, sc4, sc5, sc6, sc7, pt0, pt1⟩
  clear hK K
  try simp only [Act.put, pT]
  refine tY (i := 1) (v := ?_) rfl ?_ hHeld ?_
  rotate_left
  · (intro w hSw; (try dsimp only at hSw); go_simp; (try with_reducible rfl))
  try simp only [Act.put, pT]
  refine tY (i := 2) (v := ?_) rfl ?_ hHeld ?_
  rotate_left
  · (intro w hSw; (try dsimp only at hSw); go_simp; (try with_reducible rfl))
  try simp only [Act.put, pT]
  refine tY (i := 3) (v := ?_) rfl ?_ hHeld ?_
  rotate_left
  · (intro w hSw; (try dsimp only at hSw); go_simp; (try with_reducible rfl))
  try simp only [Act.put, pT]
  refine tY (i := 4) (v := ?_) rfl ?_ hHeld ?_
  rotate_left
  · (intro w hSw; (try dsimp only at hSw); go_simp; (try with_reducible rfl))
  try simp only [Act.put, pT]
  refine tY (i := 5) (v := ?_) rfl ?_ hHeld ?_
  rotate_left
  · (intro w hSw; (try dsimp only at hSw); go_simp; (try with_reducible rfl))
  try simp only [Act.put, pT]
  refine tU (i := 6) rfl hHeld ?_
  try simp only [Act.put, pT]
  refine tU (i := 7) rfl hHeld ?_
  try simp only [Act.put, pT]
  refine tU (i := 8) rfl hHeld ?_
  try simp only [Act.put, pT]
  refine tY (i := 9) (v := ?_) rfl ?_ hHeld ?_
  rotate_left
  · (intro w hSw; (try dsimp only at hSw); go_simp; (try with_reducible rfl))
  try simp only [Act.put, pT]
  refine tY (i := 10) (v := ?_) rfl ?_ hHeld ?_
  rotate_left
  · (intro w hSw; (try dsimp only at hSw); go_simp; (try with_reducible rfl))
  try simp only [Act.put, pT]
  refine tY (i := 11) (v := ?_) rfl ?_ hHeld ?_
  rotate_left
  · (intro w hSw; (try dsimp only at hSw); go_simp; (try with_reducible rfl))
  try simp only [Act.put, pT]
  refine tY (i := 12) (v := ?_) rfl ?_ hHeld ?_
  rotate_left
  · (intro w hSw; (try dsimp only at hSw); go_simp; (try with_reducible rfl))
  try simp only [Act.put, pT]
  refine tY (i := 13) (v := ?_) rfl ?_ hHeld ?_
  rotate_left
  · (intro w hSw; (try dsimp only at hSw); go_simp; (try with_reducible rfl))
  try simp only [Act.put, pT]
  refine tY (i := 14) (v := ?_) rfl ?_ hHeld ?_
  rotate_left
  · (intro w hSw; (try dsimp only at hSw); go_simp; (try with_reducible rfl))
  try simp only [Act.put, pT]
  refine tY (i := 15) (v := ?_) rfl ?_ hHeld ?_
  rotate_left
  · (intro w hSw; (try dsimp only at hSw); go_simp; (try with_reducible rfl))
  try simp only [Act.put, pT]
  refine tY (i := 16) (v := ?_) rfl ?_ hHeld ?_
  rotate_left
  · (intro w hSw; (try dsimp only at hSw); go_simp; (try with_reducible rfl))
  try simp only [Act.put, pT]
  refine tY (i := 17) (v := ?_) rfl ?_ hHeld ?_
  rotate_left
  · (intro w hSw; (try dsimp only at hSw); go_simp; (try with_reducible rfl))
  try simp only [Act.put, pT]
  refine tY (i := 18) (v := ?_) rfl ?_ hHeld ?_
  rotate_left
  · (intro w hSw; (try dsimp only at hSw); go_simp; (try with_reducible rfl))
  try simp only [Act.put, pT]
  refine tY (i := 19) (v := ?_) rfl ?_ hHeld ?_
  rotate_left
  · (intro w hSw; (try dsimp only at hSw); go_simp; (try with_reducible rfl))
  try simp only [Act.put, pT]
  refine tY (i := 20) (v := ?_) rfl ?_ hHeld ?_
  rotate_left
  · (intro w hSw; (try dsimp only at hSw); go_simp; (try with_reducible rfl))
  try simp only [Act.put, pT]
  refine tY (i := 21) (v := ?_) rfl ?_ hHeld ?_
  rotate_left
  · (intro w hSw; (try dsimp only at hSw); go_simp; (try with_reducible rfl))
  try simp only [Act.put, pT]
  refine tY (i := 22) (v := ?_) rfl ?_ hHeld ?_
  rotate_left
  · (intro w hSw; (try dsimp only at hSw); go_simp; (try with_reducible rfl))
  try simp only [Act.put, pT]
  refine tY (i := 23) (v := ?_) rfl ?_ hHeld ?_
  rotate_left
  · (intro w hSw; (try dsimp only at hSw); go_simp; (try with_reducible rfl))
  try simp only [Act.put, pT]
  refine tY (i := 24) (v := ?_) rfl ?_ hHeld ?_
  rotate_left
  · (intro w hSw; (try dsimp only at hSw); go_simp; (try with_reducible rfl))
  try simp only [Act.put, pT]
  refine tY (i := 25) (v := ?_) rfl ?_ hHeld ?_
  rotate_left
  · (intro w hSw; (try dsimp only at hSw); go_simp; (try with_reducible rfl))
  try simp only [Act.put, pT]
  refine tY (i := 26) (v := ?_) rfl ?_ hHeld ?_
  rotate_left
  · (intro w hSw; (try dsimp only at hSw); go_simp; (try with_reducible rfl))
  try simp only [Act.put, pT]
  refine tY (i := 27) (v := ?_) rfl ?_ hHeld ?_
  rotate_left
  · (intro w hSw; (try dsimp only at hSw); go_simp; (try with_reducible rfl))
  try simp only [Act.put, pT]
  refine tY (i := 28) (v := ?_) rfl ?_ hHeld ?_
  rotate_left
  · (intro w hSw; (try dsimp only at hSw); go_simp; (try with_reducible rfl))
  try simp only [Act.put, pT]
  refine tY (i := 29) (v := ?_) rfl ?_ hHeld ?_
  rotate_left
  · (intro w hSw; (try dsimp only at hSw); go_simp; (try with_reducible rfl))
  try simp only [Act.put, pT]
  refine tY (i := 30) (v := ?_) rfl ?_ hHeld ?_
  rotate_left
  · (intro w hSw; (try dsimp only at hSw); go_simp; (try with_reducible rfl))
  try simp only [Act.put, pT]
  refine tY (i := 31) (v := ?_) rfl ?_ hHeld ?_
  rotate_left
  · (intro w hSw; (try dsimp only at hSw); go_simp; (try with_reducible rfl))
  try simp only [Act.put, pT]
  refine tY (i := 32) (v := ?_) rfl ?_ hHeld ?_
  rotate_left
  · (intro w hSw; (try dsimp only at hSw); go_simp; (try with_reducible rfl))
  try simp only [Act.put, pT]
  refine tY (i := 33) (v := ?_) rfl ?_ hHeld ?_
  rotate_left
  · (intro w hSw; (try dsimp only at hSw); go_simp; (try with_reducible rfl))
  try simp only [Act.put, pT]
  refine tY (i := 34) (v := ?_) rfl ?_ hHeld ?_
  rotate_left
  · (intro w hSw; (try dsimp only at hSw); go_simp; (try with_reducible rfl))
  try simp only [Act.put, pT]
  refine wpAnyH_done (by kernel_rfl) ?_ _
  clear hHeld
  go_wp2_with fail
  go_ret
  exact ⟨rfl, cc⟩

theorem SchedEnds_d000 {w : World} {kd ba ra en wa ev la po t u f : Int} (hR0 : OkR f kd ba ra en wa ev la po) (h0 : ¬ t ≤ wa) (h1 : ¬ u ≤ wa) (h2 : ¬ t < 1) (h3 : ¬ u < 1) (h4 : ¬ 1000000 < t) (h5 : ¬ 1000000 < u) (hk : kd = 2) (qn : ¬ (t - wa) / ev = (u - wa) / ev) (q0 : ¬ 0 < (t - wa) / ev) (qr : ¬ ra = ((2 ^ f.toNat : Nat) : Int)) (hIt : I64 kd ∧ I64 ba ∧ I64 ra ∧ I64 en ∧ I64 wa ∧ I64 ev ∧ I64 la ∧ I64 po ∧ I64 t ∧ I64 f) (hIu : I64 kd ∧ I64 ba ∧ I64 ra ∧ I64 en ∧ I64 wa ∧ I64 ev ∧ I64 la ∧ I64 po ∧ I64 u ∧ I64 f) :
    Calls Try.prog 6 #[.agg #[.int .i64 kd, .int .i64 ba, .int .i64 ra, .int .i64 en, .int .i64 wa, .int .i64 ev, .int .i64 la, .int .i64 po], .agg #[.int .i64 t, .int .i64 u], .int .i64 f] w fun e w' => e = .returned (.bool true) ∧ Below w.heap.size w w' := by
  have CR0 : ∀ W : World, Calls Try.prog 8 #[.agg #[.int .i64 kd, .int .i64 ba, .int .i64 ra, .int .i64 en, .int .i64 wa, .int .i64 ev, .int .i64 la, .int .i64 po], .int .i64 f] W (GotV W (.bool true)) := fun W => by have h := rRight15_N (w := W) (f := f) (kd := kd) (ba := ba) (ra := ra) (en := en) (wa := wa) (ev := ev) (la := la) (po := po); rw [decide_eq_true hR0] at h; exact h
  have t0 : decide (t ≤ wa) = false := decide_eq_false h0
  have t1 : decide (u ≤ wa) = false := decide_eq_false h1
  have t2 : decide (t < 1) = false := decide_eq_false h2
  have t3 : decide (u < 1) = false := decide_eq_false h3
  have t4 : decide (1000000 < t) = false := decide_eq_false h4
  have t5 : decide (1000000 < u) = false := decide_eq_false h5
  have s3 : ((kd : Int) == 3) = false := beq_eq_false_iff_ne.2 (by omega)
  have s3n : ((kd : Int) != 3) = true := by simp; omega
  have s2 : ((kd : Int) == 2) = true := beq_iff_eq.2 (by omega)
  have s2n : ((kd : Int) != 2) = false := by simp; omega
  obtain ⟨d1, d2, d3⟩ := hR0.2.2.2.2.1 hk
  have f0 := hR0.1
  have wa0 := hR0.2.2.2.1
  have zt := rt_drop (f := f) (ba := ba) (ra := ra) (en := en) (ev := ev) (la := la) (po := po) (t := t) (show wa < t by omega) hk
  have zu := rt_drop (f := f) (ba := ba) (ra := ra) (en := en) (ev := ev) (la := la) (po := po) (t := u) (show wa < u by omega) hk
  have hd : 2 ^ f.toNat ≠ 0 := Nat.ne_of_gt (Nat.pow_pos (by omega))
  have h40 : 2 ^ f.toNat ≤ 1099511627776 := Nat.le_trans (Nat.pow_le_pow_right (by omega) (show f.toNat ≤ 40 by omega)) (by decide)
  obtain ⟨p, ep⟩ : ∃ q, (t - wa) / ev = q := ⟨_, rfl⟩
  have bp : 0 ≤ p ∧ p ≤ 1000000 := by rw [← ep]; exact ⟨Int.ediv_nonneg (by omega) (by omega), Int.le_trans (Int.ediv_le_self _ (by omega)) (by omega)⟩
  obtain ⟨m, em⟩ : ∃ q, (u - wa) / ev = q := ⟨_, rfl⟩
  have bm : 0 ≤ m ∧ m ≤ 1000000 := by rw [← em]; exact ⟨Int.ediv_nonneg (by omega) (by omega), Int.le_trans (Int.ediv_le_self _ (by omega)) (by omega)⟩
  rw [ep] at zt qn q0
  rw [em] at zu qn
  obtain ⟨x, e_x⟩ : ∃ x, rt15 f kd ba ra en wa ev la po t = x := ⟨_, rfl⟩
  obtain ⟨y, e_y⟩ : ∃ y, rt15 f kd ba ra en wa ev la po u = y := ⟨_, rfl⟩
  have CX : ∀ W : World, Calls Try.prog 10 #[.agg #[.int .i64 kd, .int .i64 ba, .int .i64 ra, .int .i64 en, .int .i64 wa, .int .i64 ev, .int .i64 la, .int .i64 po], .int .i64 t, .int .i64 f] W (GotV W (.tuple #[.int .i64 x, .int .i64 0])) := fun W => by
    have h := sRate_N W (t := t) (f := f) (hIt)
    rw [(rVE hR0 (by omega) (by omega)).1, (rVE hR0 (by omega) (by omega)).2, e_x] at h
    exact h
  have CY : ∀ W : World, Calls Try.prog 10 #[.agg #[.int .i64 kd, .int .i64 ba, .int .i64 ra, .int .i64 en, .int .i64 wa, .int .i64 ev, .int .i64 la, .int .i64 po], .int .i64 u, .int .i64 f] W (GotV W (.tuple #[.int .i64 y, .int .i64 0])) := fun W => by
    have h := sRate_N W (t := u) (f := f) (hIu)
    rw [(rVE hR0 (by omega) (by omega)).1, (rVE hR0 (by omega) (by omega)).2, e_y] at h
    exact h
  rw [e_x] at zt
  rw [e_y] at zu
  obtain ⟨a, ea⟩ : ∃ a, t - wa = a := ⟨_, rfl⟩
  have k1a : IntKind.i64.wrap (t - wa) = a := by rw [ea]; exact IntWalk.i64_in _ (by omega)
  rw [ea] at ep
  have k3p : Int.tdiv a ev = p := by rw [Int.tdiv_eq_ediv_of_nonneg (by omega)]; exact ep
  have k4p : IntKind.i64.wrap p = p := IntWalk.i64_in _ (by omega)
  have k6p : IntKind.i64.wrap (a / ev) = p := by rw [ep]; exact k4p
  obtain ⟨b, eb⟩ : ∃ a, u - wa = a := ⟨_, rfl⟩
  have k1b : IntKind.i64.wrap (u - wa) = b := by rw [eb]; exact IntWalk.i64_in _ (by omega)
  rw [eb] at em
  have k3m : Int.tdiv b ev = m := by rw [Int.tdiv_eq_ediv_of_nonneg (by omega)]; exact em
  have k4m : IntKind.i64.wrap m = m := IntWalk.i64_in _ (by omega)
  have k6m : IntKind.i64.wrap (b / ev) = m := by rw [em]; exact k4m
  have k5 : (ev == 0) = false := beq_eq_false_iff_ne.2 (by omega)
  have k7 : ¬ ev = 0 := by omega
  have lnm : (p == m) = false := beq_eq_false_iff_ne.2 qn
  have lnmn : (p != m) = true := by simp; omega
  have ln0 : decide (0 < p) = false := decide_eq_false (by omega)
  have lxb : (x == ba) = true := beq_iff_eq.2 (by rw [zt, show (min p 200).toNat = 0 by omega]; rfl)
  obtain ⟨fn, rfl⟩ : ∃ n : Nat, f = (n : Int) := ⟨f.toNat, by omega⟩
  rw [Int.toNat_natCast] at h40 qr
  have jf : fn ≤ 40 := by omega
  obtain ⟨D, eD⟩ : ∃ D, 2 ^ fn = D := ⟨_, rfl⟩
  rw [eD] at h40 qr
  have kf : IntKind.i64.wrap (2 ^ fn) = (D : Int) := by rw [show ((2 : Int) ^ fn) = ((2 ^ fn : Nat) : Int) by simp, eD]; exact IntWalk.i64_in _ (by omega)
  have kf2 : IntKind.i64.wrap (2 ^ min fn 64) = (D : Int) := by rw [Nat.min_eq_left (by omega)]; exact kf
  have jf0 : decide ((fn : Int) < 0) = false := decide_eq_false (by omega)
  have jf1 : ¬ ((fn : Int) < 0) := by omega
  have lrd : (ra == (D : Int)) = false := beq_eq_false_iff_ne.2 qr
  have lrdn : (ra != (D : Int)) = true := by simp; omega
  clear d1 d2 d3 f0 wa0 zt zu hd h40 ep bp em bm ea eb eD
  clear hR0 h0 h1 h2 h3 h4 h5 e_x e_y hIt hIu hk qn q0 qr
  have cc := Below.refl w.heap.size w
  go_enter Try.func6, Try.ntmps6
  go_wp2_with fail
  generalize hv_ : (w.alloc (.cells #[.int .i64 kd, .int .i64 ba, .int .i64 ra, .int .i64 en, .int .i64 wa, .int .i64 ev, .int .i64 la, .int .i64 po] 23)).alloc (.cells #[.int .i64 t, .int .i64 u] 24) = v1
  have bA : Below w.heap.size w v1 := by rw [← hv_]; exact (((Below.refl _ w).alloc (by simp) _).alloc (by simp) _)
  replace cc := bK cc bA
  clear bA
  have sc0 : v1.cell? ⟨w.heap.size, 0, none⟩ = some (.int .i64 kd) := by simp [← hv_, go_sem]
  have sc1 : v1.cell? ⟨w.heap.size, 1, none⟩ = some (.int .i64 ba) := by simp [← hv_, go_sem]
  have sc2 : v1.cell? ⟨w.heap.size, 2, none⟩ = some (.int .i64 ra) := by simp [← hv_, go_sem]
  have sc3 : v1.cell? ⟨w.heap.size, 3, none⟩ = some (.int .i64 en) := by simp [← hv_, go_sem]
  have sc4 : v1.cell? ⟨w.heap.size, 4, none⟩ = some (.int .i64 wa) := by simp [← hv_, go_sem]
  have sc5 : v1.cell? ⟨w.heap.size, 5, none⟩ = some (.int .i64 ev) := by simp [← hv_, go_sem]
  have sc6 : v1.cell? ⟨w.heap.size, 6, none⟩ = some (.int .i64 la) := by simp [← hv_, go_sem]
  have sc7 : v1.cell? ⟨w.heap.size, 7, none⟩ = some (.int .i64 po) := by simp [← hv_, go_sem]
  have scl : w.heap.size < v1.heap.size := by simp [← hv_] <;> omega
  obtain ⟨pt0, pt1⟩ : Cs2 v1 (w.heap.size + 1) (.int .i64 t) (.int .i64 u) := by simp [Cs2, ← hv_, go_sem]
  have ptl : w.heap.size + 1 < v1.heap.size := by simp [← hv_] <;> omega
  clear hv_
  go_wp2_with fail
  refine (CR0 _).mono ?_
  rintro e w2 ⟨rfl, b⟩
  rewrite [cR b scl] at sc0 sc1 sc2 sc3 sc4 sc5 sc6 sc7
  replace scl := lK b scl
  rewrite [cR b ptl] at pt0 pt1
  replace ptl := lK b ptl
  replace cc := bK cc b
  clear b
  go_wp2_with fail
  refine (CX _).mono ?_
  rintro e w3 ⟨rfl, b⟩
  rewrite [cR b scl] at sc0 sc1 sc2 sc3 sc4 sc5 sc6 sc7
  replace scl := lK b scl
  rewrite [cR b ptl] at pt0 pt1
  replace ptl := lK b ptl
  replace cc := bK cc b
  clear b
  go_wp2_with fail
  refine (CY _).mono ?_
  rintro e w4 ⟨rfl, b⟩
  rewrite [cR b scl] at sc0 sc1 sc2 sc3 sc4 sc5 sc6 sc7
  replace scl := lK b scl
  rewrite [cR b ptl] at pt0 pt1
  replace ptl := lK b ptl
  replace cc := bK cc b
  clear b
  go_wp2_with fail
  have bD : Below w4.heap.size w4 w4.drew := below_drewN (Below.refl _ w4) 1
  rewrite [cR bD scl] at sc0 sc1 sc2 sc3 sc4 sc5 sc6 sc7
  replace scl := lK bD scl
  rewrite [cR bD ptl] at pt0 pt1
  replace ptl := lK bD ptl
  replace cc := bK cc bD
  clear bD
  go_region_held3 (fun w' => w'.cell? ⟨w.heap.size, 0, none⟩ = some (.int .i64 kd) ∧ w'.cell? ⟨w.heap.size, 1, none⟩ = some (.int .i64 ba) ∧ w'.cell? ⟨w.heap.size, 2, none⟩ = some (.int .i64 ra) ∧ w'.cell? ⟨w.heap.size, 3, none⟩ = some (.int .i64 en) ∧ w'.cell? ⟨w.heap.size, 4, none⟩ = some (.int .i64 wa) ∧ w'.cell? ⟨w.heap.size, 5, none⟩ = some (.int .i64 ev) ∧ w'.cell? ⟨w.heap.size, 6, none⟩ = some (.int .i64 la) ∧ w'.cell? ⟨w.heap.size, 7, none⟩ = some (.int .i64 po) ∧ w'.cell? ⟨w.heap.size + 1, 0, none⟩ = some (.int .i64 t) ∧ w'.cell? ⟨w.heap.size + 1, 1, none⟩ = some (.int .i64 u)) (exact ⟨sc0, sc1, sc2, sc3, sc4, sc5, sc6, sc7, pt0, pt1⟩) (fail)
  generalize w4.drew = v5 at *
  go_wp2_with fail
  have bD : Below v5.heap.size v5 v5.drew := below_drewN (Below.refl _ v5) 1
  rewrite [cR bD scl] at sc0 sc1 sc2 sc3 sc4 sc5 sc6 sc7
  replace scl := lK bD scl
  rewrite [cR bD ptl] at pt0 pt1
  replace ptl := lK bD ptl
  replace cc := bK cc bD
  clear bD
  refine wp_region_held_drew (S := fun w' => w'.cell? ⟨w.heap.size, 0, none⟩ = some (.int .i64 kd) ∧ w'.cell? ⟨w.heap.size, 1, none⟩ = some (.int .i64 ba) ∧ w'.cell? ⟨w.heap.size, 2, none⟩ = some (.int .i64 ra) ∧ w'.cell? ⟨w.heap.size, 3, none⟩ = some (.int .i64 en) ∧ w'.cell? ⟨w.heap.size, 4, none⟩ = some (.int .i64 wa) ∧ w'.cell? ⟨w.heap.size, 5, none⟩ = some (.int .i64 ev) ∧ w'.cell? ⟨w.heap.size, 6, none⟩ = some (.int .i64 la) ∧ w'.cell? ⟨w.heap.size, 7, none⟩ = some (.int .i64 po) ∧ w'.cell? ⟨w.heap.size + 1, 0, none⟩ = some (.int .i64 t) ∧ w'.cell? ⟨w.heap.size + 1, 1, none⟩ = some (.int .i64 u)) (by kernel_rfl) ?_ (fun hHeld => ?_)
  · exact ⟨sc0, sc1, sc2, sc3, sc4, sc5, sc6, sc7, pt0, pt1⟩
  refine wpAnyH_ready (rs := [0]) (by kernel_rfl) (by simp) ?_
  refine AllReadyH.cons rfl (fun K hK => ?_) AllReadyH.nil
  (try simp only [pT])
  rw [if_pos (by rfl)]
  go_simp
  go_at_call 9
  refine (alive15_any _).mono ?_
  rintro e w6 ⟨rfl, b⟩
  rewrite [cR b scl] at sc0 sc1 sc2 sc3 sc4 sc5 sc6 sc7
  replace scl := lK b scl
  rewrite [cR b ptl] at pt0 pt1
  replace ptl := lK b ptl
  replace cc := bK cc b
  clear b
  refine hK.out _ _ ?_ (fun hHeld => ?_)
  · exact ⟨sc0, sc1, sc2, sc3, sc4, sc5, sc6, sc7, pt0, pt1⟩
  clear hK K
  try simp only [Act.put, pT]
  refine tY (i := 1) (v := ?_) rfl ?_ hHeld ?_
  rotate_left
  · (intro w hSw; (try dsimp only at hSw); go_simp; (try with_reducible rfl))
  try simp only [Act.put, pT]
  refine tY (i := 2) (v := ?_) rfl ?_ hHeld ?_
  rotate_left
  · (intro w hSw; (try dsimp only at hSw); go_simp; (try with_reducible rfl))
  try simp only [Act.put, pT]
  refine tY (i := 3) (v := ?_) rfl ?_ hHeld ?_
  rotate_left
  · (intro w hSw; (try dsimp only at hSw); go_simp; (try with_reducible rfl))
  try simp only [Act.put, pT]
  refine tY (i := 4) (v := ?_) rfl ?_ hHeld ?_
  rotate_left
  · (intro w hSw; (try dsimp only at hSw); go_simp; (try with_reducible rfl))
  try simp only [Act.put, pT]
  refine tY (i := 5) (v := ?_) rfl ?_ hHeld ?_
  rotate_left
  · (intro w hSw; (try dsimp only at hSw); go_simp; (try with_reducible rfl))
  try simp only [Act.put, pT]
  refine tU (i := 6) rfl hHeld ?_
  try simp only [Act.put, pT]
  refine tU (i := 7) rfl hHeld ?_
  try simp only [Act.put, pT]
  refine tU (i := 8) rfl hHeld ?_
  try simp only [Act.put, pT]
  refine tY (i := 9) (v := ?_) rfl ?_ hHeld ?_
  rotate_left
  · (intro w hSw; (try dsimp only at hSw); go_simp; (try with_reducible rfl))
  try simp only [Act.put, pT]
  refine tY (i := 10) (v := ?_) rfl ?_ hHeld ?_
  rotate_left
  · (intro w hSw; (try dsimp only at hSw); go_simp; (try with_reducible rfl))
  try simp only [Act.put, pT]
  refine tY (i := 11) (v := ?_) rfl ?_ hHeld ?_
  rotate_left
  · (intro w hSw; (try dsimp only at hSw); go_simp; (try with_reducible rfl))
  try simp only [Act.put, pT]
  refine tY (i := 12) (v := ?_) rfl ?_ hHeld ?_
  rotate_left
  · (intro w hSw; (try dsimp only at hSw); go_simp; (try with_reducible rfl))
  try simp only [Act.put, pT]
  refine tY (i := 13) (v := ?_) rfl ?_ hHeld ?_
  rotate_left
  · (intro w hSw; (try dsimp only at hSw); go_simp; (try with_reducible rfl))
  try simp only [Act.put, pT]
  refine tY (i := 14) (v := ?_) rfl ?_ hHeld ?_
  rotate_left
  · (intro w hSw; (try dsimp only at hSw); go_simp; (try with_reducible rfl))
  try simp only [Act.put, pT]
  refine tY (i := 15) (v := ?_) rfl ?_ hHeld ?_
  rotate_left
  · (intro w hSw; (try dsimp only at hSw); go_simp; (try with_reducible rfl))
  try simp only [Act.put, pT]
  refine tY (i := 16) (v := ?_) rfl ?_ hHeld ?_
  rotate_left
  · (intro w hSw; (try dsimp only at hSw); go_simp; (try with_reducible rfl))
  try simp only [Act.put, pT]
  refine tY (i := 17) (v := ?_) rfl ?_ hHeld ?_
  rotate_left
  · (intro w hSw; (try dsimp only at hSw); go_simp; (try with_reducible rfl))
  try simp only [Act.put, pT]
  refine tY (i := 18) (v := ?_) rfl ?_ hHeld ?_
  rotate_left
  · (intro w hSw; (try dsimp only at hSw); go_simp; (try with_reducible rfl))
  try simp only [Act.put, pT]
  refine tY (i := 19) (v := ?_) rfl ?_ hHeld ?_
  rotate_left
  · (intro w hSw; (try dsimp only at hSw); go_simp; (try with_reducible rfl))
  try simp only [Act.put, pT]
  refine tY (i := 20) (v := ?_) rfl ?_ hHeld ?_
  rotate_left
  · (intro w hSw; (try dsimp only at hSw); go_simp; (try with_reducible rfl))
  try simp only [Act.put, pT]
  refine tY (i := 21) (v := ?_) rfl ?_ hHeld ?_
  rotate_left
  · (intro w hSw; (try dsimp only at hSw); go_simp; (try with_reducible rfl))
  try simp only [Act.put, pT]
  refine tY (i := 22) (v := ?_) rfl ?_ hHeld ?_
  rotate_left
  · (intro w hSw; (try dsimp only at hSw); go_simp; (try with_reducible rfl))
  try simp only [Act.put, pT]
  refine tY (i := 23) (v := ?_) rfl ?_ hHeld ?_
  rotate_left
  · (intro w hSw; (try dsimp only at hSw); go_simp; (try with_reducible rfl))
  try simp only [Act.put, pT]
  refine tY (i := 24) (v := ?_) rfl ?_ hHeld ?_
  rotate_left
  · (intro w hSw; (try dsimp only at hSw); go_simp; (try with_reducible rfl))
  try simp only [Act.put, pT]
  refine tY (i := 25) (v := ?_) rfl ?_ hHeld ?_
  rotate_left
  · (intro w hSw; (try dsimp only at hSw); go_simp; (try with_reducible rfl))
  try simp only [Act.put, pT]
  refine tY (i := 26) (v := ?_) rfl ?_ hHeld ?_
  rotate_left
  · (intro w hSw; (try dsimp only at hSw); go_simp; (try with_reducible rfl))
  try simp only [Act.put, pT]
  refine tY (i := 27) (v := ?_) rfl ?_ hHeld ?_
  rotate_left
  · (intro w hSw; (try dsimp only at hSw); go_simp; (try with_reducible rfl))
  try simp only [Act.put, pT]
  refine tU (i := 28) rfl hHeld ?_
  try simp only [Act.put, pT]
  refine tU (i := 29) rfl hHeld ?_
  try simp only [Act.put, pT]
  refine tU (i := 30) rfl hHeld ?_
  try simp only [Act.put, pT]
  refine tU (i := 31) rfl hHeld ?_
  try simp only [Act.put, pT]
  refine tY (i := 32) (v := ?_) rfl ?_ hHeld ?_
  rotate_left
  · (intro w hSw; (try dsimp only at hSw); go_simp; (try with_reducible rfl))
  try simp only [Act.put, pT]
  refine tY (i := 33) (v := ?_) rfl ?_ hHeld ?_
  rotate_left
  · (intro w hSw; (try dsimp only at hSw); go_simp; (try with_reducible rfl))
  try simp only [Act.put, pT]
  refine tY (i := 34) (v := ?_) rfl ?_ hHeld ?_
  rotate_left
  · (intro w hSw; (try dsimp only at hSw); go_simp; (try with_reducible rfl))
  try simp only [Act.put, pT]
  refine wpAnyH_done (by kernel_rfl) ?_ _
  clear hHeld
  go_wp2_with fail
  go_ret
  exact ⟨rfl, cc⟩

end Go.Proofs.Ytmaolhajeoigpaa
