/-
  A way through RatOrder.
-/
import Derived.Test.YtgnhioffamfakaaA9
namespace Go.Proofs.Ytgnhioffamfakaa
open Go.RowKit
set_option linter.unusedVariables false
set_option linter.unusedSimpArgs false

set_option maxRecDepth 100000 in
set_option maxHeartbeats 8000000 in
theorem RatOrder_Ayes {w : World} {b0 b1 b2 : Bool} {A0 B0 A1 B1 A2 B2 : Option Addr} {n0 c0 m0 d0 n1 c1 m1 d1 n2 c2 m2 d2 : Nat} {x0 : Rat} (h0 : Rt w b0 A0 n0 c0 B0 m0 d0 x0) (s0 : Sz x0 3) {x1 : Rat} (h1 : Rt w b1 A1 n1 c1 B1 m1 d1 x1) (s1 : Sz x1 3) {x2 : Rat} (h2 : Rt w b2 A2 n2 c2 B2 m2 d2 x2) (s2 : Sz x2 3) (hA : ¬ cmpQ x0 x1 ≤ 0) (hn : 0 < n2) (hb2 : b2 = false) (hpos : 0 < x2) (G0 : ∀ W : World, Below w.heap.size w W → Calls Try.prog 21 #[.agg #[.bool b0, .slice A0 n0 c0, .slice B0 m0 d0], .int .i64 3] W (GotV W (.bool true))) (G1 : ∀ W : World, Below w.heap.size w W → Calls Try.prog 21 #[.agg #[.bool b1, .slice A1 n1 c1, .slice B1 m1 d1], .int .i64 3] W (GotV W (.bool true))) (G2 : ∀ W : World, Below w.heap.size w W → Calls Try.prog 21 #[.agg #[.bool b2, .slice A2 n2 c2, .slice B2 m2 d2], .int .i64 3] W (GotV W (.bool true))) :
    Calls Try.prog 7 #[.agg #[.bool b0, .slice A0 n0 c0, .slice B0 m0 d0], .agg #[.bool b1, .slice A1 n1 c1, .slice B1 m1 d1], .agg #[.bool b2, .slice A2 n2 c2, .slice B2 m2 d2]] w fun e w' => e = .returned (.bool true) ∧ Below w.heap.size w w' := by
  obtain ⟨r0, g0⟩ : ∃ r, ((0 : Int) : Rat) = r := ⟨_, rfl⟩
  have C0 : ∀ W : World, Calls Try.prog 19 #[.int .i64 0] W (GotRt W r0) := fun W => by rw [← g0]; exact qof_N W 0 (by unfold I64; omega)
  have z0 : Sz r0 1 := by rw [← g0]; exact sz_of (len_one (by decide))
  obtain ⟨cx, hcx⟩ : ∃ c, cmpQ x0 x1 = c := ⟨_, rfl⟩
  obtain ⟨c1_, hc1⟩ : ∃ c, cmpQ x1 x2 = c := ⟨_, rfl⟩
  obtain ⟨c2_, hc2⟩ : ∃ c, cmpQ x0 x2 = c := ⟨_, rfl⟩
  obtain ⟨r, hr⟩ : ∃ r : Bool, decide (x0 = x1) = r := ⟨_, rfl⟩
  have hbd := cmpQ_bd x0 x1
  rw [hcx] at hbd
  obtain ⟨d1_, d2_⟩ := hbd
  have t1 : decide (cx < -1) = false := decide_eq_false (by omega)
  have t2 : decide (1 < cx) = false := decide_eq_false (by omega)
  have HC0 := Lib.hid hcx
  have HC1 : Hid (cmpQ x1 x0 = -cx) := Lib.hid (by rw [cmpQ_swap, hcx])
  have HC2 : Hid (cmpQ (x0 + x2) (x1 + x2) = cx) := Lib.hid (by rw [cmpQ_plus, hcx])
  have HC3 : Hid (cmpQ (x0 - x1) r0 = cx) := Lib.hid (by rw [← g0, cmpQ_diff, hcx])
  have HR := Lib.hid hr
  have hq : (cx == 0) = r := by rw [← hcx, cmpQ_same, hr]
  have e0 : IntKind.i64.wrap (-cx) = -cx := IntWalk.i64_in _ (by omega)
  have H1 := Lib.hid hc1
  have H2 := Lib.hid hc2
  have t3 : decide (cx ≤ 0) = false := decide_eq_false (by rw [← hcx]; exact hA)
  have HC4 : Hid (cmpQ (x0 * x2) (x1 * x2) = cx) := Lib.hid (by rw [cmpQ_times _ _ _ hpos, hcx])
  have t6 : decide ((0 : Int) < (n2 : Int)) = true := decide_eq_true (by omega)
  subst hb2
  clear hcx hc1 hc2 hr g0 d1_ d2_
  have s02 := s0.add s2
  have s12 := s1.add s2
  have p02 := s0.mul s2
  have p12 := s1.mul s2
  have d01 := s0.sub s1
  have cc := Below.refl w.heap.size w
  go_enter Try.func7, Try.ntmps7
  go_wp2_with fail
  have bA : Below w.heap.size w (((w.alloc (.cells #[.bool b0, .slice A0 n0 c0, .slice B0 m0 d0] 27)).alloc (.cells #[.bool b1, .slice A1 n1 c1, .slice B1 m1 d1] 27)).alloc (.cells #[.bool false, .slice A2 n2 c2, .slice B2 m2 d2] 27)) := ((((Below.refl _ w).alloc (by simp) _).alloc (by simp) _).alloc (by simp <;> omega) _)
  replace h0 := h0.on bA
  replace h1 := h1.on bA
  replace h2 := h2.on bA
  replace cc := cc.trans (bA.mono cc.size)
  clear bA
  have p0 : (((w.alloc (.cells #[.bool b0, .slice A0 n0 c0, .slice B0 m0 d0] 27)).alloc (.cells #[.bool b1, .slice A1 n1 c1, .slice B1 m1 d1] 27)).alloc (.cells #[.bool false, .slice A2 n2 c2, .slice B2 m2 d2] 27)).cell? ⟨w.heap.size, 0, none⟩ = some (.bool b0) := by simp [go_sem]
  have p1 : (((w.alloc (.cells #[.bool b0, .slice A0 n0 c0, .slice B0 m0 d0] 27)).alloc (.cells #[.bool b1, .slice A1 n1 c1, .slice B1 m1 d1] 27)).alloc (.cells #[.bool false, .slice A2 n2 c2, .slice B2 m2 d2] 27)).cell? ⟨w.heap.size, 1, none⟩ = some (.slice A0 n0 c0) := by simp [go_sem]
  have p2 : (((w.alloc (.cells #[.bool b0, .slice A0 n0 c0, .slice B0 m0 d0] 27)).alloc (.cells #[.bool b1, .slice A1 n1 c1, .slice B1 m1 d1] 27)).alloc (.cells #[.bool false, .slice A2 n2 c2, .slice B2 m2 d2] 27)).cell? ⟨w.heap.size, 2, none⟩ = some (.slice B0 m0 d0) := by simp [go_sem]
  have pl : w.heap.size < (((w.alloc (.cells #[.bool b0, .slice A0 n0 c0, .slice B0 m0 d0] 27)).alloc (.cells #[.bool b1, .slice A1 n1 c1, .slice B1 m1 d1] 27)).alloc (.cells #[.bool false, .slice A2 n2 c2, .slice B2 m2 d2] 27)).heap.size := by simp <;> omega
  have q0 : (((w.alloc (.cells #[.bool b0, .slice A0 n0 c0, .slice B0 m0 d0] 27)).alloc (.cells #[.bool b1, .slice A1 n1 c1, .slice B1 m1 d1] 27)).alloc (.cells #[.bool false, .slice A2 n2 c2, .slice B2 m2 d2] 27)).cell? ⟨w.heap.size + 1, 0, none⟩ = some (.bool b1) := by simp [go_sem]
  have q1 : (((w.alloc (.cells #[.bool b0, .slice A0 n0 c0, .slice B0 m0 d0] 27)).alloc (.cells #[.bool b1, .slice A1 n1 c1, .slice B1 m1 d1] 27)).alloc (.cells #[.bool false, .slice A2 n2 c2, .slice B2 m2 d2] 27)).cell? ⟨w.heap.size + 1, 1, none⟩ = some (.slice A1 n1 c1) := by simp [go_sem]
  have q2 : (((w.alloc (.cells #[.bool b0, .slice A0 n0 c0, .slice B0 m0 d0] 27)).alloc (.cells #[.bool b1, .slice A1 n1 c1, .slice B1 m1 d1] 27)).alloc (.cells #[.bool false, .slice A2 n2 c2, .slice B2 m2 d2] 27)).cell? ⟨w.heap.size + 1, 2, none⟩ = some (.slice B1 m1 d1) := by simp [go_sem]
  have ql : w.heap.size + 1 < (((w.alloc (.cells #[.bool b0, .slice A0 n0 c0, .slice B0 m0 d0] 27)).alloc (.cells #[.bool b1, .slice A1 n1 c1, .slice B1 m1 d1] 27)).alloc (.cells #[.bool false, .slice A2 n2 c2, .slice B2 m2 d2] 27)).heap.size := by simp <;> omega
  have r0 : (((w.alloc (.cells #[.bool b0, .slice A0 n0 c0, .slice B0 m0 d0] 27)).alloc (.cells #[.bool b1, .slice A1 n1 c1, .slice B1 m1 d1] 27)).alloc (.cells #[.bool false, .slice A2 n2 c2, .slice B2 m2 d2] 27)).cell? ⟨w.heap.size + 1 + 1, 0, none⟩ = some (.bool false) := by simp [go_sem]
  have r1 : (((w.alloc (.cells #[.bool b0, .slice A0 n0 c0, .slice B0 m0 d0] 27)).alloc (.cells #[.bool b1, .slice A1 n1 c1, .slice B1 m1 d1] 27)).alloc (.cells #[.bool false, .slice A2 n2 c2, .slice B2 m2 d2] 27)).cell? ⟨w.heap.size + 1 + 1, 1, none⟩ = some (.slice A2 n2 c2) := by simp [go_sem]
  have r2 : (((w.alloc (.cells #[.bool b0, .slice A0 n0 c0, .slice B0 m0 d0] 27)).alloc (.cells #[.bool b1, .slice A1 n1 c1, .slice B1 m1 d1] 27)).alloc (.cells #[.bool false, .slice A2 n2 c2, .slice B2 m2 d2] 27)).cell? ⟨w.heap.size + 1 + 1, 2, none⟩ = some (.slice B2 m2 d2) := by simp [go_sem]
  have rl : w.heap.size + 1 + 1 < (((w.alloc (.cells #[.bool b0, .slice A0 n0 c0, .slice B0 m0 d0] 27)).alloc (.cells #[.bool b1, .slice A1 n1 c1, .slice B1 m1 d1] 27)).alloc (.cells #[.bool false, .slice A2 n2 c2, .slice B2 m2 d2] 27)).heap.size := by simp <;> omega
  generalize ((w.alloc (.cells #[.bool b0, .slice A0 n0 c0, .slice B0 m0 d0] 27)).alloc (.cells #[.bool b1, .slice A1 n1 c1, .slice B1 m1 d1] 27)).alloc (.cells #[.bool false, .slice A2 n2 c2, .slice B2 m2 d2] 27) = v1 at *
  refine (G0 _ cc).mono ?_
  rintro e w2 ⟨rfl, b⟩
  replace h0 := h0.on b
  replace h1 := h1.on b
  replace h2 := h2.on b
  replace p0 := (b.cell (p := ⟨w.heap.size, 0, none⟩) pl).trans p0
  replace p1 := (b.cell (p := ⟨w.heap.size, 1, none⟩) pl).trans p1
  replace p2 := (b.cell (p := ⟨w.heap.size, 2, none⟩) pl).trans p2
  replace pl := Nat.lt_of_lt_of_le pl b.size
  replace q0 := (b.cell (p := ⟨w.heap.size + 1, 0, none⟩) ql).trans q0
  replace q1 := (b.cell (p := ⟨w.heap.size + 1, 1, none⟩) ql).trans q1
  replace q2 := (b.cell (p := ⟨w.heap.size + 1, 2, none⟩) ql).trans q2
  replace ql := Nat.lt_of_lt_of_le ql b.size
  replace r0 := (b.cell (p := ⟨w.heap.size + 1 + 1, 0, none⟩) rl).trans r0
  replace r1 := (b.cell (p := ⟨w.heap.size + 1 + 1, 1, none⟩) rl).trans r1
  replace r2 := (b.cell (p := ⟨w.heap.size + 1 + 1, 2, none⟩) rl).trans r2
  replace rl := Nat.lt_of_lt_of_le rl b.size
  replace cc := cc.trans (b.mono cc.size)
  clear b
  go_wp2_with fail
  refine (G1 _ cc).mono ?_
  rintro e w3 ⟨rfl, b⟩
  replace h0 := h0.on b
  replace h1 := h1.on b
  replace h2 := h2.on b
  replace p0 := (b.cell (p := ⟨w.heap.size, 0, none⟩) pl).trans p0
  replace p1 := (b.cell (p := ⟨w.heap.size, 1, none⟩) pl).trans p1
  replace p2 := (b.cell (p := ⟨w.heap.size, 2, none⟩) pl).trans p2
  replace pl := Nat.lt_of_lt_of_le pl b.size
  replace q0 := (b.cell (p := ⟨w.heap.size + 1, 0, none⟩) ql).trans q0
  replace q1 := (b.cell (p := ⟨w.heap.size + 1, 1, none⟩) ql).trans q1
  replace q2 := (b.cell (p := ⟨w.heap.size + 1, 2, none⟩) ql).trans q2
  replace ql := Nat.lt_of_lt_of_le ql b.size
  replace r0 := (b.cell (p := ⟨w.heap.size + 1 + 1, 0, none⟩) rl).trans r0
  replace r1 := (b.cell (p := ⟨w.heap.size + 1 + 1, 1, none⟩) rl).trans r1
  replace r2 := (b.cell (p := ⟨w.heap.size + 1 + 1, 2, none⟩) rl).trans r2
  replace rl := Nat.lt_of_lt_of_le rl b.size
  replace cc := cc.trans (b.mono cc.size)
  clear b
  go_wp2_with fail
  refine (G2 _ cc).mono ?_
  rintro e w4 ⟨rfl, b⟩
  replace h0 := h0.on b
  replace h1 := h1.on b
  replace h2 := h2.on b
  replace p0 := (b.cell (p := ⟨w.heap.size, 0, none⟩) pl).trans p0
  replace p1 := (b.cell (p := ⟨w.heap.size, 1, none⟩) pl).trans p1
  replace p2 := (b.cell (p := ⟨w.heap.size, 2, none⟩) pl).trans p2
  replace pl := Nat.lt_of_lt_of_le pl b.size
  replace q0 := (b.cell (p := ⟨w.heap.size + 1, 0, none⟩) ql).trans q0
  replace q1 := (b.cell (p := ⟨w.heap.size + 1, 1, none⟩) ql).trans q1
  replace q2 := (b.cell (p := ⟨w.heap.size + 1, 2, none⟩) ql).trans q2
  replace ql := Nat.lt_of_lt_of_le ql b.size
  replace r0 := (b.cell (p := ⟨w.heap.size + 1 + 1, 0, none⟩) rl).trans r0
  replace r1 := (b.cell (p := ⟨w.heap.size + 1 + 1, 1, none⟩) rl).trans r1
  replace r2 := (b.cell (p := ⟨w.heap.size + 1 + 1, 2, none⟩) rl).trans r2
  replace rl := Nat.lt_of_lt_of_le rl b.size
  replace cc := cc.trans (b.mono cc.size)
  clear b
  go_wp2_with fail
  refine (qcmp_v cx h0 (s0.le (by omega)) h1 (s1.le (by omega)) HC0.out).mono ?_
  rintro e w5 ⟨rfl, b⟩
  replace h0 := h0.on b
  replace h1 := h1.on b
  replace h2 := h2.on b
  replace p0 := (b.cell (p := ⟨w.heap.size, 0, none⟩) pl).trans p0
  replace p1 := (b.cell (p := ⟨w.heap.size, 1, none⟩) pl).trans p1
  replace p2 := (b.cell (p := ⟨w.heap.size, 2, none⟩) pl).trans p2
  replace pl := Nat.lt_of_lt_of_le pl b.size
  replace q0 := (b.cell (p := ⟨w.heap.size + 1, 0, none⟩) ql).trans q0
  replace q1 := (b.cell (p := ⟨w.heap.size + 1, 1, none⟩) ql).trans q1
  replace q2 := (b.cell (p := ⟨w.heap.size + 1, 2, none⟩) ql).trans q2
  replace ql := Nat.lt_of_lt_of_le ql b.size
  replace r0 := (b.cell (p := ⟨w.heap.size + 1 + 1, 0, none⟩) rl).trans r0
  replace r1 := (b.cell (p := ⟨w.heap.size + 1 + 1, 1, none⟩) rl).trans r1
  replace r2 := (b.cell (p := ⟨w.heap.size + 1 + 1, 2, none⟩) rl).trans r2
  replace rl := Nat.lt_of_lt_of_le rl b.size
  replace cc := cc.trans (b.mono cc.size)
  clear b
  go_wp2_with fail
  refine (qcmp_v (-cx) h1 (s1.le (by omega)) h0 (s0.le (by omega)) HC1.out).mono ?_
  rintro e w6 ⟨rfl, b⟩
  replace h0 := h0.on b
  replace h1 := h1.on b
  replace h2 := h2.on b
  replace p0 := (b.cell (p := ⟨w.heap.size, 0, none⟩) pl).trans p0
  replace p1 := (b.cell (p := ⟨w.heap.size, 1, none⟩) pl).trans p1
  replace p2 := (b.cell (p := ⟨w.heap.size, 2, none⟩) pl).trans p2
  replace pl := Nat.lt_of_lt_of_le pl b.size
  replace q0 := (b.cell (p := ⟨w.heap.size + 1, 0, none⟩) ql).trans q0
  replace q1 := (b.cell (p := ⟨w.heap.size + 1, 1, none⟩) ql).trans q1
  replace q2 := (b.cell (p := ⟨w.heap.size + 1, 2, none⟩) ql).trans q2
  replace ql := Nat.lt_of_lt_of_le ql b.size
  replace r0 := (b.cell (p := ⟨w.heap.size + 1 + 1, 0, none⟩) rl).trans r0
  replace r1 := (b.cell (p := ⟨w.heap.size + 1 + 1, 1, none⟩) rl).trans r1
  replace r2 := (b.cell (p := ⟨w.heap.size + 1 + 1, 2, none⟩) rl).trans r2
  replace rl := Nat.lt_of_lt_of_le rl b.size
  replace cc := cc.trans (b.mono cc.size)
  clear b
  go_wp2_with fail
  refine (rtsame_N h0 (s0.le (by omega)) h1 (s1.le (by omega)) r HR.out).mono ?_
  rintro e w7 ⟨rfl, b⟩
  replace h0 := h0.on b
  replace h1 := h1.on b
  replace h2 := h2.on b
  replace p0 := (b.cell (p := ⟨w.heap.size, 0, none⟩) pl).trans p0
  replace p1 := (b.cell (p := ⟨w.heap.size, 1, none⟩) pl).trans p1
  replace p2 := (b.cell (p := ⟨w.heap.size, 2, none⟩) pl).trans p2
  replace pl := Nat.lt_of_lt_of_le pl b.size
  replace q0 := (b.cell (p := ⟨w.heap.size + 1, 0, none⟩) ql).trans q0
  replace q1 := (b.cell (p := ⟨w.heap.size + 1, 1, none⟩) ql).trans q1
  replace q2 := (b.cell (p := ⟨w.heap.size + 1, 2, none⟩) ql).trans q2
  replace ql := Nat.lt_of_lt_of_le ql b.size
  replace r0 := (b.cell (p := ⟨w.heap.size + 1 + 1, 0, none⟩) rl).trans r0
  replace r1 := (b.cell (p := ⟨w.heap.size + 1 + 1, 1, none⟩) rl).trans r1
  replace r2 := (b.cell (p := ⟨w.heap.size + 1 + 1, 2, none⟩) rl).trans r2
  replace rl := Nat.lt_of_lt_of_le rl b.size
  replace cc := cc.trans (b.mono cc.size)
  clear b
  go_wp2_with fail
  have bD : Below w7.heap.size w7 w7.drew := below_drewN (Below.refl _ w7) 1
  replace h0 := h0.on bD
  replace h1 := h1.on bD
  replace h2 := h2.on bD
  replace p0 := (bD.cell (p := ⟨w.heap.size, 0, none⟩) pl).trans p0
  replace p1 := (bD.cell (p := ⟨w.heap.size, 1, none⟩) pl).trans p1
  replace p2 := (bD.cell (p := ⟨w.heap.size, 2, none⟩) pl).trans p2
  replace pl := Nat.lt_of_lt_of_le pl bD.size
  replace q0 := (bD.cell (p := ⟨w.heap.size + 1, 0, none⟩) ql).trans q0
  replace q1 := (bD.cell (p := ⟨w.heap.size + 1, 1, none⟩) ql).trans q1
  replace q2 := (bD.cell (p := ⟨w.heap.size + 1, 2, none⟩) ql).trans q2
  replace ql := Nat.lt_of_lt_of_le ql bD.size
  replace r0 := (bD.cell (p := ⟨w.heap.size + 1 + 1, 0, none⟩) rl).trans r0
  replace r1 := (bD.cell (p := ⟨w.heap.size + 1 + 1, 1, none⟩) rl).trans r1
  replace r2 := (bD.cell (p := ⟨w.heap.size + 1 + 1, 2, none⟩) rl).trans r2
  replace rl := Nat.lt_of_lt_of_le rl bD.size
  replace cc := cc.trans (bD.mono cc.size)
  clear bD
  refine wp_region_held_drew (S := fun w' => w'.cell? ⟨w.heap.size, 0, none⟩ = some (.bool b0) ∧ w'.cell? ⟨w.heap.size, 1, none⟩ = some (.slice A0 n0 c0) ∧ w'.cell? ⟨w.heap.size, 2, none⟩ = some (.slice B0 m0 d0) ∧ w'.cell? ⟨w.heap.size + 1, 0, none⟩ = some (.bool b1) ∧ w'.cell? ⟨w.heap.size + 1, 1, none⟩ = some (.slice A1 n1 c1) ∧ w'.cell? ⟨w.heap.size + 1, 2, none⟩ = some (.slice B1 m1 d1) ∧ w'.cell? ⟨w.heap.size + 1 + 1, 0, none⟩ = some (.bool false) ∧ w'.cell? ⟨w.heap.size + 1 + 1, 1, none⟩ = some (.slice A2 n2 c2) ∧ w'.cell? ⟨w.heap.size + 1 + 1, 2, none⟩ = some (.slice B2 m2 d2)) (by kernel_rfl) ?_ (fun hHeld => ?_)
  · exact ⟨p0, p1, p2, q0, q1, q2, r0, r1, r2⟩
  refine wpAnyH_ready (rs := [0]) (by kernel_rfl) (by simp) ?_
  refine AllReadyH.cons rfl (fun K hK => ?_) AllReadyH.nil
  (try simp only [List.getElem_toArray, List.getElem_cons_zero, List.getElem_cons_succ])
  rw [if_pos (by rfl)]
  go_simp
  go_at_call 12
  refine (alive5_any _).mono ?_
  rintro e w8 ⟨rfl, b⟩
  replace h0 := h0.on b
  replace h1 := h1.on b
  replace h2 := h2.on b
  replace p0 := (b.cell (p := ⟨w.heap.size, 0, none⟩) pl).trans p0
  replace p1 := (b.cell (p := ⟨w.heap.size, 1, none⟩) pl).trans p1
  replace p2 := (b.cell (p := ⟨w.heap.size, 2, none⟩) pl).trans p2
  replace pl := Nat.lt_of_lt_of_le pl b.size
  replace q0 := (b.cell (p := ⟨w.heap.size + 1, 0, none⟩) ql).trans q0
  replace q1 := (b.cell (p := ⟨w.heap.size + 1, 1, none⟩) ql).trans q1
  replace q2 := (b.cell (p := ⟨w.heap.size + 1, 2, none⟩) ql).trans q2
  replace ql := Nat.lt_of_lt_of_le ql b.size
  replace r0 := (b.cell (p := ⟨w.heap.size + 1 + 1, 0, none⟩) rl).trans r0
  replace r1 := (b.cell (p := ⟨w.heap.size + 1 + 1, 1, none⟩) rl).trans r1
  replace r2 := (b.cell (p := ⟨w.heap.size + 1 + 1, 2, none⟩) rl).trans r2
  replace rl := Nat.lt_of_lt_of_le rl b.size
  replace cc := cc.trans (b.mono cc.size)
  clear b
  refine hK.out _ _ ?_ (fun hHeld => ?_)
  · exact ⟨p0, p1, p2, q0, q1, q2, r0, r1, r2⟩
  clear hK K
  try simp only [Act.put, List.getElem_toArray, List.getElem_cons_zero, List.getElem_cons_succ, List.setIfInBounds_toArray, List.set_cons_zero, List.set_cons_succ]
  refine wpAnyH_take (i := 1) (v := ?_) rfl (by kernel_rfl) (by kernel_rfl) (by kernel_rfl) (fun _ _ _ h => h) (Or.inl ⟨by rfl, ?_⟩) hHeld ?_
  rotate_left
  · (intro w hSw; (try dsimp only at hSw); go_simp; (try with_reducible rfl))
  try simp only [Act.put, List.getElem_toArray, List.getElem_cons_zero, List.getElem_cons_succ, List.setIfInBounds_toArray, List.set_cons_zero, List.set_cons_succ]
  refine wpAnyH_take (i := 2) (v := ?_) rfl (by kernel_rfl) (by kernel_rfl) (by kernel_rfl) (fun _ _ _ h => h) (Or.inl ⟨by rfl, ?_⟩) hHeld ?_
  rotate_left
  · (intro w hSw; (try dsimp only at hSw); go_simp; (try with_reducible rfl))
  try simp only [Act.put, List.getElem_toArray, List.getElem_cons_zero, List.getElem_cons_succ, List.setIfInBounds_toArray, List.set_cons_zero, List.set_cons_succ]
  refine wpAnyH_take (i := 3) (v := ?_) rfl (by kernel_rfl) (by kernel_rfl) (by kernel_rfl) (fun _ _ _ h => h) (Or.inl ⟨by rfl, ?_⟩) hHeld ?_
  rotate_left
  · (intro w hSw; (try dsimp only at hSw); go_simp; (try with_reducible rfl))
  try simp only [Act.put, List.getElem_toArray, List.getElem_cons_zero, List.getElem_cons_succ, List.setIfInBounds_toArray, List.set_cons_zero, List.set_cons_succ]
  refine wpAnyH_take (i := 5) (v := ?_) rfl (by kernel_rfl) (by kernel_rfl) (by kernel_rfl) (fun _ _ _ h => h) (Or.inl ⟨by rfl, ?_⟩) hHeld ?_
  rotate_left
  · (intro w hSw; (try dsimp only at hSw); go_simp; (try with_reducible rfl))
  try simp only [Act.put, List.getElem_toArray, List.getElem_cons_zero, List.getElem_cons_succ, List.setIfInBounds_toArray, List.set_cons_zero, List.set_cons_succ]
  refine wpAnyH_take (i := 6) (v := ?_) rfl (by kernel_rfl) (by kernel_rfl) (by kernel_rfl) (fun _ _ _ h => h) (Or.inl ⟨by rfl, ?_⟩) hHeld ?_
  rotate_left
  · (intro w hSw; (try dsimp only at hSw); go_simp; (try with_reducible rfl))
  try simp only [Act.put, List.getElem_toArray, List.getElem_cons_zero, List.getElem_cons_succ, List.setIfInBounds_toArray, List.set_cons_zero, List.set_cons_succ]
  refine wpAnyH_take (i := 9) (v := ?_) rfl (by kernel_rfl) (by kernel_rfl) (by kernel_rfl) (fun _ _ _ h => h) (Or.inl ⟨by rfl, ?_⟩) hHeld ?_
  rotate_left
  · (intro w hSw; (try dsimp only at hSw); go_simp; (try with_reducible rfl))
  try simp only [Act.put, List.getElem_toArray, List.getElem_cons_zero, List.getElem_cons_succ, List.setIfInBounds_toArray, List.set_cons_zero, List.set_cons_succ]
  refine wpAnyH_ready (rs := [4]) (by kernel_rfl) (by simp) ?_
  refine AllReadyH.cons rfl (fun K hK => ?_) AllReadyH.nil
  (try simp only [List.getElem_toArray, List.getElem_cons_zero, List.getElem_cons_succ])
  rw [if_pos (by rfl)]
  go_simp
  go_at_call 24
  refine (qadd_N h0 (s0.le (by omega)) h2 (s2.le (by omega))).mono ?_
  rintro e w9 ⟨bfa, Afa, nfa, cfa, Bfa, mfa, dfa, rfl, fa, b⟩
  replace h0 := h0.on b
  replace h1 := h1.on b
  replace h2 := h2.on b
  replace p0 := (b.cell (p := ⟨w.heap.size, 0, none⟩) pl).trans p0
  replace p1 := (b.cell (p := ⟨w.heap.size, 1, none⟩) pl).trans p1
  replace p2 := (b.cell (p := ⟨w.heap.size, 2, none⟩) pl).trans p2
  replace pl := Nat.lt_of_lt_of_le pl b.size
  replace q0 := (b.cell (p := ⟨w.heap.size + 1, 0, none⟩) ql).trans q0
  replace q1 := (b.cell (p := ⟨w.heap.size + 1, 1, none⟩) ql).trans q1
  replace q2 := (b.cell (p := ⟨w.heap.size + 1, 2, none⟩) ql).trans q2
  replace ql := Nat.lt_of_lt_of_le ql b.size
  replace r0 := (b.cell (p := ⟨w.heap.size + 1 + 1, 0, none⟩) rl).trans r0
  replace r1 := (b.cell (p := ⟨w.heap.size + 1 + 1, 1, none⟩) rl).trans r1
  replace r2 := (b.cell (p := ⟨w.heap.size + 1 + 1, 2, none⟩) rl).trans r2
  replace rl := Nat.lt_of_lt_of_le rl b.size
  replace cc := cc.trans (b.mono cc.size)
  clear b
  refine hK.out _ _ ?_ (fun hHeld => ?_)
  · exact ⟨p0, p1, p2, q0, q1, q2, r0, r1, r2⟩
  clear hK K
  try simp only [Act.put, List.getElem_toArray, List.getElem_cons_zero, List.getElem_cons_succ, List.setIfInBounds_toArray, List.set_cons_zero, List.set_cons_succ]
  refine wpAnyH_ready (rs := [7]) (by kernel_rfl) (by simp) ?_
  refine AllReadyH.cons rfl (fun K hK => ?_) AllReadyH.nil
  (try simp only [List.getElem_toArray, List.getElem_cons_zero, List.getElem_cons_succ])
  rw [if_pos (by rfl)]
  go_simp
  go_at_call 24
  refine (qadd_N h1 (s1.le (by omega)) h2 (s2.le (by omega))).mono ?_
  rintro e w10 ⟨bfb, Afb, nfb, cfb, Bfb, mfb, dfb, rfl, fb, b⟩
  replace h0 := h0.on b
  replace h1 := h1.on b
  replace h2 := h2.on b
  replace fa := fa.on b
  replace p0 := (b.cell (p := ⟨w.heap.size, 0, none⟩) pl).trans p0
  replace p1 := (b.cell (p := ⟨w.heap.size, 1, none⟩) pl).trans p1
  replace p2 := (b.cell (p := ⟨w.heap.size, 2, none⟩) pl).trans p2
  replace pl := Nat.lt_of_lt_of_le pl b.size
  replace q0 := (b.cell (p := ⟨w.heap.size + 1, 0, none⟩) ql).trans q0
  replace q1 := (b.cell (p := ⟨w.heap.size + 1, 1, none⟩) ql).trans q1
  replace q2 := (b.cell (p := ⟨w.heap.size + 1, 2, none⟩) ql).trans q2
  replace ql := Nat.lt_of_lt_of_le ql b.size
  replace r0 := (b.cell (p := ⟨w.heap.size + 1 + 1, 0, none⟩) rl).trans r0
  replace r1 := (b.cell (p := ⟨w.heap.size + 1 + 1, 1, none⟩) rl).trans r1
  replace r2 := (b.cell (p := ⟨w.heap.size + 1 + 1, 2, none⟩) rl).trans r2
  replace rl := Nat.lt_of_lt_of_le rl b.size
  replace cc := cc.trans (b.mono cc.size)
  clear b
  refine hK.out _ _ ?_ (fun hHeld => ?_)
  · exact ⟨p0, p1, p2, q0, q1, q2, r0, r1, r2⟩
  clear hK K
  try simp only [Act.put, List.getElem_toArray, List.getElem_cons_zero, List.getElem_cons_succ, List.setIfInBounds_toArray, List.set_cons_zero, List.set_cons_succ]
  refine wpAnyH_ready (rs := [8]) (by kernel_rfl) (by simp) ?_
  refine AllReadyH.cons rfl (fun K hK => ?_) AllReadyH.nil
  (try simp only [List.getElem_toArray, List.getElem_cons_zero, List.getElem_cons_succ])
  rw [if_pos (by rfl)]
  go_simp
  go_at_call 30
  refine (qcmp_v cx fa (s02.le (by omega)) fb (s12.le (by omega)) HC2.out).mono ?_
  rintro e w11 ⟨rfl, b⟩
  replace h0 := h0.on b
  replace h1 := h1.on b
  replace h2 := h2.on b
  replace fa := fa.on b
  replace fb := fb.on b
  replace p0 := (b.cell (p := ⟨w.heap.size, 0, none⟩) pl).trans p0
  replace p1 := (b.cell (p := ⟨w.heap.size, 1, none⟩) pl).trans p1
  replace p2 := (b.cell (p := ⟨w.heap.size, 2, none⟩) pl).trans p2
  replace pl := Nat.lt_of_lt_of_le pl b.size
  replace q0 := (b.cell (p := ⟨w.heap.size + 1, 0, none⟩) ql).trans q0
  replace q1 := (b.cell (p := ⟨w.heap.size + 1, 1, none⟩) ql).trans q1
  replace q2 := (b.cell (p := ⟨w.heap.size + 1, 2, none⟩) ql).trans q2
  replace ql := Nat.lt_of_lt_of_le ql b.size
  replace r0 := (b.cell (p := ⟨w.heap.size + 1 + 1, 0, none⟩) rl).trans r0
  replace r1 := (b.cell (p := ⟨w.heap.size + 1 + 1, 1, none⟩) rl).trans r1
  replace r2 := (b.cell (p := ⟨w.heap.size + 1 + 1, 2, none⟩) rl).trans r2
  replace rl := Nat.lt_of_lt_of_le rl b.size
  replace cc := cc.trans (b.mono cc.size)
  clear b
  refine hK.out _ _ ?_ (fun hHeld => ?_)
  · exact ⟨p0, p1, p2, q0, q1, q2, r0, r1, r2⟩
  clear hK K
  try simp only [Act.put, List.getElem_toArray, List.getElem_cons_zero, List.getElem_cons_succ, List.setIfInBounds_toArray, List.set_cons_zero, List.set_cons_succ]
  refine wpAnyH_take (i := 10) (v := ?_) rfl (by kernel_rfl) (by kernel_rfl) (by kernel_rfl) (fun _ _ _ h => h) (Or.inl ⟨by rfl, ?_⟩) hHeld ?_
  rotate_left
  · (intro w hSw; (try dsimp only at hSw); go_simp; (try with_reducible rfl))
  try simp only [Act.put, List.getElem_toArray, List.getElem_cons_zero, List.getElem_cons_succ, List.setIfInBounds_toArray, List.set_cons_zero, List.set_cons_succ]
  refine wpAnyH_take (i := 11) (v := ?_) rfl (by kernel_rfl) (by kernel_rfl) (by kernel_rfl) (fun _ _ _ h => h) (Or.inl ⟨by rfl, ?_⟩) hHeld ?_
  rotate_left
  · (intro w hSw; (try dsimp only at hSw); go_simp; (try with_reducible rfl))
  try simp only [Act.put, List.getElem_toArray, List.getElem_cons_zero, List.getElem_cons_succ, List.setIfInBounds_toArray, List.set_cons_zero, List.set_cons_succ]
  refine wpAnyH_take (i := 12) (v := ?_) rfl (by kernel_rfl) (by kernel_rfl) (by kernel_rfl) (fun _ _ _ h => h) (Or.inl ⟨by rfl, ?_⟩) hHeld ?_
  rotate_left
  · (intro w hSw; (try dsimp only at hSw); go_simp; (try with_reducible rfl))
  try simp only [Act.put, List.getElem_toArray, List.getElem_cons_zero, List.getElem_cons_succ, List.setIfInBounds_toArray, List.set_cons_zero, List.set_cons_succ]
  refine wpAnyH_take (i := 13) (v := ?_) rfl (by kernel_rfl) (by kernel_rfl) (by kernel_rfl) (fun _ _ _ h => h) (Or.inl ⟨by rfl, ?_⟩) hHeld ?_
  rotate_left
  · (intro w hSw; (try dsimp only at hSw); go_simp; (try with_reducible rfl))
  try simp only [Act.put, List.getElem_toArray, List.getElem_cons_zero, List.getElem_cons_succ, List.setIfInBounds_toArray, List.set_cons_zero, List.set_cons_succ]
  refine wpAnyH_take (i := 14) (v := ?_) rfl (by kernel_rfl) (by kernel_rfl) (by kernel_rfl) (fun _ _ _ h => h) (Or.inl ⟨by rfl, ?_⟩) hHeld ?_
  rotate_left
  · (intro w hSw; (try dsimp only at hSw); go_simp; (try with_reducible rfl))
  try simp only [Act.put, List.getElem_toArray, List.getElem_cons_zero, List.getElem_cons_succ, List.setIfInBounds_toArray, List.set_cons_zero, List.set_cons_succ]
  refine wpAnyH_take (i := 18) (v := ?_) rfl (by kernel_rfl) (by kernel_rfl) (by kernel_rfl) (fun _ _ _ h => h) (Or.inl ⟨by rfl, ?_⟩) hHeld ?_
  rotate_left
  · (intro w hSw; (try dsimp only at hSw); go_simp; (try with_reducible rfl))
  try simp only [Act.put, List.getElem_toArray, List.getElem_cons_zero, List.getElem_cons_succ, List.setIfInBounds_toArray, List.set_cons_zero, List.set_cons_succ]
  refine wpAnyH_ready (rs := [15]) (by kernel_rfl) (by simp) ?_
  refine AllReadyH.cons rfl (fun K hK => ?_) AllReadyH.nil
  (try simp only [List.getElem_toArray, List.getElem_cons_zero, List.getElem_cons_succ])
  rw [if_pos (by rfl)]
  go_simp
  go_at_call 26
  refine (qsub_N h0 (s0.le (by omega)) h1 (s1.le (by omega))).mono ?_
  rintro e w12 ⟨bfc, Afc, nfc, cfc, Bfc, mfc, dfc, rfl, fc, b⟩
  replace h0 := h0.on b
  replace h1 := h1.on b
  replace h2 := h2.on b
  replace fa := fa.on b
  replace fb := fb.on b
  replace p0 := (b.cell (p := ⟨w.heap.size, 0, none⟩) pl).trans p0
  replace p1 := (b.cell (p := ⟨w.heap.size, 1, none⟩) pl).trans p1
  replace p2 := (b.cell (p := ⟨w.heap.size, 2, none⟩) pl).trans p2
  replace pl := Nat.lt_of_lt_of_le pl b.size
  replace q0 := (b.cell (p := ⟨w.heap.size + 1, 0, none⟩) ql).trans q0
  replace q1 := (b.cell (p := ⟨w.heap.size + 1, 1, none⟩) ql).trans q1
  replace q2 := (b.cell (p := ⟨w.heap.size + 1, 2, none⟩) ql).trans q2
  replace ql := Nat.lt_of_lt_of_le ql b.size
  replace r0 := (b.cell (p := ⟨w.heap.size + 1 + 1, 0, none⟩) rl).trans r0
  replace r1 := (b.cell (p := ⟨w.heap.size + 1 + 1, 1, none⟩) rl).trans r1
  replace r2 := (b.cell (p := ⟨w.heap.size + 1 + 1, 2, none⟩) rl).trans r2
  replace rl := Nat.lt_of_lt_of_le rl b.size
  replace cc := cc.trans (b.mono cc.size)
  clear b
  refine hK.out _ _ ?_ (fun hHeld => ?_)
  · exact ⟨p0, p1, p2, q0, q1, q2, r0, r1, r2⟩
  clear hK K
  try simp only [Act.put, List.getElem_toArray, List.getElem_cons_zero, List.getElem_cons_succ, List.setIfInBounds_toArray, List.set_cons_zero, List.set_cons_succ]
  refine wpAnyH_ready (rs := [16]) (by kernel_rfl) (by simp) ?_
  refine AllReadyH.cons rfl (fun K hK => ?_) AllReadyH.nil
  (try simp only [List.getElem_toArray, List.getElem_cons_zero, List.getElem_cons_succ])
  rw [if_pos (by rfl)]
  go_simp
  go_at_call 19
  refine (C0 _).mono ?_
  rintro e w13 ⟨bfd, Afd, nfd, cfd, Bfd, mfd, dfd, rfl, fd, b⟩
  replace h0 := h0.on b
  replace h1 := h1.on b
  replace h2 := h2.on b
  replace fa := fa.on b
  replace fb := fb.on b
  replace fc := fc.on b
  replace p0 := (b.cell (p := ⟨w.heap.size, 0, none⟩) pl).trans p0
  replace p1 := (b.cell (p := ⟨w.heap.size, 1, none⟩) pl).trans p1
  replace p2 := (b.cell (p := ⟨w.heap.size, 2, none⟩) pl).trans p2
  replace pl := Nat.lt_of_lt_of_le pl b.size
  replace q0 := (b.cell (p := ⟨w.heap.size + 1, 0, none⟩) ql).trans q0
  replace q1 := (b.cell (p := ⟨w.heap.size + 1, 1, none⟩) ql).trans q1
  replace q2 := (b.cell (p := ⟨w.heap.size + 1, 2, none⟩) ql).trans q2
  replace ql := Nat.lt_of_lt_of_le ql b.size
  replace r0 := (b.cell (p := ⟨w.heap.size + 1 + 1, 0, none⟩) rl).trans r0
  replace r1 := (b.cell (p := ⟨w.heap.size + 1 + 1, 1, none⟩) rl).trans r1
  replace r2 := (b.cell (p := ⟨w.heap.size + 1 + 1, 2, none⟩) rl).trans r2
  replace rl := Nat.lt_of_lt_of_le rl b.size
  replace cc := cc.trans (b.mono cc.size)
  clear b
  refine hK.out _ _ ?_ (fun hHeld => ?_)
  · exact ⟨p0, p1, p2, q0, q1, q2, r0, r1, r2⟩
  clear hK K
  try simp only [Act.put, List.getElem_toArray, List.getElem_cons_zero, List.getElem_cons_succ, List.setIfInBounds_toArray, List.set_cons_zero, List.set_cons_succ]
  refine wpAnyH_ready (rs := [17]) (by kernel_rfl) (by simp) ?_
  refine AllReadyH.cons rfl (fun K hK => ?_) AllReadyH.nil
  (try simp only [List.getElem_toArray, List.getElem_cons_zero, List.getElem_cons_succ])
  rw [if_pos (by rfl)]
  go_simp
  go_at_call 30
  refine (qcmp_v cx fc (d01.le (by omega)) fd (z0.le (by omega)) HC3.out).mono ?_
  rintro e w14 ⟨rfl, b⟩
  replace h0 := h0.on b
  replace h1 := h1.on b
  replace h2 := h2.on b
  replace fa := fa.on b
  replace fb := fb.on b
  replace fc := fc.on b
  replace fd := fd.on b
  replace p0 := (b.cell (p := ⟨w.heap.size, 0, none⟩) pl).trans p0
  replace p1 := (b.cell (p := ⟨w.heap.size, 1, none⟩) pl).trans p1
  replace p2 := (b.cell (p := ⟨w.heap.size, 2, none⟩) pl).trans p2
  replace pl := Nat.lt_of_lt_of_le pl b.size
  replace q0 := (b.cell (p := ⟨w.heap.size + 1, 0, none⟩) ql).trans q0
  replace q1 := (b.cell (p := ⟨w.heap.size + 1, 1, none⟩) ql).trans q1
  replace q2 := (b.cell (p := ⟨w.heap.size + 1, 2, none⟩) ql).trans q2
  replace ql := Nat.lt_of_lt_of_le ql b.size
  replace r0 := (b.cell (p := ⟨w.heap.size + 1 + 1, 0, none⟩) rl).trans r0
  replace r1 := (b.cell (p := ⟨w.heap.size + 1 + 1, 1, none⟩) rl).trans r1
  replace r2 := (b.cell (p := ⟨w.heap.size + 1 + 1, 2, none⟩) rl).trans r2
  replace rl := Nat.lt_of_lt_of_le rl b.size
  replace cc := cc.trans (b.mono cc.size)
  clear b
  refine hK.out _ _ ?_ (fun hHeld => ?_)
  · exact ⟨p0, p1, p2, q0, q1, q2, r0, r1, r2⟩
  clear hK K
  try simp only [Act.put, List.getElem_toArray, List.getElem_cons_zero, List.getElem_cons_succ, List.setIfInBounds_toArray, List.set_cons_zero, List.set_cons_succ]
  refine wpAnyH_take (i := 19) (v := ?_) rfl (by kernel_rfl) (by kernel_rfl) (by kernel_rfl) (fun _ _ _ h => h) (Or.inl ⟨by rfl, ?_⟩) hHeld ?_
  rotate_left
  · (intro w hSw; (try dsimp only at hSw); go_simp; (try with_reducible rfl))
  try simp only [Act.put, List.getElem_toArray, List.getElem_cons_zero, List.getElem_cons_succ, List.setIfInBounds_toArray, List.set_cons_zero, List.set_cons_succ]
  refine wpAnyH_take (i := 20) (v := ?_) rfl (by kernel_rfl) (by kernel_rfl) (by kernel_rfl) (fun _ _ _ h => h) (Or.inl ⟨by rfl, ?_⟩) hHeld ?_
  rotate_left
  · (intro w hSw; (try dsimp only at hSw); go_simp; (try with_reducible rfl))
  try simp only [Act.put, List.getElem_toArray, List.getElem_cons_zero, List.getElem_cons_succ, List.setIfInBounds_toArray, List.set_cons_zero, List.set_cons_succ]
  refine wpAnyH_take (i := 21) (v := ?_) rfl (by kernel_rfl) (by kernel_rfl) (by kernel_rfl) (fun _ _ _ h => h) (Or.inl ⟨by rfl, ?_⟩) hHeld ?_
  rotate_left
  · (intro w hSw; (try dsimp only at hSw); go_simp; (try with_reducible rfl))
  try simp only [Act.put, List.getElem_toArray, List.getElem_cons_zero, List.getElem_cons_succ, List.setIfInBounds_toArray, List.set_cons_zero, List.set_cons_succ]
  refine wpAnyH_take (i := 22) (v := ?_) rfl (by kernel_rfl) (by kernel_rfl) (by kernel_rfl) (fun _ _ _ h => h) (Or.inl ⟨by rfl, ?_⟩) hHeld ?_
  rotate_left
  · (intro w hSw; (try dsimp only at hSw); go_simp; (try with_reducible rfl))
  try simp only [Act.put, List.getElem_toArray, List.getElem_cons_zero, List.getElem_cons_succ, List.setIfInBounds_toArray, List.set_cons_zero, List.set_cons_succ]
  refine wpAnyH_take (i := 23) (v := ?_) rfl (by kernel_rfl) (by kernel_rfl) (by kernel_rfl) (fun _ _ _ h => h) (Or.inl ⟨by rfl, ?_⟩) hHeld ?_
  rotate_left
  · (intro w hSw; (try dsimp only at hSw); go_simp; (try with_reducible rfl))
  try simp only [Act.put, List.getElem_toArray, List.getElem_cons_zero, List.getElem_cons_succ, List.setIfInBounds_toArray, List.set_cons_zero, List.set_cons_succ]
  refine wpAnyH_take (i := 24) (v := ?_) rfl (by kernel_rfl) (by kernel_rfl) (by kernel_rfl) (fun _ _ _ h => h) (Or.inl ⟨by rfl, ?_⟩) hHeld ?_
  rotate_left
  · (intro w hSw; (try dsimp only at hSw); go_simp; (try with_reducible rfl))
  try simp only [Act.put, List.getElem_toArray, List.getElem_cons_zero, List.getElem_cons_succ, List.setIfInBounds_toArray, List.set_cons_zero, List.set_cons_succ]
  refine wpAnyH_take (i := 25) (v := ?_) rfl (by kernel_rfl) (by kernel_rfl) (by kernel_rfl) (fun _ _ _ h => h) (Or.inl ⟨by rfl, ?_⟩) hHeld ?_
  rotate_left
  · (intro w hSw; (try dsimp only at hSw); go_simp; (try with_reducible rfl))
  try simp only [Act.put, List.getElem_toArray, List.getElem_cons_zero, List.getElem_cons_succ, List.setIfInBounds_toArray, List.set_cons_zero, List.set_cons_succ]
  refine wpAnyH_take (i := 26) (v := ?_) rfl (by kernel_rfl) (by kernel_rfl) (by kernel_rfl) (fun _ _ _ h => h) (Or.inl ⟨by rfl, ?_⟩) hHeld ?_
  rotate_left
  · (intro w hSw; (try dsimp only at hSw); go_simp; (try with_reducible rfl))
  try simp only [Act.put, List.getElem_toArray, List.getElem_cons_zero, List.getElem_cons_succ, List.setIfInBounds_toArray, List.set_cons_zero, List.set_cons_succ]
  refine wpAnyH_take (i := 28) (v := ?_) rfl (by kernel_rfl) (by kernel_rfl) (by kernel_rfl) (fun _ _ _ h => h) (Or.inl ⟨by rfl, ?_⟩) hHeld ?_
  rotate_left
  · (intro w hSw; (try dsimp only at hSw); go_simp; (try with_reducible rfl))
  try simp only [Act.put, List.getElem_toArray, List.getElem_cons_zero, List.getElem_cons_succ, List.setIfInBounds_toArray, List.set_cons_zero, List.set_cons_succ]
  refine wpAnyH_take (i := 29) (v := ?_) rfl (by kernel_rfl) (by kernel_rfl) (by kernel_rfl) (fun _ _ _ h => h) (Or.inl ⟨by rfl, ?_⟩) hHeld ?_
  rotate_left
  · (intro w hSw; (try dsimp only at hSw); go_simp; (try with_reducible rfl))
  try simp only [Act.put, List.getElem_toArray, List.getElem_cons_zero, List.getElem_cons_succ, List.setIfInBounds_toArray, List.set_cons_zero, List.set_cons_succ]
  refine wpAnyH_take (i := 32) (v := ?_) rfl (by kernel_rfl) (by kernel_rfl) (by kernel_rfl) (fun _ _ _ h => h) (Or.inl ⟨by rfl, ?_⟩) hHeld ?_
  rotate_left
  · (intro w hSw; (try dsimp only at hSw); go_simp; (try with_reducible rfl))
  try simp only [Act.put, List.getElem_toArray, List.getElem_cons_zero, List.getElem_cons_succ, List.setIfInBounds_toArray, List.set_cons_zero, List.set_cons_succ]
  refine wpAnyH_ready (rs := [27]) (by kernel_rfl) (by simp) ?_
  refine AllReadyH.cons rfl (fun K hK => ?_) AllReadyH.nil
  (try simp only [List.getElem_toArray, List.getElem_cons_zero, List.getElem_cons_succ])
  rw [if_pos (by rfl)]
  go_simp
  go_at_call 28
  refine (qmul_N h0 (s0.le (by omega)) h2 (s2.le (by omega))).mono ?_
  rintro e w15 ⟨bfe, Afe, nfe, cfe, Bfe, mfe, dfe, rfl, fe, b⟩
  replace h0 := h0.on b
  replace h1 := h1.on b
  replace h2 := h2.on b
  replace fa := fa.on b
  replace fb := fb.on b
  replace fc := fc.on b
  replace fd := fd.on b
  replace p0 := (b.cell (p := ⟨w.heap.size, 0, none⟩) pl).trans p0
  replace p1 := (b.cell (p := ⟨w.heap.size, 1, none⟩) pl).trans p1
  replace p2 := (b.cell (p := ⟨w.heap.size, 2, none⟩) pl).trans p2
  replace pl := Nat.lt_of_lt_of_le pl b.size
  replace q0 := (b.cell (p := ⟨w.heap.size + 1, 0, none⟩) ql).trans q0
  replace q1 := (b.cell (p := ⟨w.heap.size + 1, 1, none⟩) ql).trans q1
  replace q2 := (b.cell (p := ⟨w.heap.size + 1, 2, none⟩) ql).trans q2
  replace ql := Nat.lt_of_lt_of_le ql b.size
  replace r0 := (b.cell (p := ⟨w.heap.size + 1 + 1, 0, none⟩) rl).trans r0
  replace r1 := (b.cell (p := ⟨w.heap.size + 1 + 1, 1, none⟩) rl).trans r1
  replace r2 := (b.cell (p := ⟨w.heap.size + 1 + 1, 2, none⟩) rl).trans r2
  replace rl := Nat.lt_of_lt_of_le rl b.size
  replace cc := cc.trans (b.mono cc.size)
  clear b
  refine hK.out _ _ ?_ (fun hHeld => ?_)
  · exact ⟨p0, p1, p2, q0, q1, q2, r0, r1, r2⟩
  clear hK K
  try simp only [Act.put, List.getElem_toArray, List.getElem_cons_zero, List.getElem_cons_succ, List.setIfInBounds_toArray, List.set_cons_zero, List.set_cons_succ]
  refine wpAnyH_ready (rs := [30]) (by kernel_rfl) (by simp) ?_
  refine AllReadyH.cons rfl (fun K hK => ?_) AllReadyH.nil
  (try simp only [List.getElem_toArray, List.getElem_cons_zero, List.getElem_cons_succ])
  rw [if_pos (by rfl)]
  go_simp
  go_at_call 28
  refine (qmul_N h1 (s1.le (by omega)) h2 (s2.le (by omega))).mono ?_
  rintro e w16 ⟨bff, Aff, nff, cff, Bff, mff, dff, rfl, ff, b⟩
  replace h0 := h0.on b
  replace h1 := h1.on b
  replace h2 := h2.on b
  replace fa := fa.on b
  replace fb := fb.on b
  replace fc := fc.on b
  replace fd := fd.on b
  replace fe := fe.on b
  replace p0 := (b.cell (p := ⟨w.heap.size, 0, none⟩) pl).trans p0
  replace p1 := (b.cell (p := ⟨w.heap.size, 1, none⟩) pl).trans p1
  replace p2 := (b.cell (p := ⟨w.heap.size, 2, none⟩) pl).trans p2
  replace pl := Nat.lt_of_lt_of_le pl b.size
  replace q0 := (b.cell (p := ⟨w.heap.size + 1, 0, none⟩) ql).trans q0
  replace q1 := (b.cell (p := ⟨w.heap.size + 1, 1, none⟩) ql).trans q1
  replace q2 := (b.cell (p := ⟨w.heap.size + 1, 2, none⟩) ql).trans q2
  replace ql := Nat.lt_of_lt_of_le ql b.size
  replace r0 := (b.cell (p := ⟨w.heap.size + 1 + 1, 0, none⟩) rl).trans r0
  replace r1 := (b.cell (p := ⟨w.heap.size + 1 + 1, 1, none⟩) rl).trans r1
  replace r2 := (b.cell (p := ⟨w.heap.size + 1 + 1, 2, none⟩) rl).trans r2
  replace rl := Nat.lt_of_lt_of_le rl b.size
  replace cc := cc.trans (b.mono cc.size)
  clear b
  refine hK.out _ _ ?_ (fun hHeld => ?_)
  · exact ⟨p0, p1, p2, q0, q1, q2, r0, r1, r2⟩
  clear hK K
  try simp only [Act.put, List.getElem_toArray, List.getElem_cons_zero, List.getElem_cons_succ, List.setIfInBounds_toArray, List.set_cons_zero, List.set_cons_succ]
  refine wpAnyH_ready (rs := [31]) (by kernel_rfl) (by simp) ?_
  refine AllReadyH.cons rfl (fun K hK => ?_) AllReadyH.nil
  (try simp only [List.getElem_toArray, List.getElem_cons_zero, List.getElem_cons_succ])
  rw [if_pos (by rfl)]
  go_simp
  go_at_call 30
  refine (qcmp_v cx fe (p02.le (by omega)) ff (p12.le (by omega)) HC4.out).mono ?_
  rintro e w17 ⟨rfl, b⟩
  replace h0 := h0.on b
  replace h1 := h1.on b
  replace h2 := h2.on b
  replace fa := fa.on b
  replace fb := fb.on b
  replace fc := fc.on b
  replace fd := fd.on b
  replace fe := fe.on b
  replace ff := ff.on b
  replace p0 := (b.cell (p := ⟨w.heap.size, 0, none⟩) pl).trans p0
  replace p1 := (b.cell (p := ⟨w.heap.size, 1, none⟩) pl).trans p1
  replace p2 := (b.cell (p := ⟨w.heap.size, 2, none⟩) pl).trans p2
  replace pl := Nat.lt_of_lt_of_le pl b.size
  replace q0 := (b.cell (p := ⟨w.heap.size + 1, 0, none⟩) ql).trans q0
  replace q1 := (b.cell (p := ⟨w.heap.size + 1, 1, none⟩) ql).trans q1
  replace q2 := (b.cell (p := ⟨w.heap.size + 1, 2, none⟩) ql).trans q2
  replace ql := Nat.lt_of_lt_of_le ql b.size
  replace r0 := (b.cell (p := ⟨w.heap.size + 1 + 1, 0, none⟩) rl).trans r0
  replace r1 := (b.cell (p := ⟨w.heap.size + 1 + 1, 1, none⟩) rl).trans r1
  replace r2 := (b.cell (p := ⟨w.heap.size + 1 + 1, 2, none⟩) rl).trans r2
  replace rl := Nat.lt_of_lt_of_le rl b.size
  replace cc := cc.trans (b.mono cc.size)
  clear b
  refine hK.out _ _ ?_ (fun hHeld => ?_)
  · exact ⟨p0, p1, p2, q0, q1, q2, r0, r1, r2⟩
  clear hK K
  try simp only [Act.put, List.getElem_toArray, List.getElem_cons_zero, List.getElem_cons_succ, List.setIfInBounds_toArray, List.set_cons_zero, List.set_cons_succ]
  refine wpAnyH_take (i := 33) (v := ?_) rfl (by kernel_rfl) (by kernel_rfl) (by kernel_rfl) (fun _ _ _ h => h) (Or.inl ⟨by rfl, ?_⟩) hHeld ?_
  rotate_left
  · (intro w hSw; (try dsimp only at hSw); go_simp; (try with_reducible rfl))
  try simp only [Act.put, List.getElem_toArray, List.getElem_cons_zero, List.getElem_cons_succ, List.setIfInBounds_toArray, List.set_cons_zero, List.set_cons_succ]
  refine wpAnyH_take (i := 34) (v := ?_) rfl (by kernel_rfl) (by kernel_rfl) (by kernel_rfl) (fun _ _ _ h => h) (Or.inl ⟨by rfl, ?_⟩) hHeld ?_
  rotate_left
  · (intro w hSw; (try dsimp only at hSw); go_simp; (try with_reducible rfl))
  try simp only [Act.put, List.getElem_toArray, List.getElem_cons_zero, List.getElem_cons_succ, List.setIfInBounds_toArray, List.set_cons_zero, List.set_cons_succ]
  refine wpAnyH_take (i := 35) (v := ?_) rfl (by kernel_rfl) (by kernel_rfl) (by kernel_rfl) (fun _ _ _ h => h) (Or.inl ⟨by rfl, ?_⟩) hHeld ?_
  rotate_left
  · (intro w hSw; (try dsimp only at hSw); go_simp; (try with_reducible rfl))
  try simp only [Act.put, List.getElem_toArray, List.getElem_cons_zero, List.getElem_cons_succ, List.setIfInBounds_toArray, List.set_cons_zero, List.set_cons_succ]
  refine wpAnyH_take (i := 36) (v := ?_) rfl (by kernel_rfl) (by kernel_rfl) (by kernel_rfl) (fun _ _ _ h => h) (Or.inl ⟨by rfl, ?_⟩) hHeld ?_
  rotate_left
  · (intro w hSw; (try dsimp only at hSw); go_simp; (try with_reducible rfl))
  try simp only [Act.put, List.getElem_toArray, List.getElem_cons_zero, List.getElem_cons_succ, List.setIfInBounds_toArray, List.set_cons_zero, List.set_cons_succ]
  refine wpAnyH_done (by kernel_rfl) ?_ _
  clear hHeld
  go_wp2_with fail
  go_ret
  exact ⟨rfl, cc⟩

set_option maxRecDepth 100000 in
set_option maxHeartbeats 8000000 in
theorem RatOrder_Ano {w : World} {b0 b1 b2 : Bool} {A0 B0 A1 B1 A2 B2 : Option Addr} {n0 c0 m0 d0 n1 c1 m1 d1 n2 c2 m2 d2 : Nat} {x0 : Rat} (h0 : Rt w b0 A0 n0 c0 B0 m0 d0 x0) (s0 : Sz x0 3) {x1 : Rat} (h1 : Rt w b1 A1 n1 c1 B1 m1 d1 x1) (s1 : Sz x1 3) {x2 : Rat} (h2 : Rt w b2 A2 n2 c2 B2 m2 d2 x2) (s2 : Sz x2 3) (hA : ¬ cmpQ x0 x1 ≤ 0) (hn : n2 = 0) (G0 : ∀ W : World, Below w.heap.size w W → Calls Try.prog 21 #[.agg #[.bool b0, .slice A0 n0 c0, .slice B0 m0 d0], .int .i64 3] W (GotV W (.bool true))) (G1 : ∀ W : World, Below w.heap.size w W → Calls Try.prog 21 #[.agg #[.bool b1, .slice A1 n1 c1, .slice B1 m1 d1], .int .i64 3] W (GotV W (.bool true))) (G2 : ∀ W : World, Below w.heap.size w W → Calls Try.prog 21 #[.agg #[.bool b2, .slice A2 n2 c2, .slice B2 m2 d2], .int .i64 3] W (GotV W (.bool true))) :
    Calls Try.prog 7 #[.agg #[.bool b0, .slice A0 n0 c0, .slice B0 m0 d0], .agg #[.bool b1, .slice A1 n1 c1, .slice B1 m1 d1], .agg #[.bool b2, .slice A2 n2 c2, .slice B2 m2 d2]] w fun e w' => e = .returned (.bool true) ∧ Below w.heap.size w w' := by
  obtain ⟨r0, g0⟩ : ∃ r, ((0 : Int) : Rat) = r := ⟨_, rfl⟩
  have C0 : ∀ W : World, Calls Try.prog 19 #[.int .i64 0] W (GotRt W r0) := fun W => by rw [← g0]; exact qof_N W 0 (by unfold I64; omega)
  have z0 : Sz r0 1 := by rw [← g0]; exact sz_of (len_one (by decide))
  obtain ⟨cx, hcx⟩ : ∃ c, cmpQ x0 x1 = c := ⟨_, rfl⟩
  obtain ⟨c1_, hc1⟩ : ∃ c, cmpQ x1 x2 = c := ⟨_, rfl⟩
  obtain ⟨c2_, hc2⟩ : ∃ c, cmpQ x0 x2 = c := ⟨_, rfl⟩
  obtain ⟨r, hr⟩ : ∃ r : Bool, decide (x0 = x1) = r := ⟨_, rfl⟩
  have hbd := cmpQ_bd x0 x1
  rw [hcx] at hbd
  obtain ⟨d1_, d2_⟩ := hbd
  have t1 : decide (cx < -1) = false := decide_eq_false (by omega)
  have t2 : decide (1 < cx) = false := decide_eq_false (by omega)
  have HC0 := Lib.hid hcx
  have HC1 : Hid (cmpQ x1 x0 = -cx) := Lib.hid (by rw [cmpQ_swap, hcx])
  have HC2 : Hid (cmpQ (x0 + x2) (x1 + x2) = cx) := Lib.hid (by rw [cmpQ_plus, hcx])
  have HC3 : Hid (cmpQ (x0 - x1) r0 = cx) := Lib.hid (by rw [← g0, cmpQ_diff, hcx])
  have HR := Lib.hid hr
  have hq : (cx == 0) = r := by rw [← hcx, cmpQ_same, hr]
  have e0 : IntKind.i64.wrap (-cx) = -cx := IntWalk.i64_in _ (by omega)
  have H1 := Lib.hid hc1
  have H2 := Lib.hid hc2
  have t3 : decide (cx ≤ 0) = false := decide_eq_false (by rw [← hcx]; exact hA)
  have t6 : decide ((0 : Int) < (n2 : Int)) = false := decide_eq_false (by omega)
  have t7 : decide (0 < n2) = false := decide_eq_false (by omega)
  clear hn
  clear hcx hc1 hc2 hr g0 d1_ d2_
  have s02 := s0.add s2
  have s12 := s1.add s2
  have p02 := s0.mul s2
  have p12 := s1.mul s2
  have d01 := s0.sub s1
  have cc := Below.refl w.heap.size w
  go_enter Try.func7, Try.ntmps7
  go_wp2_with fail
  have bA : Below w.heap.size w (((w.alloc (.cells #[.bool b0, .slice A0 n0 c0, .slice B0 m0 d0] 27)).alloc (.cells #[.bool b1, .slice A1 n1 c1, .slice B1 m1 d1] 27)).alloc (.cells #[.bool b2, .slice A2 n2 c2, .slice B2 m2 d2] 27)) := ((((Below.refl _ w).alloc (by simp) _).alloc (by simp) _).alloc (by simp <;> omega) _)
  replace h0 := h0.on bA
  replace h1 := h1.on bA
  replace h2 := h2.on bA
  replace cc := cc.trans (bA.mono cc.size)
  clear bA
  have p0 : (((w.alloc (.cells #[.bool b0, .slice A0 n0 c0, .slice B0 m0 d0] 27)).alloc (.cells #[.bool b1, .slice A1 n1 c1, .slice B1 m1 d1] 27)).alloc (.cells #[.bool b2, .slice A2 n2 c2, .slice B2 m2 d2] 27)).cell? ⟨w.heap.size, 0, none⟩ = some (.bool b0) := by simp [go_sem]
  have p1 : (((w.alloc (.cells #[.bool b0, .slice A0 n0 c0, .slice B0 m0 d0] 27)).alloc (.cells #[.bool b1, .slice A1 n1 c1, .slice B1 m1 d1] 27)).alloc (.cells #[.bool b2, .slice A2 n2 c2, .slice B2 m2 d2] 27)).cell? ⟨w.heap.size, 1, none⟩ = some (.slice A0 n0 c0) := by simp [go_sem]
  have p2 : (((w.alloc (.cells #[.bool b0, .slice A0 n0 c0, .slice B0 m0 d0] 27)).alloc (.cells #[.bool b1, .slice A1 n1 c1, .slice B1 m1 d1] 27)).alloc (.cells #[.bool b2, .slice A2 n2 c2, .slice B2 m2 d2] 27)).cell? ⟨w.heap.size, 2, none⟩ = some (.slice B0 m0 d0) := by simp [go_sem]
  have pl : w.heap.size < (((w.alloc (.cells #[.bool b0, .slice A0 n0 c0, .slice B0 m0 d0] 27)).alloc (.cells #[.bool b1, .slice A1 n1 c1, .slice B1 m1 d1] 27)).alloc (.cells #[.bool b2, .slice A2 n2 c2, .slice B2 m2 d2] 27)).heap.size := by simp <;> omega
  have q0 : (((w.alloc (.cells #[.bool b0, .slice A0 n0 c0, .slice B0 m0 d0] 27)).alloc (.cells #[.bool b1, .slice A1 n1 c1, .slice B1 m1 d1] 27)).alloc (.cells #[.bool b2, .slice A2 n2 c2, .slice B2 m2 d2] 27)).cell? ⟨w.heap.size + 1, 0, none⟩ = some (.bool b1) := by simp [go_sem]
  have q1 : (((w.alloc (.cells #[.bool b0, .slice A0 n0 c0, .slice B0 m0 d0] 27)).alloc (.cells #[.bool b1, .slice A1 n1 c1, .slice B1 m1 d1] 27)).alloc (.cells #[.bool b2, .slice A2 n2 c2, .slice B2 m2 d2] 27)).cell? ⟨w.heap.size + 1, 1, none⟩ = some (.slice A1 n1 c1) := by simp [go_sem]
  have q2 : (((w.alloc (.cells #[.bool b0, .slice A0 n0 c0, .slice B0 m0 d0] 27)).alloc (.cells #[.bool b1, .slice A1 n1 c1, .slice B1 m1 d1] 27)).alloc (.cells #[.bool b2, .slice A2 n2 c2, .slice B2 m2 d2] 27)).cell? ⟨w.heap.size + 1, 2, none⟩ = some (.slice B1 m1 d1) := by simp [go_sem]
  have ql : w.heap.size + 1 < (((w.alloc (.cells #[.bool b0, .slice A0 n0 c0, .slice B0 m0 d0] 27)).alloc (.cells #[.bool b1, .slice A1 n1 c1, .slice B1 m1 d1] 27)).alloc (.cells #[.bool b2, .slice A2 n2 c2, .slice B2 m2 d2] 27)).heap.size := by simp <;> omega
  have r0 : (((w.alloc (.cells #[.bool b0, .slice A0 n0 c0, .slice B0 m0 d0] 27)).alloc (.cells #[.bool b1, .slice A1 n1 c1, .slice B1 m1 d1] 27)).alloc (.cells #[.bool b2, .slice A2 n2 c2, .slice B2 m2 d2] 27)).cell? ⟨w.heap.size + 1 + 1, 0, none⟩ = some (.bool b2) := by simp [go_sem]
  have r1 : (((w.alloc (.cells #[.bool b0, .slice A0 n0 c0, .slice B0 m0 d0] 27)).alloc (.cells #[.bool b1, .slice A1 n1 c1, .slice B1 m1 d1] 27)).alloc (.cells #[.bool b2, .slice A2 n2 c2, .slice B2 m2 d2] 27)).cell? ⟨w.heap.size + 1 + 1, 1, none⟩ = some (.slice A2 n2 c2) := by simp [go_sem]
  have r2 : (((w.alloc (.cells #[.bool b0, .slice A0 n0 c0, .slice B0 m0 d0] 27)).alloc (.cells #[.bool b1, .slice A1 n1 c1, .slice B1 m1 d1] 27)).alloc (.cells #[.bool b2, .slice A2 n2 c2, .slice B2 m2 d2] 27)).cell? ⟨w.heap.size + 1 + 1, 2, none⟩ = some (.slice B2 m2 d2) := by simp [go_sem]
  have rl : w.heap.size + 1 + 1 < (((w.alloc (.cells #[.bool b0, .slice A0 n0 c0, .slice B0 m0 d0] 27)).alloc (.cells #[.bool b1, .slice A1 n1 c1, .slice B1 m1 d1] 27)).alloc (.cells #[.bool b2, .slice A2 n2 c2, .slice B2 m2 d2] 27)).heap.size := by simp <;> omega
  generalize ((w.alloc (.cells #[.bool b0, .slice A0 n0 c0, .slice B0 m0 d0] 27)).alloc (.cells #[.bool b1, .slice A1 n1 c1, .slice B1 m1 d1] 27)).alloc (.cells #[.bool b2, .slice A2 n2 c2, .slice B2 m2 d2] 27) = v1 at *
  refine (G0 _ cc).mono ?_
  rintro e w2 ⟨rfl, b⟩
  replace h0 := h0.on b
  replace h1 := h1.on b
  replace h2 := h2.on b
  replace p0 := (b.cell (p := ⟨w.heap.size, 0, none⟩) pl).trans p0
  replace p1 := (b.cell (p := ⟨w.heap.size, 1, none⟩) pl).trans p1
  replace p2 := (b.cell (p := ⟨w.heap.size, 2, none⟩) pl).trans p2
  replace pl := Nat.lt_of_lt_of_le pl b.size
  replace q0 := (b.cell (p := ⟨w.heap.size + 1, 0, none⟩) ql).trans q0
  replace q1 := (b.cell (p := ⟨w.heap.size + 1, 1, none⟩) ql).trans q1
  replace q2 := (b.cell (p := ⟨w.heap.size + 1, 2, none⟩) ql).trans q2
  replace ql := Nat.lt_of_lt_of_le ql b.size
  replace r0 := (b.cell (p := ⟨w.heap.size + 1 + 1, 0, none⟩) rl).trans r0
  replace r1 := (b.cell (p := ⟨w.heap.size + 1 + 1, 1, none⟩) rl).trans r1
  replace r2 := (b.cell (p := ⟨w.heap.size + 1 + 1, 2, none⟩) rl).trans r2
  replace rl := Nat.lt_of_lt_of_le rl b.size
  replace cc := cc.trans (b.mono cc.size)
  clear b
  go_wp2_with fail
  refine (G1 _ cc).mono ?_
  rintro e w3 ⟨rfl, b⟩
  replace h0 := h0.on b
  replace h1 := h1.on b
  replace h2 := h2.on b
  replace p0 := (b.cell (p := ⟨w.heap.size, 0, none⟩) pl).trans p0
  replace p1 := (b.cell (p := ⟨w.heap.size, 1, none⟩) pl).trans p1
  replace p2 := (b.cell (p := ⟨w.heap.size, 2, none⟩) pl).trans p2
  replace pl := Nat.lt_of_lt_of_le pl b.size
  replace q0 := (b.cell (p := ⟨w.heap.size + 1, 0, none⟩) ql).trans q0
  replace q1 := (b.cell (p := ⟨w.heap.size + 1, 1, none⟩) ql).trans q1
  replace q2 := (b.cell (p := ⟨w.heap.size + 1, 2, none⟩) ql).trans q2
  replace ql := Nat.lt_of_lt_of_le ql b.size
  replace r0 := (b.cell (p := ⟨w.heap.size + 1 + 1, 0, none⟩) rl).trans r0
  replace r1 := (b.cell (p := ⟨w.heap.size + 1 + 1, 1, none⟩) rl).trans r1
  replace r2 := (b.cell (p := ⟨w.heap.size + 1 + 1, 2, none⟩) rl).trans r2
  replace rl := Nat.lt_of_lt_of_le rl b.size
  replace cc := cc.trans (b.mono cc.size)
  clear b
  go_wp2_with fail
  refine (G2 _ cc).mono ?_
  rintro e w4 ⟨rfl, b⟩
  replace h0 := h0.on b
  replace h1 := h1.on b
  replace h2 := h2.on b
  replace p0 := (b.cell (p := ⟨w.heap.size, 0, none⟩) pl).trans p0
  replace p1 := (b.cell (p := ⟨w.heap.size, 1, none⟩) pl).trans p1
  replace p2 := (b.cell (p := ⟨w.heap.size, 2, none⟩) pl).trans p2
  replace pl := Nat.lt_of_lt_of_le pl b.size
  replace q0 := (b.cell (p := ⟨w.heap.size + 1, 0, none⟩) ql).trans q0
  replace q1 := (b.cell (p := ⟨w.heap.size + 1, 1, none⟩) ql).trans q1
  replace q2 := (b.cell (p := ⟨w.heap.size + 1, 2, none⟩) ql).trans q2
  replace ql := Nat.lt_of_lt_of_le ql b.size
  replace r0 := (b.cell (p := ⟨w.heap.size + 1 + 1, 0, none⟩) rl).trans r0
  replace r1 := (b.cell (p := ⟨w.heap.size + 1 + 1, 1, none⟩) rl).trans r1
  replace r2 := (b.cell (p := ⟨w.heap.size + 1 + 1, 2, none⟩) rl).trans r2
  replace rl := Nat.lt_of_lt_of_le rl b.size
  replace cc := cc.trans (b.mono cc.size)
  clear b
  go_wp2_with fail
  refine (qcmp_v cx h0 (s0.le (by omega)) h1 (s1.le (by omega)) HC0.out).mono ?_
  rintro e w5 ⟨rfl, b⟩
  replace h0 := h0.on b
  replace h1 := h1.on b
  replace h2 := h2.on b
  replace p0 := (b.cell (p := ⟨w.heap.size, 0, none⟩) pl).trans p0
  replace p1 := (b.cell (p := ⟨w.heap.size, 1, none⟩) pl).trans p1
  replace p2 := (b.cell (p := ⟨w.heap.size, 2, none⟩) pl).trans p2
  replace pl := Nat.lt_of_lt_of_le pl b.size
  replace q0 := (b.cell (p := ⟨w.heap.size + 1, 0, none⟩) ql).trans q0
  replace q1 := (b.cell (p := ⟨w.heap.size + 1, 1, none⟩) ql).trans q1
  replace q2 := (b.cell (p := ⟨w.heap.size + 1, 2, none⟩) ql).trans q2
  replace ql := Nat.lt_of_lt_of_le ql b.size
  replace r0 := (b.cell (p := ⟨w.heap.size + 1 + 1, 0, none⟩) rl).trans r0
  replace r1 := (b.cell (p := ⟨w.heap.size + 1 + 1, 1, none⟩) rl).trans r1
  replace r2 := (b.cell (p := ⟨w.heap.size + 1 + 1, 2, none⟩) rl).trans r2
  replace rl := Nat.lt_of_lt_of_le rl b.size
  replace cc := cc.trans (b.mono cc.size)
  clear b
  go_wp2_with fail
  refine (qcmp_v (-cx) h1 (s1.le (by omega)) h0 (s0.le (by omega)) HC1.out).mono ?_
  rintro e w6 ⟨rfl, b⟩
  replace h0 := h0.on b
  replace h1 := h1.on b
  replace h2 := h2.on b
  replace p0 := (b.cell (p := ⟨w.heap.size, 0, none⟩) pl).trans p0
  replace p1 := (b.cell (p := ⟨w.heap.size, 1, none⟩) pl).trans p1
  replace p2 := (b.cell (p := ⟨w.heap.size, 2, none⟩) pl).trans p2
  replace pl := Nat.lt_of_lt_of_le pl b.size
  replace q0 := (b.cell (p := ⟨w.heap.size + 1, 0, none⟩) ql).trans q0
  replace q1 := (b.cell (p := ⟨w.heap.size + 1, 1, none⟩) ql).trans q1
  replace q2 := (b.cell (p := ⟨w.heap.size + 1, 2, none⟩) ql).trans q2
  replace ql := Nat.lt_of_lt_of_le ql b.size
  replace r0 := (b.cell (p := ⟨w.heap.size + 1 + 1, 0, none⟩) rl).trans r0
  replace r1 := (b.cell (p := ⟨w.heap.size + 1 + 1, 1, none⟩) rl).trans r1
  replace r2 := (b.cell (p := ⟨w.heap.size + 1 + 1, 2, none⟩) rl).trans r2
  replace rl := Nat.lt_of_lt_of_le rl b.size
  replace cc := cc.trans (b.mono cc.size)
  clear b
  go_wp2_with fail
  refine (rtsame_N h0 (s0.le (by omega)) h1 (s1.le (by omega)) r HR.out).mono ?_
  rintro e w7 ⟨rfl, b⟩
  replace h0 := h0.on b
  replace h1 := h1.on b
  replace h2 := h2.on b
  replace p0 := (b.cell (p := ⟨w.heap.size, 0, none⟩) pl).trans p0
  replace p1 := (b.cell (p := ⟨w.heap.size, 1, none⟩) pl).trans p1
  replace p2 := (b.cell (p := ⟨w.heap.size, 2, none⟩) pl).trans p2
  replace pl := Nat.lt_of_lt_of_le pl b.size
  replace q0 := (b.cell (p := ⟨w.heap.size + 1, 0, none⟩) ql).trans q0
  replace q1 := (b.cell (p := ⟨w.heap.size + 1, 1, none⟩) ql).trans q1
  replace q2 := (b.cell (p := ⟨w.heap.size + 1, 2, none⟩) ql).trans q2
  replace ql := Nat.lt_of_lt_of_le ql b.size
  replace r0 := (b.cell (p := ⟨w.heap.size + 1 + 1, 0, none⟩) rl).trans r0
  replace r1 := (b.cell (p := ⟨w.heap.size + 1 + 1, 1, none⟩) rl).trans r1
  replace r2 := (b.cell (p := ⟨w.heap.size + 1 + 1, 2, none⟩) rl).trans r2
  replace rl := Nat.lt_of_lt_of_le rl b.size
  replace cc := cc.trans (b.mono cc.size)
  clear b
  go_wp2_with fail
  have bD : Below w7.heap.size w7 w7.drew := below_drewN (Below.refl _ w7) 1
  replace h0 := h0.on bD
  replace h1 := h1.on bD
  replace h2 := h2.on bD
  replace p0 := (bD.cell (p := ⟨w.heap.size, 0, none⟩) pl).trans p0
  replace p1 := (bD.cell (p := ⟨w.heap.size, 1, none⟩) pl).trans p1
  replace p2 := (bD.cell (p := ⟨w.heap.size, 2, none⟩) pl).trans p2
  replace pl := Nat.lt_of_lt_of_le pl bD.size
  replace q0 := (bD.cell (p := ⟨w.heap.size + 1, 0, none⟩) ql).trans q0
  replace q1 := (bD.cell (p := ⟨w.heap.size + 1, 1, none⟩) ql).trans q1
  replace q2 := (bD.cell (p := ⟨w.heap.size + 1, 2, none⟩) ql).trans q2
  replace ql := Nat.lt_of_lt_of_le ql bD.size
  replace r0 := (bD.cell (p := ⟨w.heap.size + 1 + 1, 0, none⟩) rl).trans r0
  replace r1 := (bD.cell (p := ⟨w.heap.size + 1 + 1, 1, none⟩) rl).trans r1
  replace r2 := (bD.cell (p := ⟨w.heap.size + 1 + 1, 2, none⟩) rl).trans r2
  replace rl := Nat.lt_of_lt_of_le rl bD.size
  replace cc := cc.trans (bD.mono cc.size)
  clear bD
  refine wp_region_held_drew (S := fun w' => w'.cell? ⟨w.heap.size, 0, none⟩ = some (.bool b0) ∧ w'.cell? ⟨w.heap.size, 1, none⟩ = some (.slice A0 n0 c0) ∧ w'.cell? ⟨w.heap.size, 2, none⟩ = some (.slice B0 m0 d0) ∧ w'.cell? ⟨w.heap.size + 1, 0, none⟩ = some (.bool b1) ∧ w'.cell? ⟨w.heap.size + 1, 1, none⟩ = some (.slice A1 n1 c1) ∧ w'.cell? ⟨w.heap.size + 1, 2, none⟩ = some (.slice B1 m1 d1) ∧ w'.cell? ⟨w.heap.size + 1 + 1, 0, none⟩ = some (.bool b2) ∧ w'.cell? ⟨w.heap.size + 1 + 1, 1, none⟩ = some (.slice A2 n2 c2) ∧ w'.cell? ⟨w.heap.size + 1 + 1, 2, none⟩ = some (.slice B2 m2 d2)) (by kernel_rfl) ?_ (fun hHeld => ?_)
  · exact ⟨p0, p1, p2, q0, q1, q2, r0, r1, r2⟩
  refine wpAnyH_ready (rs := [0]) (by kernel_rfl) (by simp) ?_
  refine AllReadyH.cons rfl (fun K hK => ?_) AllReadyH.nil
  (try simp only [List.getElem_toArray, List.getElem_cons_zero, List.getElem_cons_succ])
  rw [if_pos (by rfl)]
  go_simp
  go_at_call 12
  refine (alive5_any _).mono ?_
  rintro e w8 ⟨rfl, b⟩
  replace h0 := h0.on b
  replace h1 := h1.on b
  replace h2 := h2.on b
  replace p0 := (b.cell (p := ⟨w.heap.size, 0, none⟩) pl).trans p0
  replace p1 := (b.cell (p := ⟨w.heap.size, 1, none⟩) pl).trans p1
  replace p2 := (b.cell (p := ⟨w.heap.size, 2, none⟩) pl).trans p2
  replace pl := Nat.lt_of_lt_of_le pl b.size
  replace q0 := (b.cell (p := ⟨w.heap.size + 1, 0, none⟩) ql).trans q0
  replace q1 := (b.cell (p := ⟨w.heap.size + 1, 1, none⟩) ql).trans q1
  replace q2 := (b.cell (p := ⟨w.heap.size + 1, 2, none⟩) ql).trans q2
  replace ql := Nat.lt_of_lt_of_le ql b.size
  replace r0 := (b.cell (p := ⟨w.heap.size + 1 + 1, 0, none⟩) rl).trans r0
  replace r1 := (b.cell (p := ⟨w.heap.size + 1 + 1, 1, none⟩) rl).trans r1
  replace r2 := (b.cell (p := ⟨w.heap.size + 1 + 1, 2, none⟩) rl).trans r2
  replace rl := Nat.lt_of_lt_of_le rl b.size
  replace cc := cc.trans (b.mono cc.size)
  clear b
  refine hK.out _ _ ?_ (fun hHeld => ?_)
  · exact ⟨p0, p1, p2, q0, q1, q2, r0, r1, r2⟩
  clear hK K
  try simp only [Act.put, List.getElem_toArray, List.getElem_cons_zero, List.getElem_cons_succ, List.setIfInBounds_toArray, List.set_cons_zero, List.set_cons_succ]
  refine wpAnyH_take (i := 1) (v := ?_) rfl (by kernel_rfl) (by kernel_rfl) (by kernel_rfl) (fun _ _ _ h => h) (Or.inl ⟨by rfl, ?_⟩) hHeld ?_
  rotate_left
  · (intro w hSw; (try dsimp only at hSw); go_simp; (try with_reducible rfl))
  try simp only [Act.put, List.getElem_toArray, List.getElem_cons_zero, List.getElem_cons_succ, List.setIfInBounds_toArray, List.set_cons_zero, List.set_cons_succ]
  refine wpAnyH_take (i := 2) (v := ?_) rfl (by kernel_rfl) (by kernel_rfl) (by kernel_rfl) (fun _ _ _ h => h) (Or.inl ⟨by rfl, ?_⟩) hHeld ?_
  rotate_left
  · (intro w hSw; (try dsimp only at hSw); go_simp; (try with_reducible rfl))
  try simp only [Act.put, List.getElem_toArray, List.getElem_cons_zero, List.getElem_cons_succ, List.setIfInBounds_toArray, List.set_cons_zero, List.set_cons_succ]
  refine wpAnyH_take (i := 3) (v := ?_) rfl (by kernel_rfl) (by kernel_rfl) (by kernel_rfl) (fun _ _ _ h => h) (Or.inl ⟨by rfl, ?_⟩) hHeld ?_
  rotate_left
  · (intro w hSw; (try dsimp only at hSw); go_simp; (try with_reducible rfl))
  try simp only [Act.put, List.getElem_toArray, List.getElem_cons_zero, List.getElem_cons_succ, List.setIfInBounds_toArray, List.set_cons_zero, List.set_cons_succ]
  refine wpAnyH_take (i := 5) (v := ?_) rfl (by kernel_rfl) (by kernel_rfl) (by kernel_rfl) (fun _ _ _ h => h) (Or.inl ⟨by rfl, ?_⟩) hHeld ?_
  rotate_left
  · (intro w hSw; (try dsimp only at hSw); go_simp; (try with_reducible rfl))
  try simp only [Act.put, List.getElem_toArray, List.getElem_cons_zero, List.getElem_cons_succ, List.setIfInBounds_toArray, List.set_cons_zero, List.set_cons_succ]
  refine wpAnyH_take (i := 6) (v := ?_) rfl (by kernel_rfl) (by kernel_rfl) (by kernel_rfl) (fun _ _ _ h => h) (Or.inl ⟨by rfl, ?_⟩) hHeld ?_
  rotate_left
  · (intro w hSw; (try dsimp only at hSw); go_simp; (try with_reducible rfl))
  try simp only [Act.put, List.getElem_toArray, List.getElem_cons_zero, List.getElem_cons_succ, List.setIfInBounds_toArray, List.set_cons_zero, List.set_cons_succ]
  refine wpAnyH_take (i := 9) (v := ?_) rfl (by kernel_rfl) (by kernel_rfl) (by kernel_rfl) (fun _ _ _ h => h) (Or.inl ⟨by rfl, ?_⟩) hHeld ?_
  rotate_left
  · (intro w hSw; (try dsimp only at hSw); go_simp; (try with_reducible rfl))
  try simp only [Act.put, List.getElem_toArray, List.getElem_cons_zero, List.getElem_cons_succ, List.setIfInBounds_toArray, List.set_cons_zero, List.set_cons_succ]
  refine wpAnyH_ready (rs := [4]) (by kernel_rfl) (by simp) ?_
  refine AllReadyH.cons rfl (fun K hK => ?_) AllReadyH.nil
  (try simp only [List.getElem_toArray, List.getElem_cons_zero, List.getElem_cons_succ])
  rw [if_pos (by rfl)]
  go_simp
  go_at_call 24
  refine (qadd_N h0 (s0.le (by omega)) h2 (s2.le (by omega))).mono ?_
  rintro e w9 ⟨bfa, Afa, nfa, cfa, Bfa, mfa, dfa, rfl, fa, b⟩
  replace h0 := h0.on b
  replace h1 := h1.on b
  replace h2 := h2.on b
  replace p0 := (b.cell (p := ⟨w.heap.size, 0, none⟩) pl).trans p0
  replace p1 := (b.cell (p := ⟨w.heap.size, 1, none⟩) pl).trans p1
  replace p2 := (b.cell (p := ⟨w.heap.size, 2, none⟩) pl).trans p2
  replace pl := Nat.lt_of_lt_of_le pl b.size
  replace q0 := (b.cell (p := ⟨w.heap.size + 1, 0, none⟩) ql).trans q0
  replace q1 := (b.cell (p := ⟨w.heap.size + 1, 1, none⟩) ql).trans q1
  replace q2 := (b.cell (p := ⟨w.heap.size + 1, 2, none⟩) ql).trans q2
  replace ql := Nat.lt_of_lt_of_le ql b.size
  replace r0 := (b.cell (p := ⟨w.heap.size + 1 + 1, 0, none⟩) rl).trans r0
  replace r1 := (b.cell (p := ⟨w.heap.size + 1 + 1, 1, none⟩) rl).trans r1
  replace r2 := (b.cell (p := ⟨w.heap.size + 1 + 1, 2, none⟩) rl).trans r2
  replace rl := Nat.lt_of_lt_of_le rl b.size
  replace cc := cc.trans (b.mono cc.size)
  clear b
  refine hK.out _ _ ?_ (fun hHeld => ?_)
  · exact ⟨p0, p1, p2, q0, q1, q2, r0, r1, r2⟩
  clear hK K
  try simp only [Act.put, List.getElem_toArray, List.getElem_cons_zero, List.getElem_cons_succ, List.setIfInBounds_toArray, List.set_cons_zero, List.set_cons_succ]
  refine wpAnyH_ready (rs := [7]) (by kernel_rfl) (by simp) ?_
  refine AllReadyH.cons rfl (fun K hK => ?_) AllReadyH.nil
  (try simp only [List.getElem_toArray, List.getElem_cons_zero, List.getElem_cons_succ])
  rw [if_pos (by rfl)]
  go_simp
  go_at_call 24
  refine (qadd_N h1 (s1.le (by omega)) h2 (s2.le (by omega))).mono ?_
  rintro e w10 ⟨bfb, Afb, nfb, cfb, Bfb, mfb, dfb, rfl, fb, b⟩
  replace h0 := h0.on b
  replace h1 := h1.on b
  replace h2 := h2.on b
  replace fa := fa.on b
  replace p0 := (b.cell (p := ⟨w.heap.size, 0, none⟩) pl).trans p0
  replace p1 := (b.cell (p := ⟨w.heap.size, 1, none⟩) pl).trans p1
  replace p2 := (b.cell (p := ⟨w.heap.size, 2, none⟩) pl).trans p2
  replace pl := Nat.lt_of_lt_of_le pl b.size
  replace q0 := (b.cell (p := ⟨w.heap.size + 1, 0, none⟩) ql).trans q0
  replace q1 := (b.cell (p := ⟨w.heap.size + 1, 1, none⟩) ql).trans q1
  replace q2 := (b.cell (p := ⟨w.heap.size + 1, 2, none⟩) ql).trans q2
  replace ql := Nat.lt_of_lt_of_le ql b.size
  replace r0 := (b.cell (p := ⟨w.heap.size + 1 + 1, 0, none⟩) rl).trans r0
  replace r1 := (b.cell (p := ⟨w.heap.size + 1 + 1, 1, none⟩) rl).trans r1
  replace r2 := (b.cell (p := ⟨w.heap.size + 1 + 1, 2, none⟩) rl).trans r2
  replace rl := Nat.lt_of_lt_of_le rl b.size
  replace cc := cc.trans (b.mono cc.size)
  clear b
  refine hK.out _ _ ?_ (fun hHeld => ?_)
  · exact ⟨p0, p1, p2, q0, q1, q2, r0, r1, r2⟩
  clear hK K
  try simp only [Act.put, List.getElem_toArray, List.getElem_cons_zero, List.getElem_cons_succ, List.setIfInBounds_toArray, List.set_cons_zero, List.set_cons_succ]
  refine wpAnyH_ready (rs := [8]) (by kernel_rfl) (by simp) ?_
  refine AllReadyH.cons rfl (fun K hK => ?_) AllReadyH.nil
  (try simp only [List.getElem_toArray, List.getElem_cons_zero, List.getElem_cons_succ])
  rw [if_pos (by rfl)]
  go_simp
  go_at_call 30
  refine (qcmp_v cx fa (s02.le (by omega)) fb (s12.le (by omega)) HC2.out).mono ?_
  rintro e w11 ⟨rfl, b⟩
  replace h0 := h0.on b
  replace h1 := h1.on b
  replace h2 := h2.on b
  replace fa := fa.on b
  replace fb := fb.on b
  replace p0 := (b.cell (p := ⟨w.heap.size, 0, none⟩) pl).trans p0
  replace p1 := (b.cell (p := ⟨w.heap.size, 1, none⟩) pl).trans p1
  replace p2 := (b.cell (p := ⟨w.heap.size, 2, none⟩) pl).trans p2
  replace pl := Nat.lt_of_lt_of_le pl b.size
  replace q0 := (b.cell (p := ⟨w.heap.size + 1, 0, none⟩) ql).trans q0
  replace q1 := (b.cell (p := ⟨w.heap.size + 1, 1, none⟩) ql).trans q1
  replace q2 := (b.cell (p := ⟨w.heap.size + 1, 2, none⟩) ql).trans q2
  replace ql := Nat.lt_of_lt_of_le ql b.size
  replace r0 := (b.cell (p := ⟨w.heap.size + 1 + 1, 0, none⟩) rl).trans r0
  replace r1 := (b.cell (p := ⟨w.heap.size + 1 + 1, 1, none⟩) rl).trans r1
  replace r2 := (b.cell (p := ⟨w.heap.size + 1 + 1, 2, none⟩) rl).trans r2
  replace rl := Nat.lt_of_lt_of_le rl b.size
  replace cc := cc.trans (b.mono cc.size)
  clear b
  refine hK.out _ _ ?_ (fun hHeld => ?_)
  · exact ⟨p0, p1, p2, q0, q1, q2, r0, r1, r2⟩
  clear hK K
  try simp only [Act.put, List.getElem_toArray, List.getElem_cons_zero, List.getElem_cons_succ, List.setIfInBounds_toArray, List.set_cons_zero, List.set_cons_succ]
  refine wpAnyH_take (i := 10) (v := ?_) rfl (by kernel_rfl) (by kernel_rfl) (by kernel_rfl) (fun _ _ _ h => h) (Or.inl ⟨by rfl, ?_⟩) hHeld ?_
  rotate_left
  · (intro w hSw; (try dsimp only at hSw); go_simp; (try with_reducible rfl))
  try simp only [Act.put, List.getElem_toArray, List.getElem_cons_zero, List.getElem_cons_succ, List.setIfInBounds_toArray, List.set_cons_zero, List.set_cons_succ]
  refine wpAnyH_take (i := 11) (v := ?_) rfl (by kernel_rfl) (by kernel_rfl) (by kernel_rfl) (fun _ _ _ h => h) (Or.inl ⟨by rfl, ?_⟩) hHeld ?_
  rotate_left
  · (intro w hSw; (try dsimp only at hSw); go_simp; (try with_reducible rfl))
  try simp only [Act.put, List.getElem_toArray, List.getElem_cons_zero, List.getElem_cons_succ, List.setIfInBounds_toArray, List.set_cons_zero, List.set_cons_succ]
  refine wpAnyH_take (i := 12) (v := ?_) rfl (by kernel_rfl) (by kernel_rfl) (by kernel_rfl) (fun _ _ _ h => h) (Or.inl ⟨by rfl, ?_⟩) hHeld ?_
  rotate_left
  · (intro w hSw; (try dsimp only at hSw); go_simp; (try with_reducible rfl))
  try simp only [Act.put, List.getElem_toArray, List.getElem_cons_zero, List.getElem_cons_succ, List.setIfInBounds_toArray, List.set_cons_zero, List.set_cons_succ]
  refine wpAnyH_take (i := 13) (v := ?_) rfl (by kernel_rfl) (by kernel_rfl) (by kernel_rfl) (fun _ _ _ h => h) (Or.inl ⟨by rfl, ?_⟩) hHeld ?_
  rotate_left
  · (intro w hSw; (try dsimp only at hSw); go_simp; (try with_reducible rfl))
  try simp only [Act.put, List.getElem_toArray, List.getElem_cons_zero, List.getElem_cons_succ, List.setIfInBounds_toArray, List.set_cons_zero, List.set_cons_succ]
  refine wpAnyH_take (i := 14) (v := ?_) rfl (by kernel_rfl) (by kernel_rfl) (by kernel_rfl) (fun _ _ _ h => h) (Or.inl ⟨by rfl, ?_⟩) hHeld ?_
  rotate_left
  · (intro w hSw; (try dsimp only at hSw); go_simp; (try with_reducible rfl))
  try simp only [Act.put, List.getElem_toArray, List.getElem_cons_zero, List.getElem_cons_succ, List.setIfInBounds_toArray, List.set_cons_zero, List.set_cons_succ]
  refine wpAnyH_take (i := 18) (v := ?_) rfl (by kernel_rfl) (by kernel_rfl) (by kernel_rfl) (fun _ _ _ h => h) (Or.inl ⟨by rfl, ?_⟩) hHeld ?_
  rotate_left
  · (intro w hSw; (try dsimp only at hSw); go_simp; (try with_reducible rfl))
  try simp only [Act.put, List.getElem_toArray, List.getElem_cons_zero, List.getElem_cons_succ, List.setIfInBounds_toArray, List.set_cons_zero, List.set_cons_succ]
  refine wpAnyH_ready (rs := [15]) (by kernel_rfl) (by simp) ?_
  refine AllReadyH.cons rfl (fun K hK => ?_) AllReadyH.nil
  (try simp only [List.getElem_toArray, List.getElem_cons_zero, List.getElem_cons_succ])
  rw [if_pos (by rfl)]
  go_simp
  go_at_call 26
  refine (qsub_N h0 (s0.le (by omega)) h1 (s1.le (by omega))).mono ?_
  rintro e w12 ⟨bfc, Afc, nfc, cfc, Bfc, mfc, dfc, rfl, fc, b⟩
  replace h0 := h0.on b
  replace h1 := h1.on b
  replace h2 := h2.on b
  replace fa := fa.on b
  replace fb := fb.on b
  replace p0 := (b.cell (p := ⟨w.heap.size, 0, none⟩) pl).trans p0
  replace p1 := (b.cell (p := ⟨w.heap.size, 1, none⟩) pl).trans p1
  replace p2 := (b.cell (p := ⟨w.heap.size, 2, none⟩) pl).trans p2
  replace pl := Nat.lt_of_lt_of_le pl b.size
  replace q0 := (b.cell (p := ⟨w.heap.size + 1, 0, none⟩) ql).trans q0
  replace q1 := (b.cell (p := ⟨w.heap.size + 1, 1, none⟩) ql).trans q1
  replace q2 := (b.cell (p := ⟨w.heap.size + 1, 2, none⟩) ql).trans q2
  replace ql := Nat.lt_of_lt_of_le ql b.size
  replace r0 := (b.cell (p := ⟨w.heap.size + 1 + 1, 0, none⟩) rl).trans r0
  replace r1 := (b.cell (p := ⟨w.heap.size + 1 + 1, 1, none⟩) rl).trans r1
  replace r2 := (b.cell (p := ⟨w.heap.size + 1 + 1, 2, none⟩) rl).trans r2
  replace rl := Nat.lt_of_lt_of_le rl b.size
  replace cc := cc.trans (b.mono cc.size)
  clear b
  refine hK.out _ _ ?_ (fun hHeld => ?_)
  · exact ⟨p0, p1, p2, q0, q1, q2, r0, r1, r2⟩
  clear hK K
  try simp only [Act.put, List.getElem_toArray, List.getElem_cons_zero, List.getElem_cons_succ, List.setIfInBounds_toArray, List.set_cons_zero, List.set_cons_succ]
  refine wpAnyH_ready (rs := [16]) (by kernel_rfl) (by simp) ?_
  refine AllReadyH.cons rfl (fun K hK => ?_) AllReadyH.nil
  (try simp only [List.getElem_toArray, List.getElem_cons_zero, List.getElem_cons_succ])
  rw [if_pos (by rfl)]
  go_simp
  go_at_call 19
  refine (C0 _).mono ?_
  rintro e w13 ⟨bfd, Afd, nfd, cfd, Bfd, mfd, dfd, rfl, fd, b⟩
  replace h0 := h0.on b
  replace h1 := h1.on b
  replace h2 := h2.on b
  replace fa := fa.on b
  replace fb := fb.on b
  replace fc := fc.on b
  replace p0 := (b.cell (p := ⟨w.heap.size, 0, none⟩) pl).trans p0
  replace p1 := (b.cell (p := ⟨w.heap.size, 1, none⟩) pl).trans p1
  replace p2 := (b.cell (p := ⟨w.heap.size, 2, none⟩) pl).trans p2
  replace pl := Nat.lt_of_lt_of_le pl b.size
  replace q0 := (b.cell (p := ⟨w.heap.size + 1, 0, none⟩) ql).trans q0
  replace q1 := (b.cell (p := ⟨w.heap.size + 1, 1, none⟩) ql).trans q1
  replace q2 := (b.cell (p := ⟨w.heap.size + 1, 2, none⟩) ql).trans q2
  replace ql := Nat.lt_of_lt_of_le ql b.size
  replace r0 := (b.cell (p := ⟨w.heap.size + 1 + 1, 0, none⟩) rl).trans r0
  replace r1 := (b.cell (p := ⟨w.heap.size + 1 + 1, 1, none⟩) rl).trans r1
  replace r2 := (b.cell (p := ⟨w.heap.size + 1 + 1, 2, none⟩) rl).trans r2
  replace rl := Nat.lt_of_lt_of_le rl b.size
  replace cc := cc.trans (b.mono cc.size)
  clear b
  refine hK.out _ _ ?_ (fun hHeld => ?_)
  · exact ⟨p0, p1, p2, q0, q1, q2, r0, r1, r2⟩
  clear hK K
  try simp only [Act.put, List.getElem_toArray, List.getElem_cons_zero, List.getElem_cons_succ, List.setIfInBounds_toArray, List.set_cons_zero, List.set_cons_succ]
  refine wpAnyH_ready (rs := [17]) (by kernel_rfl) (by simp) ?_
  refine AllReadyH.cons rfl (fun K hK => ?_) AllReadyH.nil
  (try simp only [List.getElem_toArray, List.getElem_cons_zero, List.getElem_cons_succ])
  rw [if_pos (by rfl)]
  go_simp
  go_at_call 30
  refine (qcmp_v cx fc (d01.le (by omega)) fd (z0.le (by omega)) HC3.out).mono ?_
  rintro e w14 ⟨rfl, b⟩
  replace h0 := h0.on b
  replace h1 := h1.on b
  replace h2 := h2.on b
  replace fa := fa.on b
  replace fb := fb.on b
  replace fc := fc.on b
  replace fd := fd.on b
  replace p0 := (b.cell (p := ⟨w.heap.size, 0, none⟩) pl).trans p0
  replace p1 := (b.cell (p := ⟨w.heap.size, 1, none⟩) pl).trans p1
  replace p2 := (b.cell (p := ⟨w.heap.size, 2, none⟩) pl).trans p2
  replace pl := Nat.lt_of_lt_of_le pl b.size
  replace q0 := (b.cell (p := ⟨w.heap.size + 1, 0, none⟩) ql).trans q0
  replace q1 := (b.cell (p := ⟨w.heap.size + 1, 1, none⟩) ql).trans q1
  replace q2 := (b.cell (p := ⟨w.heap.size + 1, 2, none⟩) ql).trans q2
  replace ql := Nat.lt_of_lt_of_le ql b.size
  replace r0 := (b.cell (p := ⟨w.heap.size + 1 + 1, 0, none⟩) rl).trans r0
  replace r1 := (b.cell (p := ⟨w.heap.size + 1 + 1, 1, none⟩) rl).trans r1
  replace r2 := (b.cell (p := ⟨w.heap.size + 1 + 1, 2, none⟩) rl).trans r2
  replace rl := Nat.lt_of_lt_of_le rl b.size
  replace cc := cc.trans (b.mono cc.size)
  clear b
  refine hK.out _ _ ?_ (fun hHeld => ?_)
  · exact ⟨p0, p1, p2, q0, q1, q2, r0, r1, r2⟩
  clear hK K
  try simp only [Act.put, List.getElem_toArray, List.getElem_cons_zero, List.getElem_cons_succ, List.setIfInBounds_toArray, List.set_cons_zero, List.set_cons_succ]
  refine wpAnyH_take (i := 19) (v := ?_) rfl (by kernel_rfl) (by kernel_rfl) (by kernel_rfl) (fun _ _ _ h => h) (Or.inl ⟨by rfl, ?_⟩) hHeld ?_
  rotate_left
  · (intro w hSw; (try dsimp only at hSw); go_simp; (try with_reducible rfl))
  try simp only [Act.put, List.getElem_toArray, List.getElem_cons_zero, List.getElem_cons_succ, List.setIfInBounds_toArray, List.set_cons_zero, List.set_cons_succ]
  refine wpAnyH_take (i := 20) (v := ?_) rfl (by kernel_rfl) (by kernel_rfl) (by kernel_rfl) (fun _ _ _ h => h) (Or.inl ⟨by rfl, ?_⟩) hHeld ?_
  rotate_left
  · (intro w hSw; (try dsimp only at hSw); go_simp; (try with_reducible rfl))
  try simp only [Act.put, List.getElem_toArray, List.getElem_cons_zero, List.getElem_cons_succ, List.setIfInBounds_toArray, List.set_cons_zero, List.set_cons_succ]
  refine wpAnyH_take (i := 21) (v := ?_) rfl (by kernel_rfl) (by kernel_rfl) (by kernel_rfl) (fun _ _ _ h => h) (Or.inl ⟨by rfl, ?_⟩) hHeld ?_
  rotate_left
  · (intro w hSw; (try dsimp only at hSw); go_simp; (try with_reducible rfl))
  try simp only [Act.put, List.getElem_toArray, List.getElem_cons_zero, List.getElem_cons_succ, List.setIfInBounds_toArray, List.set_cons_zero, List.set_cons_succ]
  refine wpAnyH_take (i := 22) (v := ?_) rfl (by kernel_rfl) (by kernel_rfl) (by kernel_rfl) (fun _ _ _ h => h) (Or.inl ⟨by rfl, ?_⟩) hHeld ?_
  rotate_left
  · (intro w hSw; (try dsimp only at hSw); go_simp; (try with_reducible rfl))
  try simp only [Act.put, List.getElem_toArray, List.getElem_cons_zero, List.getElem_cons_succ, List.setIfInBounds_toArray, List.set_cons_zero, List.set_cons_succ]
  refine wpAnyH_take (i := 23) (v := ?_) rfl (by kernel_rfl) (by kernel_rfl) (by kernel_rfl) (fun _ _ _ h => h) (Or.inl ⟨by rfl, ?_⟩) hHeld ?_
  rotate_left
  · (intro w hSw; (try dsimp only at hSw); go_simp; (try with_reducible rfl))
  try simp only [Act.put, List.getElem_toArray, List.getElem_cons_zero, List.getElem_cons_succ, List.setIfInBounds_toArray, List.set_cons_zero, List.set_cons_succ]
  refine wpAnyH_take (i := 24) (v := ?_) rfl (by kernel_rfl) (by kernel_rfl) (by kernel_rfl) (fun _ _ _ h => h) (Or.inl ⟨by rfl, ?_⟩) hHeld ?_
  rotate_left
  · (intro w hSw; (try dsimp only at hSw); go_simp; (try with_reducible rfl))
  try simp only [Act.put, List.getElem_toArray, List.getElem_cons_zero, List.getElem_cons_succ, List.setIfInBounds_toArray, List.set_cons_zero, List.set_cons_succ]
  refine wpAnyH_take (i := 25) (v := undef) rfl (by kernel_rfl) (by kernel_rfl) (by kernel_rfl) (fun _ _ _ h => h) (Or.inr ⟨by rfl, rfl⟩) hHeld ?_
  try simp only [Act.put, List.getElem_toArray, List.getElem_cons_zero, List.getElem_cons_succ, List.setIfInBounds_toArray, List.set_cons_zero, List.set_cons_succ]
  refine wpAnyH_take (i := 26) (v := undef) rfl (by kernel_rfl) (by kernel_rfl) (by kernel_rfl) (fun _ _ _ h => h) (Or.inr ⟨by rfl, rfl⟩) hHeld ?_
  try simp only [Act.put, List.getElem_toArray, List.getElem_cons_zero, List.getElem_cons_succ, List.setIfInBounds_toArray, List.set_cons_zero, List.set_cons_succ]
  refine wpAnyH_take (i := 27) (v := undef) rfl (by kernel_rfl) (by kernel_rfl) (by kernel_rfl) (fun _ _ _ h => h) (Or.inr ⟨by rfl, rfl⟩) hHeld ?_
  try simp only [Act.put, List.getElem_toArray, List.getElem_cons_zero, List.getElem_cons_succ, List.setIfInBounds_toArray, List.set_cons_zero, List.set_cons_succ]
  refine wpAnyH_take (i := 28) (v := undef) rfl (by kernel_rfl) (by kernel_rfl) (by kernel_rfl) (fun _ _ _ h => h) (Or.inr ⟨by rfl, rfl⟩) hHeld ?_
  try simp only [Act.put, List.getElem_toArray, List.getElem_cons_zero, List.getElem_cons_succ, List.setIfInBounds_toArray, List.set_cons_zero, List.set_cons_succ]
  refine wpAnyH_take (i := 29) (v := undef) rfl (by kernel_rfl) (by kernel_rfl) (by kernel_rfl) (fun _ _ _ h => h) (Or.inr ⟨by rfl, rfl⟩) hHeld ?_
  try simp only [Act.put, List.getElem_toArray, List.getElem_cons_zero, List.getElem_cons_succ, List.setIfInBounds_toArray, List.set_cons_zero, List.set_cons_succ]
  refine wpAnyH_take (i := 30) (v := undef) rfl (by kernel_rfl) (by kernel_rfl) (by kernel_rfl) (fun _ _ _ h => h) (Or.inr ⟨by rfl, rfl⟩) hHeld ?_
  try simp only [Act.put, List.getElem_toArray, List.getElem_cons_zero, List.getElem_cons_succ, List.setIfInBounds_toArray, List.set_cons_zero, List.set_cons_succ]
  refine wpAnyH_take (i := 31) (v := undef) rfl (by kernel_rfl) (by kernel_rfl) (by kernel_rfl) (fun _ _ _ h => h) (Or.inr ⟨by rfl, rfl⟩) hHeld ?_
  try simp only [Act.put, List.getElem_toArray, List.getElem_cons_zero, List.getElem_cons_succ, List.setIfInBounds_toArray, List.set_cons_zero, List.set_cons_succ]
  refine wpAnyH_take (i := 32) (v := undef) rfl (by kernel_rfl) (by kernel_rfl) (by kernel_rfl) (fun _ _ _ h => h) (Or.inr ⟨by rfl, rfl⟩) hHeld ?_
  try simp only [Act.put, List.getElem_toArray, List.getElem_cons_zero, List.getElem_cons_succ, List.setIfInBounds_toArray, List.set_cons_zero, List.set_cons_succ]
  refine wpAnyH_take (i := 33) (v := undef) rfl (by kernel_rfl) (by kernel_rfl) (by kernel_rfl) (fun _ _ _ h => h) (Or.inr ⟨by rfl, rfl⟩) hHeld ?_
  try simp only [Act.put, List.getElem_toArray, List.getElem_cons_zero, List.getElem_cons_succ, List.setIfInBounds_toArray, List.set_cons_zero, List.set_cons_succ]
  refine wpAnyH_take (i := 34) (v := ?_) rfl (by kernel_rfl) (by kernel_rfl) (by kernel_rfl) (fun _ _ _ h => h) (Or.inl ⟨by rfl, ?_⟩) hHeld ?_
  rotate_left
  · (intro w hSw; (try dsimp only at hSw); go_simp; (try with_reducible rfl))
  try simp only [Act.put, List.getElem_toArray, List.getElem_cons_zero, List.getElem_cons_succ, List.setIfInBounds_toArray, List.set_cons_zero, List.set_cons_succ]
  refine wpAnyH_take (i := 35) (v := ?_) rfl (by kernel_rfl) (by kernel_rfl) (by kernel_rfl) (fun _ _ _ h => h) (Or.inl ⟨by rfl, ?_⟩) hHeld ?_
  rotate_left
  · (intro w hSw; (try dsimp only at hSw); go_simp; (try with_reducible rfl))
  try simp only [Act.put, List.getElem_toArray, List.getElem_cons_zero, List.getElem_cons_succ, List.setIfInBounds_toArray, List.set_cons_zero, List.set_cons_succ]
  refine wpAnyH_take (i := 36) (v := ?_) rfl (by kernel_rfl) (by kernel_rfl) (by kernel_rfl) (fun _ _ _ h => h) (Or.inl ⟨by rfl, ?_⟩) hHeld ?_
  rotate_left
  · (intro w hSw; (try dsimp only at hSw); go_simp; (try with_reducible rfl))
  try simp only [Act.put, List.getElem_toArray, List.getElem_cons_zero, List.getElem_cons_succ, List.setIfInBounds_toArray, List.set_cons_zero, List.set_cons_succ]
  refine wpAnyH_done (by kernel_rfl) ?_ _
  clear hHeld
  go_wp2_with fail
  go_ret
  exact ⟨rfl, cc⟩

set_option maxRecDepth 100000 in
set_option maxHeartbeats 8000000 in
theorem RatOrder_Aneg {w : World} {b0 b1 b2 : Bool} {A0 B0 A1 B1 A2 B2 : Option Addr} {n0 c0 m0 d0 n1 c1 m1 d1 n2 c2 m2 d2 : Nat} {x0 : Rat} (h0 : Rt w b0 A0 n0 c0 B0 m0 d0 x0) (s0 : Sz x0 3) {x1 : Rat} (h1 : Rt w b1 A1 n1 c1 B1 m1 d1 x1) (s1 : Sz x1 3) {x2 : Rat} (h2 : Rt w b2 A2 n2 c2 B2 m2 d2 x2) (s2 : Sz x2 3) (hA : ¬ cmpQ x0 x1 ≤ 0) (hn : 0 < n2) (hb2 : b2 = true) (G0 : ∀ W : World, Below w.heap.size w W → Calls Try.prog 21 #[.agg #[.bool b0, .slice A0 n0 c0, .slice B0 m0 d0], .int .i64 3] W (GotV W (.bool true))) (G1 : ∀ W : World, Below w.heap.size w W → Calls Try.prog 21 #[.agg #[.bool b1, .slice A1 n1 c1, .slice B1 m1 d1], .int .i64 3] W (GotV W (.bool true))) (G2 : ∀ W : World, Below w.heap.size w W → Calls Try.prog 21 #[.agg #[.bool b2, .slice A2 n2 c2, .slice B2 m2 d2], .int .i64 3] W (GotV W (.bool true))) :
    Calls Try.prog 7 #[.agg #[.bool b0, .slice A0 n0 c0, .slice B0 m0 d0], .agg #[.bool b1, .slice A1 n1 c1, .slice B1 m1 d1], .agg #[.bool b2, .slice A2 n2 c2, .slice B2 m2 d2]] w fun e w' => e = .returned (.bool true) ∧ Below w.heap.size w w' := by
  obtain ⟨r0, g0⟩ : ∃ r, ((0 : Int) : Rat) = r := ⟨_, rfl⟩
  have C0 : ∀ W : World, Calls Try.prog 19 #[.int .i64 0] W (GotRt W r0) := fun W => by rw [← g0]; exact qof_N W 0 (by unfold I64; omega)
  have z0 : Sz r0 1 := by rw [← g0]; exact sz_of (len_one (by decide))
  obtain ⟨cx, hcx⟩ : ∃ c, cmpQ x0 x1 = c := ⟨_, rfl⟩
  obtain ⟨c1_, hc1⟩ : ∃ c, cmpQ x1 x2 = c := ⟨_, rfl⟩
  obtain ⟨c2_, hc2⟩ : ∃ c, cmpQ x0 x2 = c := ⟨_, rfl⟩
  obtain ⟨r, hr⟩ : ∃ r : Bool, decide (x0 = x1) = r := ⟨_, rfl⟩
  have hbd := cmpQ_bd x0 x1
  rw [hcx] at hbd
  obtain ⟨d1_, d2_⟩ := hbd
  have t1 : decide (cx < -1) = false := decide_eq_false (by omega)
  have t2 : decide (1 < cx) = false := decide_eq_false (by omega)
  have HC0 := Lib.hid hcx
  have HC1 : Hid (cmpQ x1 x0 = -cx) := Lib.hid (by rw [cmpQ_swap, hcx])
  have HC2 : Hid (cmpQ (x0 + x2) (x1 + x2) = cx) := Lib.hid (by rw [cmpQ_plus, hcx])
  have HC3 : Hid (cmpQ (x0 - x1) r0 = cx) := Lib.hid (by rw [← g0, cmpQ_diff, hcx])
  have HR := Lib.hid hr
  have hq : (cx == 0) = r := by rw [← hcx, cmpQ_same, hr]
  have e0 : IntKind.i64.wrap (-cx) = -cx := IntWalk.i64_in _ (by omega)
  have H1 := Lib.hid hc1
  have H2 := Lib.hid hc2
  have t3 : decide (cx ≤ 0) = false := decide_eq_false (by rw [← hcx]; exact hA)
  have t6 : decide ((0 : Int) < (n2 : Int)) = true := decide_eq_true (by omega)
  subst hb2
  clear hcx hc1 hc2 hr g0 d1_ d2_
  have s02 := s0.add s2
  have s12 := s1.add s2
  have p02 := s0.mul s2
  have p12 := s1.mul s2
  have d01 := s0.sub s1
  have cc := Below.refl w.heap.size w
  go_enter Try.func7, Try.ntmps7
  go_wp2_with fail
  have bA : Below w.heap.size w (((w.alloc (.cells #[.bool b0, .slice A0 n0 c0, .slice B0 m0 d0] 27)).alloc (.cells #[.bool b1, .slice A1 n1 c1, .slice B1 m1 d1] 27)).alloc (.cells #[.bool true, .slice A2 n2 c2, .slice B2 m2 d2] 27)) := ((((Below.refl _ w).alloc (by simp) _).alloc (by simp) _).alloc (by simp <;> omega) _)
  replace h0 := h0.on bA
  replace h1 := h1.on bA
  replace h2 := h2.on bA
  replace cc := cc.trans (bA.mono cc.size)
  clear bA
  have p0 : (((w.alloc (.cells #[.bool b0, .slice A0 n0 c0, .slice B0 m0 d0] 27)).alloc (.cells #[.bool b1, .slice A1 n1 c1, .slice B1 m1 d1] 27)).alloc (.cells #[.bool true, .slice A2 n2 c2, .slice B2 m2 d2] 27)).cell? ⟨w.heap.size, 0, none⟩ = some (.bool b0) := by simp [go_sem]
  have p1 : (((w.alloc (.cells #[.bool b0, .slice A0 n0 c0, .slice B0 m0 d0] 27)).alloc (.cells #[.bool b1, .slice A1 n1 c1, .slice B1 m1 d1] 27)).alloc (.cells #[.bool true, .slice A2 n2 c2, .slice B2 m2 d2] 27)).cell? ⟨w.heap.size, 1, none⟩ = some (.slice A0 n0 c0) := by simp [go_sem]
  have p2 : (((w.alloc (.cells #[.bool b0, .slice A0 n0 c0, .slice B0 m0 d0] 27)).alloc (.cells #[.bool b1, .slice A1 n1 c1, .slice B1 m1 d1] 27)).alloc (.cells #[.bool true, .slice A2 n2 c2, .slice B2 m2 d2] 27)).cell? ⟨w.heap.size, 2, none⟩ = some (.slice B0 m0 d0) := by simp [go_sem]
  have pl : w.heap.size < (((w.alloc (.cells #[.bool b0, .slice A0 n0 c0, .slice B0 m0 d0] 27)).alloc (.cells #[.bool b1, .slice A1 n1 c1, .slice B1 m1 d1] 27)).alloc (.cells #[.bool true, .slice A2 n2 c2, .slice B2 m2 d2] 27)).heap.size := by simp <;> omega
  have q0 : (((w.alloc (.cells #[.bool b0, .slice A0 n0 c0, .slice B0 m0 d0] 27)).alloc (.cells #[.bool b1, .slice A1 n1 c1, .slice B1 m1 d1] 27)).alloc (.cells #[.bool true, .slice A2 n2 c2, .slice B2 m2 d2] 27)).cell? ⟨w.heap.size + 1, 0, none⟩ = some (.bool b1) := by simp [go_sem]
  have q1 : (((w.alloc (.cells #[.bool b0, .slice A0 n0 c0, .slice B0 m0 d0] 27)).alloc (.cells #[.bool b1, .slice A1 n1 c1, .slice B1 m1 d1] 27)).alloc (.cells #[.bool true, .slice A2 n2 c2, .slice B2 m2 d2] 27)).cell? ⟨w.heap.size + 1, 1, none⟩ = some (.slice A1 n1 c1) := by simp [go_sem]
  have q2 : (((w.alloc (.cells #[.bool b0, .slice A0 n0 c0, .slice B0 m0 d0] 27)).alloc (.cells #[.bool b1, .slice A1 n1 c1, .slice B1 m1 d1] 27)).alloc (.cells #[.bool true, .slice A2 n2 c2, .slice B2 m2 d2] 27)).cell? ⟨w.heap.size + 1, 2, none⟩ = some (.slice B1 m1 d1) := by simp [go_sem]
  have ql : w.heap.size + 1 < (((w.alloc (.cells #[.bool b0, .slice A0 n0 c0, .slice B0 m0 d0] 27)).alloc (.cells #[.bool b1, .slice A1 n1 c1, .slice B1 m1 d1] 27)).alloc (.cells #[.bool true, .slice A2 n2 c2, .slice B2 m2 d2] 27)).heap.size := by simp <;> omega
  have r0 : (((w.alloc (.cells #[.bool b0, .slice A0 n0 c0, .slice B0 m0 d0] 27)).alloc (.cells #[.bool b1, .slice A1 n1 c1, .slice B1 m1 d1] 27)).alloc (.cells #[.bool true, .slice A2 n2 c2, .slice B2 m2 d2] 27)).cell? ⟨w.heap.size + 1 + 1, 0, none⟩ = some (.bool true) := by simp [go_sem]
  have r1 : (((w.alloc (.cells #[.bool b0, .slice A0 n0 c0, .slice B0 m0 d0] 27)).alloc (.cells #[.bool b1, .slice A1 n1 c1, .slice B1 m1 d1] 27)).alloc (.cells #[.bool true, .slice A2 n2 c2, .slice B2 m2 d2] 27)).cell? ⟨w.heap.size + 1 + 1, 1, none⟩ = some (.slice A2 n2 c2) := by simp [go_sem]
  have r2 : (((w.alloc (.cells #[.bool b0, .slice A0 n0 c0, .slice B0 m0 d0] 27)).alloc (.cells #[.bool b1, .slice A1 n1 c1, .slice B1 m1 d1] 27)).alloc (.cells #[.bool true, .slice A2 n2 c2, .slice B2 m2 d2] 27)).cell? ⟨w.heap.size + 1 + 1, 2, none⟩ = some (.slice B2 m2 d2) := by simp [go_sem]
  have rl : w.heap.size + 1 + 1 < (((w.alloc (.cells #[.bool b0, .slice A0 n0 c0, .slice B0 m0 d0] 27)).alloc (.cells #[.bool b1, .slice A1 n1 c1, .slice B1 m1 d1] 27)).alloc (.cells #[.bool true, .slice A2 n2 c2, .slice B2 m2 d2] 27)).heap.size := by simp <;> omega
  generalize ((w.alloc (.cells #[.bool b0, .slice A0 n0 c0, .slice B0 m0 d0] 27)).alloc (.cells #[.bool b1, .slice A1 n1 c1, .slice B1 m1 d1] 27)).alloc (.cells #[.bool true, .slice A2 n2 c2, .slice B2 m2 d2] 27) = v1 at *
  refine (G0 _ cc).mono ?_
  rintro e w2 ⟨rfl, b⟩
  replace h0 := h0.on b
  replace h1 := h1.on b
  replace h2 := h2.on b
  replace p0 := (b.cell (p := ⟨w.heap.size, 0, none⟩) pl).trans p0
  replace p1 := (b.cell (p := ⟨w.heap.size, 1, none⟩) pl).trans p1
  replace p2 := (b.cell (p := ⟨w.heap.size, 2, none⟩) pl).trans p2
  replace pl := Nat.lt_of_lt_of_le pl b.size
  replace q0 := (b.cell (p := ⟨w.heap.size + 1, 0, none⟩) ql).trans q0
  replace q1 := (b.cell (p := ⟨w.heap.size + 1, 1, none⟩) ql).trans q1
  replace q2 := (b.cell (p := ⟨w.heap.size + 1, 2, none⟩) ql).trans q2
  replace ql := Nat.lt_of_lt_of_le ql b.size
  replace r0 := (b.cell (p := ⟨w.heap.size + 1 + 1, 0, none⟩) rl).trans r0
  replace r1 := (b.cell (p := ⟨w.heap.size + 1 + 1, 1, none⟩) rl).trans r1
  replace r2 := (b.cell (p := ⟨w.heap.size + 1 + 1, 2, none⟩) rl).trans r2
  replace rl := Nat.lt_of_lt_of_le rl b.size
  replace cc := cc.trans (b.mono cc.size)
  clear b
  go_wp2_with fail
  refine (G1 _ cc).mono ?_
  rintro e w3 ⟨rfl, b⟩
  replace h0 := h0.on b
  replace h1 := h1.on b
  replace h2 := h2.on b
  replace p0 := (b.cell (p := ⟨w.heap.size, 0, none⟩) pl).trans p0
  replace p1 := (b.cell (p := ⟨w.heap.size, 1, none⟩) pl).trans p1
  replace p2 := (b.cell (p := ⟨w.heap.size, 2, none⟩) pl).trans p2
  replace pl := Nat.lt_of_lt_of_le pl b.size
  replace q0 := (b.cell (p := ⟨w.heap.size + 1, 0, none⟩) ql).trans q0
  replace q1 := (b.cell (p := ⟨w.heap.size + 1, 1, none⟩) ql).trans q1
  replace q2 := (b.cell (p := ⟨w.heap.size + 1, 2, none⟩) ql).trans q2
  replace ql := Nat.lt_of_lt_of_le ql b.size
  replace r0 := (b.cell (p := ⟨w.heap.size + 1 + 1, 0, none⟩) rl).trans r0
  replace r1 := (b.cell (p := ⟨w.heap.size + 1 + 1, 1, none⟩) rl).trans r1
  replace r2 := (b.cell (p := ⟨w.heap.size + 1 + 1, 2, none⟩) rl).trans r2
  replace rl := Nat.lt_of_lt_of_le rl b.size
  replace cc := cc.trans (b.mono cc.size)
  clear b
  go_wp2_with fail
  refine (G2 _ cc).mono ?_
  rintro e w4 ⟨rfl, b⟩
  replace h0 := h0.on b
  replace h1 := h1.on b
  replace h2 := h2.on b
  replace p0 := (b.cell (p := ⟨w.heap.size, 0, none⟩) pl).trans p0
  replace p1 := (b.cell (p := ⟨w.heap.size, 1, none⟩) pl).trans p1
  replace p2 := (b.cell (p := ⟨w.heap.size, 2, none⟩) pl).trans p2
  replace pl := Nat.lt_of_lt_of_le pl b.size
  replace q0 := (b.cell (p := ⟨w.heap.size + 1, 0, none⟩) ql).trans q0
  replace q1 := (b.cell (p := ⟨w.heap.size + 1, 1, none⟩) ql).trans q1
  replace q2 := (b.cell (p := ⟨w.heap.size + 1, 2, none⟩) ql).trans q2
  replace ql := Nat.lt_of_lt_of_le ql b.size
  replace r0 := (b.cell (p := ⟨w.heap.size + 1 + 1, 0, none⟩) rl).trans r0
  replace r1 := (b.cell (p := ⟨w.heap.size + 1 + 1, 1, none⟩) rl).trans r1
  replace r2 := (b.cell (p := ⟨w.heap.size + 1 + 1, 2, none⟩) rl).trans r2
  replace rl := Nat.lt_of_lt_of_le rl b.size
  replace cc := cc.trans (b.mono cc.size)
  clear b
  go_wp2_with fail
  refine (qcmp_v cx h0 (s0.le (by omega)) h1 (s1.le (by omega)) HC0.out).mono ?_
  rintro e w5 ⟨rfl, b⟩
  replace h0 := h0.on b
  replace h1 := h1.on b
  replace h2 := h2.on b
  replace p0 := (b.cell (p := ⟨w.heap.size, 0, none⟩) pl).trans p0
  replace p1 := (b.cell (p := ⟨w.heap.size, 1, none⟩) pl).trans p1
  replace p2 := (b.cell (p := ⟨w.heap.size, 2, none⟩) pl).trans p2
  replace pl := Nat.lt_of_lt_of_le pl b.size
  replace q0 := (b.cell (p := ⟨w.heap.size + 1, 0, none⟩) ql).trans q0
  replace q1 := (b.cell (p := ⟨w.heap.size + 1, 1, none⟩) ql).trans q1
  replace q2 := (b.cell (p := ⟨w.heap.size + 1, 2, none⟩) ql).trans q2
  replace ql := Nat.lt_of_lt_of_le ql b.size
  replace r0 := (b.cell (p := ⟨w.heap.size + 1 + 1, 0, none⟩) rl).trans r0
  replace r1 := (b.cell (p := ⟨w.heap.size + 1 + 1, 1, none⟩) rl).trans r1
  replace r2 := (b.cell (p := ⟨w.heap.size + 1 + 1, 2, none⟩) rl).trans r2
  replace rl := Nat.lt_of_lt_of_le rl b.size
  replace cc := cc.trans (b.mono cc.size)
  clear b
  go_wp2_with fail
  refine (qcmp_v (-cx) h1 (s1.le (by omega)) h0 (s0.le (by omega)) HC1.out).mono ?_
  rintro e w6 ⟨rfl, b⟩
  replace h0 := h0.on b
  replace h1 := h1.on b
  replace h2 := h2.on b
  replace p0 := (b.cell (p := ⟨w.heap.size, 0, none⟩) pl).trans p0
  replace p1 := (b.cell (p := ⟨w.heap.size, 1, none⟩) pl).trans p1
  replace p2 := (b.cell (p := ⟨w.heap.size, 2, none⟩) pl).trans p2
  replace pl := Nat.lt_of_lt_of_le pl b.size
  replace q0 := (b.cell (p := ⟨w.heap.size + 1, 0, none⟩) ql).trans q0
  replace q1 := (b.cell (p := ⟨w.heap.size + 1, 1, none⟩) ql).trans q1
  replace q2 := (b.cell (p := ⟨w.heap.size + 1, 2, none⟩) ql).trans q2
  replace ql := Nat.lt_of_lt_of_le ql b.size
  replace r0 := (b.cell (p := ⟨w.heap.size + 1 + 1, 0, none⟩) rl).trans r0
  replace r1 := (b.cell (p := ⟨w.heap.size + 1 + 1, 1, none⟩) rl).trans r1
  replace r2 := (b.cell (p := ⟨w.heap.size + 1 + 1, 2, none⟩) rl).trans r2
  replace rl := Nat.lt_of_lt_of_le rl b.size
  replace cc := cc.trans (b.mono cc.size)
  clear b
  go_wp2_with fail
  refine (rtsame_N h0 (s0.le (by omega)) h1 (s1.le (by omega)) r HR.out).mono ?_
  rintro e w7 ⟨rfl, b⟩
  replace h0 := h0.on b
  replace h1 := h1.on b
  replace h2 := h2.on b
  replace p0 := (b.cell (p := ⟨w.heap.size, 0, none⟩) pl).trans p0
  replace p1 := (b.cell (p := ⟨w.heap.size, 1, none⟩) pl).trans p1
  replace p2 := (b.cell (p := ⟨w.heap.size, 2, none⟩) pl).trans p2
  replace pl := Nat.lt_of_lt_of_le pl b.size
  replace q0 := (b.cell (p := ⟨w.heap.size + 1, 0, none⟩) ql).trans q0
  replace q1 := (b.cell (p := ⟨w.heap.size + 1, 1, none⟩) ql).trans q1
  replace q2 := (b.cell (p := ⟨w.heap.size + 1, 2, none⟩) ql).trans q2
  replace ql := Nat.lt_of_lt_of_le ql b.size
  replace r0 := (b.cell (p := ⟨w.heap.size + 1 + 1, 0, none⟩) rl).trans r0
  replace r1 := (b.cell (p := ⟨w.heap.size + 1 + 1, 1, none⟩) rl).trans r1
  replace r2 := (b.cell (p := ⟨w.heap.size + 1 + 1, 2, none⟩) rl).trans r2
  replace rl := Nat.lt_of_lt_of_le rl b.size
  replace cc := cc.trans (b.mono cc.size)
  clear b
  go_wp2_with fail
  have bD : Below w7.heap.size w7 w7.drew := below_drewN (Below.refl _ w7) 1
  replace h0 := h0.on bD
  replace h1 := h1.on bD
  replace h2 := h2.on bD
  replace p0 := (bD.cell (p := ⟨w.heap.size, 0, none⟩) pl).trans p0
  replace p1 := (bD.cell (p := ⟨w.heap.size, 1, none⟩) pl).trans p1
  replace p2 := (bD.cell (p := ⟨w.heap.size, 2, none⟩) pl).trans p2
  replace pl := Nat.lt_of_lt_of_le pl bD.size
  replace q0 := (bD.cell (p := ⟨w.heap.size + 1, 0, none⟩) ql).trans q0
  replace q1 := (bD.cell (p := ⟨w.heap.size + 1, 1, none⟩) ql).trans q1
  replace q2 := (bD.cell (p := ⟨w.heap.size + 1, 2, none⟩) ql).trans q2
  replace ql := Nat.lt_of_lt_of_le ql bD.size
  replace r0 := (bD.cell (p := ⟨w.heap.size + 1 + 1, 0, none⟩) rl).trans r0
  replace r1 := (bD.cell (p := ⟨w.heap.size + 1 + 1, 1, none⟩) rl).trans r1
  replace r2 := (bD.cell (p := ⟨w.heap.size + 1 + 1, 2, none⟩) rl).trans r2
  replace rl := Nat.lt_of_lt_of_le rl bD.size
  replace cc := cc.trans (bD.mono cc.size)
  clear bD
  refine wp_region_held_drew (S := fun w' => w'.cell? ⟨w.heap.size, 0, none⟩ = some (.bool b0) ∧ w'.cell? ⟨w.heap.size, 1, none⟩ = some (.slice A0 n0 c0) ∧ w'.cell? ⟨w.heap.size, 2, none⟩ = some (.slice B0 m0 d0) ∧ w'.cell? ⟨w.heap.size + 1, 0, none⟩ = some (.bool b1) ∧ w'.cell? ⟨w.heap.size + 1, 1, none⟩ = some (.slice A1 n1 c1) ∧ w'.cell? ⟨w.heap.size + 1, 2, none⟩ = some (.slice B1 m1 d1) ∧ w'.cell? ⟨w.heap.size + 1 + 1, 0, none⟩ = some (.bool true) ∧ w'.cell? ⟨w.heap.size + 1 + 1, 1, none⟩ = some (.slice A2 n2 c2) ∧ w'.cell? ⟨w.heap.size + 1 + 1, 2, none⟩ = some (.slice B2 m2 d2)) (by kernel_rfl) ?_ (fun hHeld => ?_)
  · exact ⟨p0, p1, p2, q0, q1, q2, r0, r1, r2⟩
  refine wpAnyH_ready (rs := [0]) (by kernel_rfl) (by simp) ?_
  refine AllReadyH.cons rfl (fun K hK => ?_) AllReadyH.nil
  (try simp only [List.getElem_toArray, List.getElem_cons_zero, List.getElem_cons_succ])
  rw [if_pos (by rfl)]
  go_simp
  go_at_call 12
  refine (alive5_any _).mono ?_
  rintro e w8 ⟨rfl, b⟩
  replace h0 := h0.on b
  replace h1 := h1.on b
  replace h2 := h2.on b
  replace p0 := (b.cell (p := ⟨w.heap.size, 0, none⟩) pl).trans p0
  replace p1 := (b.cell (p := ⟨w.heap.size, 1, none⟩) pl).trans p1
  replace p2 := (b.cell (p := ⟨w.heap.size, 2, none⟩) pl).trans p2
  replace pl := Nat.lt_of_lt_of_le pl b.size
  replace q0 := (b.cell (p := ⟨w.heap.size + 1, 0, none⟩) ql).trans q0
  replace q1 := (b.cell (p := ⟨w.heap.size + 1, 1, none⟩) ql).trans q1
  replace q2 := (b.cell (p := ⟨w.heap.size + 1, 2, none⟩) ql).trans q2
  replace ql := Nat.lt_of_lt_of_le ql b.size
  replace r0 := (b.cell (p := ⟨w.heap.size + 1 + 1, 0, none⟩) rl).trans r0
  replace r1 := (b.cell (p := ⟨w.heap.size + 1 + 1, 1, none⟩) rl).trans r1
  replace r2 := (b.cell (p := ⟨w.heap.size + 1 + 1, 2, none⟩) rl).trans r2
  replace rl := Nat.lt_of_lt_of_le rl b.size
  replace cc := cc.trans (b.mono cc.size)
  clear b
  refine hK.out _ _ ?_ (fun hHeld => ?_)
  · exact ⟨p0, p1, p2, q0, q1, q2, r0, r1, r2⟩
  clear hK K
  try simp only [Act.put, List.getElem_toArray, List.getElem_cons_zero, List.getElem_cons_succ, List.setIfInBounds_toArray, List.set_cons_zero, List.set_cons_succ]
  refine wpAnyH_take (i := 1) (v := ?_) rfl (by kernel_rfl) (by kernel_rfl) (by kernel_rfl) (fun _ _ _ h => h) (Or.inl ⟨by rfl, ?_⟩) hHeld ?_
  rotate_left
  · (intro w hSw; (try dsimp only at hSw); go_simp; (try with_reducible rfl))
  try simp only [Act.put, List.getElem_toArray, List.getElem_cons_zero, List.getElem_cons_succ, List.setIfInBounds_toArray, List.set_cons_zero, List.set_cons_succ]
  refine wpAnyH_take (i := 2) (v := ?_) rfl (by kernel_rfl) (by kernel_rfl) (by kernel_rfl) (fun _ _ _ h => h) (Or.inl ⟨by rfl, ?_⟩) hHeld ?_
  rotate_left
  · (intro w hSw; (try dsimp only at hSw); go_simp; (try with_reducible rfl))
  try simp only [Act.put, List.getElem_toArray, List.getElem_cons_zero, List.getElem_cons_succ, List.setIfInBounds_toArray, List.set_cons_zero, List.set_cons_succ]
  refine wpAnyH_take (i := 3) (v := ?_) rfl (by kernel_rfl) (by kernel_rfl) (by kernel_rfl) (fun _ _ _ h => h) (Or.inl ⟨by rfl, ?_⟩) hHeld ?_
  rotate_left
  · (intro w hSw; (try dsimp only at hSw); go_simp; (try with_reducible rfl))
  try simp only [Act.put, List.getElem_toArray, List.getElem_cons_zero, List.getElem_cons_succ, List.setIfInBounds_toArray, List.set_cons_zero, List.set_cons_succ]
  refine wpAnyH_take (i := 5) (v := ?_) rfl (by kernel_rfl) (by kernel_rfl) (by kernel_rfl) (fun _ _ _ h => h) (Or.inl ⟨by rfl, ?_⟩) hHeld ?_
  rotate_left
  · (intro w hSw; (try dsimp only at hSw); go_simp; (try with_reducible rfl))
  try simp only [Act.put, List.getElem_toArray, List.getElem_cons_zero, List.getElem_cons_succ, List.setIfInBounds_toArray, List.set_cons_zero, List.set_cons_succ]
  refine wpAnyH_take (i := 6) (v := ?_) rfl (by kernel_rfl) (by kernel_rfl) (by kernel_rfl) (fun _ _ _ h => h) (Or.inl ⟨by rfl, ?_⟩) hHeld ?_
  rotate_left
  · (intro w hSw; (try dsimp only at hSw); go_simp; (try with_reducible rfl))
  try simp only [Act.put, List.getElem_toArray, List.getElem_cons_zero, List.getElem_cons_succ, List.setIfInBounds_toArray, List.set_cons_zero, List.set_cons_succ]
  refine wpAnyH_take (i := 9) (v := ?_) rfl (by kernel_rfl) (by kernel_rfl) (by kernel_rfl) (fun _ _ _ h => h) (Or.inl ⟨by rfl, ?_⟩) hHeld ?_
  rotate_left
  · (intro w hSw; (try dsimp only at hSw); go_simp; (try with_reducible rfl))
  try simp only [Act.put, List.getElem_toArray, List.getElem_cons_zero, List.getElem_cons_succ, List.setIfInBounds_toArray, List.set_cons_zero, List.set_cons_succ]
  refine wpAnyH_ready (rs := [4]) (by kernel_rfl) (by simp) ?_
  refine AllReadyH.cons rfl (fun K hK => ?_) AllReadyH.nil
  (try simp only [List.getElem_toArray, List.getElem_cons_zero, List.getElem_cons_succ])
  rw [if_pos (by rfl)]
  go_simp
  go_at_call 24
  refine (qadd_N h0 (s0.le (by omega)) h2 (s2.le (by omega))).mono ?_
  rintro e w9 ⟨bfa, Afa, nfa, cfa, Bfa, mfa, dfa, rfl, fa, b⟩
  replace h0 := h0.on b
  replace h1 := h1.on b
  replace h2 := h2.on b
  replace p0 := (b.cell (p := ⟨w.heap.size, 0, none⟩) pl).trans p0
  replace p1 := (b.cell (p := ⟨w.heap.size, 1, none⟩) pl).trans p1
  replace p2 := (b.cell (p := ⟨w.heap.size, 2, none⟩) pl).trans p2
  replace pl := Nat.lt_of_lt_of_le pl b.size
  replace q0 := (b.cell (p := ⟨w.heap.size + 1, 0, none⟩) ql).trans q0
  replace q1 := (b.cell (p := ⟨w.heap.size + 1, 1, none⟩) ql).trans q1
  replace q2 := (b.cell (p := ⟨w.heap.size + 1, 2, none⟩) ql).trans q2
  replace ql := Nat.lt_of_lt_of_le ql b.size
  replace r0 := (b.cell (p := ⟨w.heap.size + 1 + 1, 0, none⟩) rl).trans r0
  replace r1 := (b.cell (p := ⟨w.heap.size + 1 + 1, 1, none⟩) rl).trans r1
  replace r2 := (b.cell (p := ⟨w.heap.size + 1 + 1, 2, none⟩) rl).trans r2
  replace rl := Nat.lt_of_lt_of_le rl b.size
  replace cc := cc.trans (b.mono cc.size)
  clear b
  refine hK.out _ _ ?_ (fun hHeld => ?_)
  · exact ⟨p0, p1, p2, q0, q1, q2, r0, r1, r2⟩
  clear hK K
  try simp only [Act.put, List.getElem_toArray, List.getElem_cons_zero, List.getElem_cons_succ, List.setIfInBounds_toArray, List.set_cons_zero, List.set_cons_succ]
  refine wpAnyH_ready (rs := [7]) (by kernel_rfl) (by simp) ?_
  refine AllReadyH.cons rfl (fun K hK => ?_) AllReadyH.nil
  (try simp only [List.getElem_toArray, List.getElem_cons_zero, List.getElem_cons_succ])
  rw [if_pos (by rfl)]
  go_simp
  go_at_call 24
  refine (qadd_N h1 (s1.le (by omega)) h2 (s2.le (by omega))).mono ?_
  rintro e w10 ⟨bfb, Afb, nfb, cfb, Bfb, mfb, dfb, rfl, fb, b⟩
  replace h0 := h0.on b
  replace h1 := h1.on b
  replace h2 := h2.on b
  replace fa := fa.on b
  replace p0 := (b.cell (p := ⟨w.heap.size, 0, none⟩) pl).trans p0
  replace p1 := (b.cell (p := ⟨w.heap.size, 1, none⟩) pl).trans p1
  replace p2 := (b.cell (p := ⟨w.heap.size, 2, none⟩) pl).trans p2
  replace pl := Nat.lt_of_lt_of_le pl b.size
  replace q0 := (b.cell (p := ⟨w.heap.size + 1, 0, none⟩) ql).trans q0
  replace q1 := (b.cell (p := ⟨w.heap.size + 1, 1, none⟩) ql).trans q1
  replace q2 := (b.cell (p := ⟨w.heap.size + 1, 2, none⟩) ql).trans q2
  replace ql := Nat.lt_of_lt_of_le ql b.size
  replace r0 := (b.cell (p := ⟨w.heap.size + 1 + 1, 0, none⟩) rl).trans r0
  replace r1 := (b.cell (p := ⟨w.heap.size + 1 + 1, 1, none⟩) rl).trans r1
  replace r2 := (b.cell (p := ⟨w.heap.size + 1 + 1, 2, none⟩) rl).trans r2
  replace rl := Nat.lt_of_lt_of_le rl b.size
  replace cc := cc.trans (b.mono cc.size)
  clear b
  refine hK.out _ _ ?_ (fun hHeld => ?_)
  · exact ⟨p0, p1, p2, q0, q1, q2, r0, r1, r2⟩
  clear hK K
  try simp only [Act.put, List.getElem_toArray, List.getElem_cons_zero, List.getElem_cons_succ, List.setIfInBounds_toArray, List.set_cons_zero, List.set_cons_succ]
  refine wpAnyH_ready (rs := [8]) (by kernel_rfl) (by simp) ?_
  refine AllReadyH.cons rfl (fun K hK => ?_) AllReadyH.nil
  (try simp only [List.getElem_toArray, List.getElem_cons_zero, List.getElem_cons_succ])
  rw [if_pos (by rfl)]
  go_simp
  go_at_call 30
  refine (qcmp_v cx fa (s02.le (by omega)) fb (s12.le (by omega)) HC2.out).mono ?_
  rintro e w11 ⟨rfl, b⟩
  replace h0 := h0.on b
  replace h1 := h1.on b
  replace h2 := h2.on b
  replace fa := fa.on b
  replace fb := fb.on b
  replace p0 := (b.cell (p := ⟨w.heap.size, 0, none⟩) pl).trans p0
  replace p1 := (b.cell (p := ⟨w.heap.size, 1, none⟩) pl).trans p1
  replace p2 := (b.cell (p := ⟨w.heap.size, 2, none⟩) pl).trans p2
  replace pl := Nat.lt_of_lt_of_le pl b.size
  replace q0 := (b.cell (p := ⟨w.heap.size + 1, 0, none⟩) ql).trans q0
  replace q1 := (b.cell (p := ⟨w.heap.size + 1, 1, none⟩) ql).trans q1
  replace q2 := (b.cell (p := ⟨w.heap.size + 1, 2, none⟩) ql).trans q2
  replace ql := Nat.lt_of_lt_of_le ql b.size
  replace r0 := (b.cell (p := ⟨w.heap.size + 1 + 1, 0, none⟩) rl).trans r0
  replace r1 := (b.cell (p := ⟨w.heap.size + 1 + 1, 1, none⟩) rl).trans r1
  replace r2 := (b.cell (p := ⟨w.heap.size + 1 + 1, 2, none⟩) rl).trans r2
  replace rl := Nat.lt_of_lt_of_le rl b.size
  replace cc := cc.trans (b.mono cc.size)
  clear b
  refine hK.out _ _ ?_ (fun hHeld => ?_)
  · exact ⟨p0, p1, p2, q0, q1, q2, r0, r1, r2⟩
  clear hK K
  try simp only [Act.put, List.getElem_toArray, List.getElem_cons_zero, List.getElem_cons_succ, List.setIfInBounds_toArray, List.set_cons_zero, List.set_cons_succ]
  refine wpAnyH_take (i := 10) (v := ?_) rfl (by kernel_rfl) (by kernel_rfl) (by kernel_rfl) (fun _ _ _ h => h) (Or.inl ⟨by rfl, ?_⟩) hHeld ?_
  rotate_left
  · (intro w hSw; (try dsimp only at hSw); go_simp; (try with_reducible rfl))
  try simp only [Act.put, List.getElem_toArray, List.getElem_cons_zero, List.getElem_cons_succ, List.setIfInBounds_toArray, List.set_cons_zero, List.set_cons_succ]
  refine wpAnyH_take (i := 11) (v := ?_) rfl (by kernel_rfl) (by kernel_rfl) (by kernel_rfl) (fun _ _ _ h => h) (Or.inl ⟨by rfl, ?_⟩) hHeld ?_
  rotate_left
  · (intro w hSw; (try dsimp only at hSw); go_simp; (try with_reducible rfl))
  try simp only [Act.put, List.getElem_toArray, List.getElem_cons_zero, List.getElem_cons_succ, List.setIfInBounds_toArray, List.set_cons_zero, List.set_cons_succ]
  refine wpAnyH_take (i := 12) (v := ?_) rfl (by kernel_rfl) (by kernel_rfl) (by kernel_rfl) (fun _ _ _ h => h) (Or.inl ⟨by rfl, ?_⟩) hHeld ?_
  rotate_left
  · (intro w hSw; (try dsimp only at hSw); go_simp; (try with_reducible rfl))
  try simp only [Act.put, List.getElem_toArray, List.getElem_cons_zero, List.getElem_cons_succ, List.setIfInBounds_toArray, List.set_cons_zero, List.set_cons_succ]
  refine wpAnyH_take (i := 13) (v := ?_) rfl (by kernel_rfl) (by kernel_rfl) (by kernel_rfl) (fun _ _ _ h => h) (Or.inl ⟨by rfl, ?_⟩) hHeld ?_
  rotate_left
  · (intro w hSw; (try dsimp only at hSw); go_simp; (try with_reducible rfl))
  try simp only [Act.put, List.getElem_toArray, List.getElem_cons_zero, List.getElem_cons_succ, List.setIfInBounds_toArray, List.set_cons_zero, List.set_cons_succ]
  refine wpAnyH_take (i := 14) (v := ?_) rfl (by kernel_rfl) (by kernel_rfl) (by kernel_rfl) (fun _ _ _ h => h) (Or.inl ⟨by rfl, ?_⟩) hHeld ?_
  rotate_left
  · (intro w hSw; (try dsimp only at hSw); go_simp; (try with_reducible rfl))
  try simp only [Act.put, List.getElem_toArray, List.getElem_cons_zero, List.getElem_cons_succ, List.setIfInBounds_toArray, List.set_cons_zero, List.set_cons_succ]
  refine wpAnyH_take (i := 18) (v := ?_) rfl (by kernel_rfl) (by kernel_rfl) (by kernel_rfl) (fun _ _ _ h => h) (Or.inl ⟨by rfl, ?_⟩) hHeld ?_
  rotate_left
  · (intro w hSw; (try dsimp only at hSw); go_simp; (try with_reducible rfl))
  try simp only [Act.put, List.getElem_toArray, List.getElem_cons_zero, List.getElem_cons_succ, List.setIfInBounds_toArray, List.set_cons_zero, List.set_cons_succ]
  refine wpAnyH_ready (rs := [15]) (by kernel_rfl) (by simp) ?_
  refine AllReadyH.cons rfl (fun K hK => ?_) AllReadyH.nil
  (try simp only [List.getElem_toArray, List.getElem_cons_zero, List.getElem_cons_succ])
  rw [if_pos (by rfl)]
  go_simp
  go_at_call 26
  refine (qsub_N h0 (s0.le (by omega)) h1 (s1.le (by omega))).mono ?_
  rintro e w12 ⟨bfc, Afc, nfc, cfc, Bfc, mfc, dfc, rfl, fc, b⟩
  replace h0 := h0.on b
  replace h1 := h1.on b
  replace h2 := h2.on b
  replace fa := fa.on b
  replace fb := fb.on b
  replace p0 := (b.cell (p := ⟨w.heap.size, 0, none⟩) pl).trans p0
  replace p1 := (b.cell (p := ⟨w.heap.size, 1, none⟩) pl).trans p1
  replace p2 := (b.cell (p := ⟨w.heap.size, 2, none⟩) pl).trans p2
  replace pl := Nat.lt_of_lt_of_le pl b.size
  replace q0 := (b.cell (p := ⟨w.heap.size + 1, 0, none⟩) ql).trans q0
  replace q1 := (b.cell (p := ⟨w.heap.size + 1, 1, none⟩) ql).trans q1
  replace q2 := (b.cell (p := ⟨w.heap.size + 1, 2, none⟩) ql).trans q2
  replace ql := Nat.lt_of_lt_of_le ql b.size
  replace r0 := (b.cell (p := ⟨w.heap.size + 1 + 1, 0, none⟩) rl).trans r0
  replace r1 := (b.cell (p := ⟨w.heap.size + 1 + 1, 1, none⟩) rl).trans r1
  replace r2 := (b.cell (p := ⟨w.heap.size + 1 + 1, 2, none⟩) rl).trans r2
  replace rl := Nat.lt_of_lt_of_le rl b.size
  replace cc := cc.trans (b.mono cc.size)
  clear b
  refine hK.out _ _ ?_ (fun hHeld => ?_)
  · exact ⟨p0, p1, p2, q0, q1, q2, r0, r1, r2⟩
  clear hK K
  try simp only [Act.put, List.getElem_toArray, List.getElem_cons_zero, List.getElem_cons_succ, List.setIfInBounds_toArray, List.set_cons_zero, List.set_cons_succ]
  refine wpAnyH_ready (rs := [16]) (by kernel_rfl) (by simp) ?_
  refine AllReadyH.cons rfl (fun K hK => ?_) AllReadyH.nil
  (try simp only [List.getElem_toArray, List.getElem_cons_zero, List.getElem_cons_succ])
  rw [if_pos (by rfl)]
  go_simp
  go_at_call 19
  refine (C0 _).mono ?_
  rintro e w13 ⟨bfd, Afd, nfd, cfd, Bfd, mfd, dfd, rfl, fd, b⟩
  replace h0 := h0.on b
  replace h1 := h1.on b
  replace h2 := h2.on b
  replace fa := fa.on b
  replace fb := fb.on b
  replace fc := fc.on b
  replace p0 := (b.cell (p := ⟨w.heap.size, 0, none⟩) pl).trans p0
  replace p1 := (b.cell (p := ⟨w.heap.size, 1, none⟩) pl).trans p1
  replace p2 := (b.cell (p := ⟨w.heap.size, 2, none⟩) pl).trans p2
  replace pl := Nat.lt_of_lt_of_le pl b.size
  replace q0 := (b.cell (p := ⟨w.heap.size + 1, 0, none⟩) ql).trans q0
  replace q1 := (b.cell (p := ⟨w.heap.size + 1, 1, none⟩) ql).trans q1
  replace q2 := (b.cell (p := ⟨w.heap.size + 1, 2, none⟩) ql).trans q2
  replace ql := Nat.lt_of_lt_of_le ql b.size
  replace r0 := (b.cell (p := ⟨w.heap.size + 1 + 1, 0, none⟩) rl).trans r0
  replace r1 := (b.cell (p := ⟨w.heap.size + 1 + 1, 1, none⟩) rl).trans r1
  replace r2 := (b.cell (p := ⟨w.heap.size + 1 + 1, 2, none⟩) rl).trans r2
  replace rl := Nat.lt_of_lt_of_le rl b.size
  replace cc := cc.trans (b.mono cc.size)
  clear b
  refine hK.out _ _ ?_ (fun hHeld => ?_)
  · exact ⟨p0, p1, p2, q0, q1, q2, r0, r1, r2⟩
  clear hK K
  try simp only [Act.put, List.getElem_toArray, List.getElem_cons_zero, List.getElem_cons_succ, List.setIfInBounds_toArray, List.set_cons_zero, List.set_cons_succ]
  refine wpAnyH_ready (rs := [17]) (by kernel_rfl) (by simp) ?_
  refine AllReadyH.cons rfl (fun K hK => ?_) AllReadyH.nil
  (try simp only [List.getElem_toArray, List.getElem_cons_zero, List.getElem_cons_succ])
  rw [if_pos (by rfl)]
  go_simp
  go_at_call 30
  refine (qcmp_v cx fc (d01.le (by omega)) fd (z0.le (by omega)) HC3.out).mono ?_
  rintro e w14 ⟨rfl, b⟩
  replace h0 := h0.on b
  replace h1 := h1.on b
  replace h2 := h2.on b
  replace fa := fa.on b
  replace fb := fb.on b
  replace fc := fc.on b
  replace fd := fd.on b
  replace p0 := (b.cell (p := ⟨w.heap.size, 0, none⟩) pl).trans p0
  replace p1 := (b.cell (p := ⟨w.heap.size, 1, none⟩) pl).trans p1
  replace p2 := (b.cell (p := ⟨w.heap.size, 2, none⟩) pl).trans p2
  replace pl := Nat.lt_of_lt_of_le pl b.size
  replace q0 := (b.cell (p := ⟨w.heap.size + 1, 0, none⟩) ql).trans q0
  replace q1 := (b.cell (p := ⟨w.heap.size + 1, 1, none⟩) ql).trans q1
  replace q2 := (b.cell (p := ⟨w.heap.size + 1, 2, none⟩) ql).trans q2
  replace ql := Nat.lt_of_lt_of_le ql b.size
  replace r0 := (b.cell (p := ⟨w.heap.size + 1 + 1, 0, none⟩) rl).trans r0
  replace r1 := (b.cell (p := ⟨w.heap.size + 1 + 1, 1, none⟩) rl).trans r1
  replace r2 := (b.cell (p := ⟨w.heap.size + 1 + 1, 2, none⟩) rl).trans r2
  replace rl := Nat.lt_of_lt_of_le rl b.size
  replace cc := cc.trans (b.mono cc.size)
  clear b
  refine hK.out _ _ ?_ (fun hHeld => ?_)
  · exact ⟨p0, p1, p2, q0, q1, q2, r0, r1, r2⟩
  clear hK K
  try simp only [Act.put, List.getElem_toArray, List.getElem_cons_zero, List.getElem_cons_succ, List.setIfInBounds_toArray, List.set_cons_zero, List.set_cons_succ]
  refine wpAnyH_take (i := 19) (v := ?_) rfl (by kernel_rfl) (by kernel_rfl) (by kernel_rfl) (fun _ _ _ h => h) (Or.inl ⟨by rfl, ?_⟩) hHeld ?_
  rotate_left
  · (intro w hSw; (try dsimp only at hSw); go_simp; (try with_reducible rfl))
  try simp only [Act.put, List.getElem_toArray, List.getElem_cons_zero, List.getElem_cons_succ, List.setIfInBounds_toArray, List.set_cons_zero, List.set_cons_succ]
  refine wpAnyH_take (i := 20) (v := ?_) rfl (by kernel_rfl) (by kernel_rfl) (by kernel_rfl) (fun _ _ _ h => h) (Or.inl ⟨by rfl, ?_⟩) hHeld ?_
  rotate_left
  · (intro w hSw; (try dsimp only at hSw); go_simp; (try with_reducible rfl))
  try simp only [Act.put, List.getElem_toArray, List.getElem_cons_zero, List.getElem_cons_succ, List.setIfInBounds_toArray, List.set_cons_zero, List.set_cons_succ]
  refine wpAnyH_take (i := 21) (v := ?_) rfl (by kernel_rfl) (by kernel_rfl) (by kernel_rfl) (fun _ _ _ h => h) (Or.inl ⟨by rfl, ?_⟩) hHeld ?_
  rotate_left
  · (intro w hSw; (try dsimp only at hSw); go_simp; (try with_reducible rfl))
  try simp only [Act.put, List.getElem_toArray, List.getElem_cons_zero, List.getElem_cons_succ, List.setIfInBounds_toArray, List.set_cons_zero, List.set_cons_succ]
  refine wpAnyH_take (i := 22) (v := ?_) rfl (by kernel_rfl) (by kernel_rfl) (by kernel_rfl) (fun _ _ _ h => h) (Or.inl ⟨by rfl, ?_⟩) hHeld ?_
  rotate_left
  · (intro w hSw; (try dsimp only at hSw); go_simp; (try with_reducible rfl))
  try simp only [Act.put, List.getElem_toArray, List.getElem_cons_zero, List.getElem_cons_succ, List.setIfInBounds_toArray, List.set_cons_zero, List.set_cons_succ]
  refine wpAnyH_take (i := 23) (v := ?_) rfl (by kernel_rfl) (by kernel_rfl) (by kernel_rfl) (fun _ _ _ h => h) (Or.inl ⟨by rfl, ?_⟩) hHeld ?_
  rotate_left
  · (intro w hSw; (try dsimp only at hSw); go_simp; (try with_reducible rfl))
  try simp only [Act.put, List.getElem_toArray, List.getElem_cons_zero, List.getElem_cons_succ, List.setIfInBounds_toArray, List.set_cons_zero, List.set_cons_succ]
  refine wpAnyH_take (i := 24) (v := ?_) rfl (by kernel_rfl) (by kernel_rfl) (by kernel_rfl) (fun _ _ _ h => h) (Or.inl ⟨by rfl, ?_⟩) hHeld ?_
  rotate_left
  · (intro w hSw; (try dsimp only at hSw); go_simp; (try with_reducible rfl))
  try simp only [Act.put, List.getElem_toArray, List.getElem_cons_zero, List.getElem_cons_succ, List.setIfInBounds_toArray, List.set_cons_zero, List.set_cons_succ]
  refine wpAnyH_take (i := 25) (v := undef) rfl (by kernel_rfl) (by kernel_rfl) (by kernel_rfl) (fun _ _ _ h => h) (Or.inr ⟨by rfl, rfl⟩) hHeld ?_
  try simp only [Act.put, List.getElem_toArray, List.getElem_cons_zero, List.getElem_cons_succ, List.setIfInBounds_toArray, List.set_cons_zero, List.set_cons_succ]
  refine wpAnyH_take (i := 26) (v := undef) rfl (by kernel_rfl) (by kernel_rfl) (by kernel_rfl) (fun _ _ _ h => h) (Or.inr ⟨by rfl, rfl⟩) hHeld ?_
  try simp only [Act.put, List.getElem_toArray, List.getElem_cons_zero, List.getElem_cons_succ, List.setIfInBounds_toArray, List.set_cons_zero, List.set_cons_succ]
  refine wpAnyH_take (i := 27) (v := undef) rfl (by kernel_rfl) (by kernel_rfl) (by kernel_rfl) (fun _ _ _ h => h) (Or.inr ⟨by rfl, rfl⟩) hHeld ?_
  try simp only [Act.put, List.getElem_toArray, List.getElem_cons_zero, List.getElem_cons_succ, List.setIfInBounds_toArray, List.set_cons_zero, List.set_cons_succ]
  refine wpAnyH_take (i := 28) (v := undef) rfl (by kernel_rfl) (by kernel_rfl) (by kernel_rfl) (fun _ _ _ h => h) (Or.inr ⟨by rfl, rfl⟩) hHeld ?_
  try simp only [Act.put, List.getElem_toArray, List.getElem_cons_zero, List.getElem_cons_succ, List.setIfInBounds_toArray, List.set_cons_zero, List.set_cons_succ]
  refine wpAnyH_take (i := 29) (v := undef) rfl (by kernel_rfl) (by kernel_rfl) (by kernel_rfl) (fun _ _ _ h => h) (Or.inr ⟨by rfl, rfl⟩) hHeld ?_
  try simp only [Act.put, List.getElem_toArray, List.getElem_cons_zero, List.getElem_cons_succ, List.setIfInBounds_toArray, List.set_cons_zero, List.set_cons_succ]
  refine wpAnyH_take (i := 30) (v := undef) rfl (by kernel_rfl) (by kernel_rfl) (by kernel_rfl) (fun _ _ _ h => h) (Or.inr ⟨by rfl, rfl⟩) hHeld ?_
  try simp only [Act.put, List.getElem_toArray, List.getElem_cons_zero, List.getElem_cons_succ, List.setIfInBounds_toArray, List.set_cons_zero, List.set_cons_succ]
  refine wpAnyH_take (i := 31) (v := undef) rfl (by kernel_rfl) (by kernel_rfl) (by kernel_rfl) (fun _ _ _ h => h) (Or.inr ⟨by rfl, rfl⟩) hHeld ?_
  try simp only [Act.put, List.getElem_toArray, List.getElem_cons_zero, List.getElem_cons_succ, List.setIfInBounds_toArray, List.set_cons_zero, List.set_cons_succ]
  refine wpAnyH_take (i := 32) (v := undef) rfl (by kernel_rfl) (by kernel_rfl) (by kernel_rfl) (fun _ _ _ h => h) (Or.inr ⟨by rfl, rfl⟩) hHeld ?_
  try simp only [Act.put, List.getElem_toArray, List.getElem_cons_zero, List.getElem_cons_succ, List.setIfInBounds_toArray, List.set_cons_zero, List.set_cons_succ]
  refine wpAnyH_take (i := 33) (v := undef) rfl (by kernel_rfl) (by kernel_rfl) (by kernel_rfl) (fun _ _ _ h => h) (Or.inr ⟨by rfl, rfl⟩) hHeld ?_
  try simp only [Act.put, List.getElem_toArray, List.getElem_cons_zero, List.getElem_cons_succ, List.setIfInBounds_toArray, List.set_cons_zero, List.set_cons_succ]
  refine wpAnyH_take (i := 34) (v := ?_) rfl (by kernel_rfl) (by kernel_rfl) (by kernel_rfl) (fun _ _ _ h => h) (Or.inl ⟨by rfl, ?_⟩) hHeld ?_
  rotate_left
  · (intro w hSw; (try dsimp only at hSw); go_simp; (try with_reducible rfl))
  try simp only [Act.put, List.getElem_toArray, List.getElem_cons_zero, List.getElem_cons_succ, List.setIfInBounds_toArray, List.set_cons_zero, List.set_cons_succ]
  refine wpAnyH_take (i := 35) (v := ?_) rfl (by kernel_rfl) (by kernel_rfl) (by kernel_rfl) (fun _ _ _ h => h) (Or.inl ⟨by rfl, ?_⟩) hHeld ?_
  rotate_left
  · (intro w hSw; (try dsimp only at hSw); go_simp; (try with_reducible rfl))
  try simp only [Act.put, List.getElem_toArray, List.getElem_cons_zero, List.getElem_cons_succ, List.setIfInBounds_toArray, List.set_cons_zero, List.set_cons_succ]
  refine wpAnyH_take (i := 36) (v := ?_) rfl (by kernel_rfl) (by kernel_rfl) (by kernel_rfl) (fun _ _ _ h => h) (Or.inl ⟨by rfl, ?_⟩) hHeld ?_
  rotate_left
  · (intro w hSw; (try dsimp only at hSw); go_simp; (try with_reducible rfl))
  try simp only [Act.put, List.getElem_toArray, List.getElem_cons_zero, List.getElem_cons_succ, List.setIfInBounds_toArray, List.set_cons_zero, List.set_cons_succ]
  refine wpAnyH_done (by kernel_rfl) ?_ _
  clear hHeld
  go_wp2_with fail
  go_ret
  exact ⟨rfl, cc⟩

end Go.Proofs.Ytgnhioffamfakaa
