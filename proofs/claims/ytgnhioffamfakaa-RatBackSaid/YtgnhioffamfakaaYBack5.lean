/-
  The walk of RatBack.
-/
import Derived.Test.YtgnhioffamfakaaA9
namespace Go.Proofs.Ytgnhioffamfakaa
open Go.RowKit
set_option linter.unusedVariables false

set_option maxRecDepth 100000 in
set_option maxHeartbeats 8000000 in
theorem RatBack_no0 {w : World} {b0 b1 : Bool} {A0 B0 A1 B1 : Option Addr} {n0 c0 m0 d0 n1 c1 m1 d1 : Nat} (G0 : ∀ W : World, Below w.heap.size w W → Calls Try.prog 21 #[.agg #[.bool b0, .slice A0 n0 c0, .slice B0 m0 d0], .int .i64 4] W (GotV W (.bool false))) :
    Calls Try.prog 6 #[.agg #[.bool b0, .slice A0 n0 c0, .slice B0 m0 d0], .agg #[.bool b1, .slice A1 n1 c1, .slice B1 m1 d1]] w fun e w' => e = .returned (.bool true) ∧ Below w.heap.size w w' := by
  have cc := Below.refl w.heap.size w
  go_enter Try.func6, Try.ntmps6
  go_wp2_with fail
  have bA : Below w.heap.size w ((w.alloc (.cells #[.bool b0, .slice A0 n0 c0, .slice B0 m0 d0] 27)).alloc (.cells #[.bool b1, .slice A1 n1 c1, .slice B1 m1 d1] 27)) := (((Below.refl _ w).alloc (by simp) _).alloc (by simp) _)
  replace cc := cc.trans (bA.mono cc.size)
  clear bA
  have p0 : ((w.alloc (.cells #[.bool b0, .slice A0 n0 c0, .slice B0 m0 d0] 27)).alloc (.cells #[.bool b1, .slice A1 n1 c1, .slice B1 m1 d1] 27)).cell? ⟨w.heap.size, 0, none⟩ = some (.bool b0) := by simp [go_sem]
  have p1 : ((w.alloc (.cells #[.bool b0, .slice A0 n0 c0, .slice B0 m0 d0] 27)).alloc (.cells #[.bool b1, .slice A1 n1 c1, .slice B1 m1 d1] 27)).cell? ⟨w.heap.size, 1, none⟩ = some (.slice A0 n0 c0) := by simp [go_sem]
  have p2 : ((w.alloc (.cells #[.bool b0, .slice A0 n0 c0, .slice B0 m0 d0] 27)).alloc (.cells #[.bool b1, .slice A1 n1 c1, .slice B1 m1 d1] 27)).cell? ⟨w.heap.size, 2, none⟩ = some (.slice B0 m0 d0) := by simp [go_sem]
  have pl : w.heap.size < ((w.alloc (.cells #[.bool b0, .slice A0 n0 c0, .slice B0 m0 d0] 27)).alloc (.cells #[.bool b1, .slice A1 n1 c1, .slice B1 m1 d1] 27)).heap.size := by simp <;> omega
  have q0 : ((w.alloc (.cells #[.bool b0, .slice A0 n0 c0, .slice B0 m0 d0] 27)).alloc (.cells #[.bool b1, .slice A1 n1 c1, .slice B1 m1 d1] 27)).cell? ⟨w.heap.size + 1, 0, none⟩ = some (.bool b1) := by simp [go_sem]
  have q1 : ((w.alloc (.cells #[.bool b0, .slice A0 n0 c0, .slice B0 m0 d0] 27)).alloc (.cells #[.bool b1, .slice A1 n1 c1, .slice B1 m1 d1] 27)).cell? ⟨w.heap.size + 1, 1, none⟩ = some (.slice A1 n1 c1) := by simp [go_sem]
  have q2 : ((w.alloc (.cells #[.bool b0, .slice A0 n0 c0, .slice B0 m0 d0] 27)).alloc (.cells #[.bool b1, .slice A1 n1 c1, .slice B1 m1 d1] 27)).cell? ⟨w.heap.size + 1, 2, none⟩ = some (.slice B1 m1 d1) := by simp [go_sem]
  have ql : w.heap.size + 1 < ((w.alloc (.cells #[.bool b0, .slice A0 n0 c0, .slice B0 m0 d0] 27)).alloc (.cells #[.bool b1, .slice A1 n1 c1, .slice B1 m1 d1] 27)).heap.size := by simp <;> omega
  generalize (w.alloc (.cells #[.bool b0, .slice A0 n0 c0, .slice B0 m0 d0] 27)).alloc (.cells #[.bool b1, .slice A1 n1 c1, .slice B1 m1 d1] 27) = v1 at *
  refine (G0 _ cc).mono ?_
  rintro e w2 ⟨rfl, b⟩
  replace p0 := (b.cell (p := ⟨w.heap.size, 0, none⟩) pl).trans p0
  replace p1 := (b.cell (p := ⟨w.heap.size, 1, none⟩) pl).trans p1
  replace p2 := (b.cell (p := ⟨w.heap.size, 2, none⟩) pl).trans p2
  replace pl := Nat.lt_of_lt_of_le pl b.size
  replace q0 := (b.cell (p := ⟨w.heap.size + 1, 0, none⟩) ql).trans q0
  replace q1 := (b.cell (p := ⟨w.heap.size + 1, 1, none⟩) ql).trans q1
  replace q2 := (b.cell (p := ⟨w.heap.size + 1, 2, none⟩) ql).trans q2
  replace ql := Nat.lt_of_lt_of_le ql b.size
  replace cc := cc.trans (b.mono cc.size)
  clear b
  go_wp2_with fail
  refine (alive5_any _).mono ?_
  rintro e w3 ⟨rfl, b⟩
  replace p0 := (b.cell (p := ⟨w.heap.size, 0, none⟩) pl).trans p0
  replace p1 := (b.cell (p := ⟨w.heap.size, 1, none⟩) pl).trans p1
  replace p2 := (b.cell (p := ⟨w.heap.size, 2, none⟩) pl).trans p2
  replace pl := Nat.lt_of_lt_of_le pl b.size
  replace q0 := (b.cell (p := ⟨w.heap.size + 1, 0, none⟩) ql).trans q0
  replace q1 := (b.cell (p := ⟨w.heap.size + 1, 1, none⟩) ql).trans q1
  replace q2 := (b.cell (p := ⟨w.heap.size + 1, 2, none⟩) ql).trans q2
  replace ql := Nat.lt_of_lt_of_le ql b.size
  replace cc := cc.trans (b.mono cc.size)
  clear b
  go_wp2_with fail
  go_ret
  exact ⟨rfl, cc⟩

set_option maxRecDepth 100000 in
set_option maxHeartbeats 8000000 in
theorem RatBack_no1 {w : World} {b0 b1 : Bool} {A0 B0 A1 B1 : Option Addr} {n0 c0 m0 d0 n1 c1 m1 d1 : Nat} (G0 : ∀ W : World, Below w.heap.size w W → Calls Try.prog 21 #[.agg #[.bool b0, .slice A0 n0 c0, .slice B0 m0 d0], .int .i64 4] W (GotV W (.bool true))) (G1 : ∀ W : World, Below w.heap.size w W → Calls Try.prog 21 #[.agg #[.bool b1, .slice A1 n1 c1, .slice B1 m1 d1], .int .i64 4] W (GotV W (.bool false))) :
    Calls Try.prog 6 #[.agg #[.bool b0, .slice A0 n0 c0, .slice B0 m0 d0], .agg #[.bool b1, .slice A1 n1 c1, .slice B1 m1 d1]] w fun e w' => e = .returned (.bool true) ∧ Below w.heap.size w w' := by
  have cc := Below.refl w.heap.size w
  go_enter Try.func6, Try.ntmps6
  go_wp2_with fail
  have bA : Below w.heap.size w ((w.alloc (.cells #[.bool b0, .slice A0 n0 c0, .slice B0 m0 d0] 27)).alloc (.cells #[.bool b1, .slice A1 n1 c1, .slice B1 m1 d1] 27)) := (((Below.refl _ w).alloc (by simp) _).alloc (by simp) _)
  replace cc := cc.trans (bA.mono cc.size)
  clear bA
  have p0 : ((w.alloc (.cells #[.bool b0, .slice A0 n0 c0, .slice B0 m0 d0] 27)).alloc (.cells #[.bool b1, .slice A1 n1 c1, .slice B1 m1 d1] 27)).cell? ⟨w.heap.size, 0, none⟩ = some (.bool b0) := by simp [go_sem]
  have p1 : ((w.alloc (.cells #[.bool b0, .slice A0 n0 c0, .slice B0 m0 d0] 27)).alloc (.cells #[.bool b1, .slice A1 n1 c1, .slice B1 m1 d1] 27)).cell? ⟨w.heap.size, 1, none⟩ = some (.slice A0 n0 c0) := by simp [go_sem]
  have p2 : ((w.alloc (.cells #[.bool b0, .slice A0 n0 c0, .slice B0 m0 d0] 27)).alloc (.cells #[.bool b1, .slice A1 n1 c1, .slice B1 m1 d1] 27)).cell? ⟨w.heap.size, 2, none⟩ = some (.slice B0 m0 d0) := by simp [go_sem]
  have pl : w.heap.size < ((w.alloc (.cells #[.bool b0, .slice A0 n0 c0, .slice B0 m0 d0] 27)).alloc (.cells #[.bool b1, .slice A1 n1 c1, .slice B1 m1 d1] 27)).heap.size := by simp <;> omega
  have q0 : ((w.alloc (.cells #[.bool b0, .slice A0 n0 c0, .slice B0 m0 d0] 27)).alloc (.cells #[.bool b1, .slice A1 n1 c1, .slice B1 m1 d1] 27)).cell? ⟨w.heap.size + 1, 0, none⟩ = some (.bool b1) := by simp [go_sem]
  have q1 : ((w.alloc (.cells #[.bool b0, .slice A0 n0 c0, .slice B0 m0 d0] 27)).alloc (.cells #[.bool b1, .slice A1 n1 c1, .slice B1 m1 d1] 27)).cell? ⟨w.heap.size + 1, 1, none⟩ = some (.slice A1 n1 c1) := by simp [go_sem]
  have q2 : ((w.alloc (.cells #[.bool b0, .slice A0 n0 c0, .slice B0 m0 d0] 27)).alloc (.cells #[.bool b1, .slice A1 n1 c1, .slice B1 m1 d1] 27)).cell? ⟨w.heap.size + 1, 2, none⟩ = some (.slice B1 m1 d1) := by simp [go_sem]
  have ql : w.heap.size + 1 < ((w.alloc (.cells #[.bool b0, .slice A0 n0 c0, .slice B0 m0 d0] 27)).alloc (.cells #[.bool b1, .slice A1 n1 c1, .slice B1 m1 d1] 27)).heap.size := by simp <;> omega
  generalize (w.alloc (.cells #[.bool b0, .slice A0 n0 c0, .slice B0 m0 d0] 27)).alloc (.cells #[.bool b1, .slice A1 n1 c1, .slice B1 m1 d1] 27) = v1 at *
  refine (G0 _ cc).mono ?_
  rintro e w2 ⟨rfl, b⟩
  replace p0 := (b.cell (p := ⟨w.heap.size, 0, none⟩) pl).trans p0
  replace p1 := (b.cell (p := ⟨w.heap.size, 1, none⟩) pl).trans p1
  replace p2 := (b.cell (p := ⟨w.heap.size, 2, none⟩) pl).trans p2
  replace pl := Nat.lt_of_lt_of_le pl b.size
  replace q0 := (b.cell (p := ⟨w.heap.size + 1, 0, none⟩) ql).trans q0
  replace q1 := (b.cell (p := ⟨w.heap.size + 1, 1, none⟩) ql).trans q1
  replace q2 := (b.cell (p := ⟨w.heap.size + 1, 2, none⟩) ql).trans q2
  replace ql := Nat.lt_of_lt_of_le ql b.size
  replace cc := cc.trans (b.mono cc.size)
  clear b
  go_wp2_with fail
  refine (G1 _ cc).mono ?_
  rintro e w3 ⟨rfl, b⟩
  replace p0 := (b.cell (p := ⟨w.heap.size, 0, none⟩) pl).trans p0
  replace p1 := (b.cell (p := ⟨w.heap.size, 1, none⟩) pl).trans p1
  replace p2 := (b.cell (p := ⟨w.heap.size, 2, none⟩) pl).trans p2
  replace pl := Nat.lt_of_lt_of_le pl b.size
  replace q0 := (b.cell (p := ⟨w.heap.size + 1, 0, none⟩) ql).trans q0
  replace q1 := (b.cell (p := ⟨w.heap.size + 1, 1, none⟩) ql).trans q1
  replace q2 := (b.cell (p := ⟨w.heap.size + 1, 2, none⟩) ql).trans q2
  replace ql := Nat.lt_of_lt_of_le ql b.size
  replace cc := cc.trans (b.mono cc.size)
  clear b
  go_wp2_with fail
  refine (alive5_any _).mono ?_
  rintro e w4 ⟨rfl, b⟩
  replace p0 := (b.cell (p := ⟨w.heap.size, 0, none⟩) pl).trans p0
  replace p1 := (b.cell (p := ⟨w.heap.size, 1, none⟩) pl).trans p1
  replace p2 := (b.cell (p := ⟨w.heap.size, 2, none⟩) pl).trans p2
  replace pl := Nat.lt_of_lt_of_le pl b.size
  replace q0 := (b.cell (p := ⟨w.heap.size + 1, 0, none⟩) ql).trans q0
  replace q1 := (b.cell (p := ⟨w.heap.size + 1, 1, none⟩) ql).trans q1
  replace q2 := (b.cell (p := ⟨w.heap.size + 1, 2, none⟩) ql).trans q2
  replace ql := Nat.lt_of_lt_of_le ql b.size
  replace cc := cc.trans (b.mono cc.size)
  clear b
  go_wp2_with fail
  go_ret
  exact ⟨rfl, cc⟩

set_option maxRecDepth 100000 in
set_option maxHeartbeats 8000000 in
theorem RatBack_ok {w : World} {b0 b1 : Bool} {A0 B0 A1 B1 : Option Addr} {n0 c0 m0 d0 n1 c1 m1 d1 : Nat} {x0 : Rat} (h0 : Rt w b0 A0 n0 c0 B0 m0 d0 x0) (s0 : Sz x0 4) {x1 : Rat} (h1 : Rt w b1 A1 n1 c1 B1 m1 d1 x1) (s1 : Sz x1 4) (hne : x1.num ≠ 0) (G0 : ∀ W : World, Below w.heap.size w W → Calls Try.prog 21 #[.agg #[.bool b0, .slice A0 n0 c0, .slice B0 m0 d0], .int .i64 4] W (GotV W (.bool true))) (G1 : ∀ W : World, Below w.heap.size w W → Calls Try.prog 21 #[.agg #[.bool b1, .slice A1 n1 c1, .slice B1 m1 d1], .int .i64 4] W (GotV W (.bool true))) :
    Calls Try.prog 6 #[.agg #[.bool b0, .slice A0 n0 c0, .slice B0 m0 d0], .agg #[.bool b1, .slice A1 n1 c1, .slice B1 m1 d1]] w fun e w' => e = .returned (.bool true) ∧ Below w.heap.size w w' := by
  obtain ⟨r0, g0⟩ : ∃ r, ((0 : Int) : Rat) = r := ⟨_, rfl⟩
  obtain ⟨r1, g1⟩ : ∃ r, ((1 : Int) : Rat) = r := ⟨_, rfl⟩
  have C0 : ∀ W : World, Calls Try.prog 19 #[.int .i64 0] W (GotRt W r0) := fun W => by rw [← g0]; exact qof_N W 0 (by unfold I64; omega)
  have C1 : ∀ W : World, Calls Try.prog 19 #[.int .i64 1] W (GotRt W r1) := fun W => by rw [← g1]; exact qof_N W 1 (by unfold I64; omega)
  have z0 : Sz r0 1 := by rw [← g0]; exact sz_of (len_one (by decide))
  have z1 : Sz r1 1 := by rw [← g1]; exact sz_of (len_one (by decide))
  have e1 : Hid (x0 + x1 - x1 = x0) := Lib.hid (by grind)
  have e2 : Hid (x0 - r0 = x0) := Lib.hid (by rw [← g0]; exact q2 x0)
  have e3 : Hid (x0 * r1 = x0) := Lib.hid (by rw [← g1]; exact q3 x0)
  clear g0 g1
  have s01 := s0.add s1
  have p01 := s0.mul s1
  have t1 := s01.sub s1
  have t2 := s0.sub z0
  have t3 := s0.mul z1
  have e4 : Hid (x0 * x1 / x1 = x0) := Lib.hid (q4 x0 x1 (fun e => hne (by rw [e]; rfl)))
  have q01 := p01.div s1 hne
  have hn0 : ((n1 : Int) == 0) = false := beq_eq_false_iff_ne.2 (by have := h1.1.1.some_len (show x1.num.natAbs ≠ 0 by omega); omega)
  have cc := Below.refl w.heap.size w
  go_enter Try.func6, Try.ntmps6
  go_wp2_with fail
  have bA : Below w.heap.size w ((w.alloc (.cells #[.bool b0, .slice A0 n0 c0, .slice B0 m0 d0] 27)).alloc (.cells #[.bool b1, .slice A1 n1 c1, .slice B1 m1 d1] 27)) := (((Below.refl _ w).alloc (by simp) _).alloc (by simp) _)
  replace h0 := h0.on bA
  replace h1 := h1.on bA
  replace cc := cc.trans (bA.mono cc.size)
  clear bA
  have p0 : ((w.alloc (.cells #[.bool b0, .slice A0 n0 c0, .slice B0 m0 d0] 27)).alloc (.cells #[.bool b1, .slice A1 n1 c1, .slice B1 m1 d1] 27)).cell? ⟨w.heap.size, 0, none⟩ = some (.bool b0) := by simp [go_sem]
  have p1 : ((w.alloc (.cells #[.bool b0, .slice A0 n0 c0, .slice B0 m0 d0] 27)).alloc (.cells #[.bool b1, .slice A1 n1 c1, .slice B1 m1 d1] 27)).cell? ⟨w.heap.size, 1, none⟩ = some (.slice A0 n0 c0) := by simp [go_sem]
  have p2 : ((w.alloc (.cells #[.bool b0, .slice A0 n0 c0, .slice B0 m0 d0] 27)).alloc (.cells #[.bool b1, .slice A1 n1 c1, .slice B1 m1 d1] 27)).cell? ⟨w.heap.size, 2, none⟩ = some (.slice B0 m0 d0) := by simp [go_sem]
  have pl : w.heap.size < ((w.alloc (.cells #[.bool b0, .slice A0 n0 c0, .slice B0 m0 d0] 27)).alloc (.cells #[.bool b1, .slice A1 n1 c1, .slice B1 m1 d1] 27)).heap.size := by simp <;> omega
  have q0 : ((w.alloc (.cells #[.bool b0, .slice A0 n0 c0, .slice B0 m0 d0] 27)).alloc (.cells #[.bool b1, .slice A1 n1 c1, .slice B1 m1 d1] 27)).cell? ⟨w.heap.size + 1, 0, none⟩ = some (.bool b1) := by simp [go_sem]
  have q1 : ((w.alloc (.cells #[.bool b0, .slice A0 n0 c0, .slice B0 m0 d0] 27)).alloc (.cells #[.bool b1, .slice A1 n1 c1, .slice B1 m1 d1] 27)).cell? ⟨w.heap.size + 1, 1, none⟩ = some (.slice A1 n1 c1) := by simp [go_sem]
  have q2 : ((w.alloc (.cells #[.bool b0, .slice A0 n0 c0, .slice B0 m0 d0] 27)).alloc (.cells #[.bool b1, .slice A1 n1 c1, .slice B1 m1 d1] 27)).cell? ⟨w.heap.size + 1, 2, none⟩ = some (.slice B1 m1 d1) := by simp [go_sem]
  have ql : w.heap.size + 1 < ((w.alloc (.cells #[.bool b0, .slice A0 n0 c0, .slice B0 m0 d0] 27)).alloc (.cells #[.bool b1, .slice A1 n1 c1, .slice B1 m1 d1] 27)).heap.size := by simp <;> omega
  generalize (w.alloc (.cells #[.bool b0, .slice A0 n0 c0, .slice B0 m0 d0] 27)).alloc (.cells #[.bool b1, .slice A1 n1 c1, .slice B1 m1 d1] 27) = v1 at *
  refine (G0 _ cc).mono ?_
  rintro e w2 ⟨rfl, b⟩
  replace h0 := h0.on b
  replace h1 := h1.on b
  replace p0 := (b.cell (p := ⟨w.heap.size, 0, none⟩) pl).trans p0
  replace p1 := (b.cell (p := ⟨w.heap.size, 1, none⟩) pl).trans p1
  replace p2 := (b.cell (p := ⟨w.heap.size, 2, none⟩) pl).trans p2
  replace pl := Nat.lt_of_lt_of_le pl b.size
  replace q0 := (b.cell (p := ⟨w.heap.size + 1, 0, none⟩) ql).trans q0
  replace q1 := (b.cell (p := ⟨w.heap.size + 1, 1, none⟩) ql).trans q1
  replace q2 := (b.cell (p := ⟨w.heap.size + 1, 2, none⟩) ql).trans q2
  replace ql := Nat.lt_of_lt_of_le ql b.size
  replace cc := cc.trans (b.mono cc.size)
  clear b
  go_wp2_with fail
  refine (G1 _ cc).mono ?_
  rintro e w3 ⟨rfl, b⟩
  replace h0 := h0.on b
  replace h1 := h1.on b
  replace p0 := (b.cell (p := ⟨w.heap.size, 0, none⟩) pl).trans p0
  replace p1 := (b.cell (p := ⟨w.heap.size, 1, none⟩) pl).trans p1
  replace p2 := (b.cell (p := ⟨w.heap.size, 2, none⟩) pl).trans p2
  replace pl := Nat.lt_of_lt_of_le pl b.size
  replace q0 := (b.cell (p := ⟨w.heap.size + 1, 0, none⟩) ql).trans q0
  replace q1 := (b.cell (p := ⟨w.heap.size + 1, 1, none⟩) ql).trans q1
  replace q2 := (b.cell (p := ⟨w.heap.size + 1, 2, none⟩) ql).trans q2
  replace ql := Nat.lt_of_lt_of_le ql b.size
  replace cc := cc.trans (b.mono cc.size)
  clear b
  go_upto_region 3 with fail
  go_cut [5, 6] (fun u ue wx => ∃ (g : Nat) (b : Bool) (A : Option Addr) (n c : Nat) (B : Option Addr) (m d : Nat), u = .pointer (some ⟨g, 0, none⟩) ∧ ue = .int .i64 0 ∧ LoneR w3 wx g b A n c B m d (x0 * x1 / x1))
  case first =>
    have BB0 : Below w3.heap.size w3 w3.drew := below_drewN (Below.refl _ w3) 1
    have BB1 : Below w3.heap.size w3 (w3.alloc (.cells #[.bool false, .slice none 0 0, .slice none 0 0] 27)).drew := below_drewN (below_one _ _) 1
    go_region_held3 (fun w' => w'.cell? ⟨w.heap.size, 0, none⟩ = some (.bool b0) ∧ w'.cell? ⟨w.heap.size, 1, none⟩ = some (.slice A0 n0 c0) ∧ w'.cell? ⟨w.heap.size, 2, none⟩ = some (.slice B0 m0 d0) ∧ w'.cell? ⟨w.heap.size + 1, 0, none⟩ = some (.bool b1) ∧ w'.cell? ⟨w.heap.size + 1, 1, none⟩ = some (.slice A1 n1 c1) ∧ w'.cell? ⟨w.heap.size + 1, 2, none⟩ = some (.slice B1 m1 d1))
      (first | with_reducible exact ⟨p0, p1, p2, q0, q1, q2⟩ | with_reducible exact ⟨keep_alloc (p0), keep_alloc (p1), keep_alloc (p2), keep_alloc (q0), keep_alloc (q1), keep_alloc (q2)⟩ | with_reducible exact ⟨keep_alloc (keep_alloc (p0)), keep_alloc (keep_alloc (p1)), keep_alloc (keep_alloc (p2)), keep_alloc (keep_alloc (q0)), keep_alloc (keep_alloc (q1)), keep_alloc (keep_alloc (q2))⟩ | with_reducible exact ⟨((qq.cell (p := ⟨w.heap.size, 0, none⟩) pl).trans p0), ((qq.cell (p := ⟨w.heap.size, 1, none⟩) pl).trans p1), ((qq.cell (p := ⟨w.heap.size, 2, none⟩) pl).trans p2), ((qq.cell (p := ⟨w.heap.size + 1, 0, none⟩) ql).trans q0), ((qq.cell (p := ⟨w.heap.size + 1, 1, none⟩) ql).trans q1), ((qq.cell (p := ⟨w.heap.size + 1, 2, none⟩) ql).trans q2)⟩ | with_reducible exact ⟨keep_alloc (((qq.cell (p := ⟨w.heap.size, 0, none⟩) pl).trans p0)), keep_alloc (((qq.cell (p := ⟨w.heap.size, 1, none⟩) pl).trans p1)), keep_alloc (((qq.cell (p := ⟨w.heap.size, 2, none⟩) pl).trans p2)), keep_alloc (((qq.cell (p := ⟨w.heap.size + 1, 0, none⟩) ql).trans q0)), keep_alloc (((qq.cell (p := ⟨w.heap.size + 1, 1, none⟩) ql).trans q1)), keep_alloc (((qq.cell (p := ⟨w.heap.size + 1, 2, none⟩) ql).trans q2))⟩ | with_reducible exact ⟨keep_alloc (keep_alloc (((qq.cell (p := ⟨w.heap.size, 0, none⟩) pl).trans p0))), keep_alloc (keep_alloc (((qq.cell (p := ⟨w.heap.size, 1, none⟩) pl).trans p1))), keep_alloc (keep_alloc (((qq.cell (p := ⟨w.heap.size, 2, none⟩) pl).trans p2))), keep_alloc (keep_alloc (((qq.cell (p := ⟨w.heap.size + 1, 0, none⟩) ql).trans q0))), keep_alloc (keep_alloc (((qq.cell (p := ⟨w.heap.size + 1, 1, none⟩) ql).trans q1))), keep_alloc (keep_alloc (((qq.cell (p := ⟨w.heap.size + 1, 2, none⟩) ql).trans q2)))⟩ | with_reducible exact ⟨((cell_putR (by omega)).trans ((qq.cell (p := ⟨w.heap.size, 0, none⟩) pl).trans p0)), ((cell_putR (by omega)).trans ((qq.cell (p := ⟨w.heap.size, 1, none⟩) pl).trans p1)), ((cell_putR (by omega)).trans ((qq.cell (p := ⟨w.heap.size, 2, none⟩) pl).trans p2)), ((cell_putR (by omega)).trans ((qq.cell (p := ⟨w.heap.size + 1, 0, none⟩) ql).trans q0)), ((cell_putR (by omega)).trans ((qq.cell (p := ⟨w.heap.size + 1, 1, none⟩) ql).trans q1)), ((cell_putR (by omega)).trans ((qq.cell (p := ⟨w.heap.size + 1, 2, none⟩) ql).trans q2))⟩ | with_reducible exact ⟨((cell_store (by omega)).trans ((qq.cell (p := ⟨w.heap.size, 0, none⟩) pl).trans p0)), ((cell_store (by omega)).trans ((qq.cell (p := ⟨w.heap.size, 1, none⟩) pl).trans p1)), ((cell_store (by omega)).trans ((qq.cell (p := ⟨w.heap.size, 2, none⟩) pl).trans p2)), ((cell_store (by omega)).trans ((qq.cell (p := ⟨w.heap.size + 1, 0, none⟩) ql).trans q0)), ((cell_store (by omega)).trans ((qq.cell (p := ⟨w.heap.size + 1, 1, none⟩) ql).trans q1)), ((cell_store (by omega)).trans ((qq.cell (p := ⟨w.heap.size + 1, 2, none⟩) ql).trans q2))⟩ | with_reducible exact ⟨keep_alloc (((cell_putR (by omega)).trans ((qq.cell (p := ⟨w.heap.size, 0, none⟩) pl).trans p0))), keep_alloc (((cell_putR (by omega)).trans ((qq.cell (p := ⟨w.heap.size, 1, none⟩) pl).trans p1))), keep_alloc (((cell_putR (by omega)).trans ((qq.cell (p := ⟨w.heap.size, 2, none⟩) pl).trans p2))), keep_alloc (((cell_putR (by omega)).trans ((qq.cell (p := ⟨w.heap.size + 1, 0, none⟩) ql).trans q0))), keep_alloc (((cell_putR (by omega)).trans ((qq.cell (p := ⟨w.heap.size + 1, 1, none⟩) ql).trans q1))), keep_alloc (((cell_putR (by omega)).trans ((qq.cell (p := ⟨w.heap.size + 1, 2, none⟩) ql).trans q2)))⟩ | with_reducible exact ⟨keep_alloc (((cell_store (by omega)).trans ((qq.cell (p := ⟨w.heap.size, 0, none⟩) pl).trans p0))), keep_alloc (((cell_store (by omega)).trans ((qq.cell (p := ⟨w.heap.size, 1, none⟩) pl).trans p1))), keep_alloc (((cell_store (by omega)).trans ((qq.cell (p := ⟨w.heap.size, 2, none⟩) pl).trans p2))), keep_alloc (((cell_store (by omega)).trans ((qq.cell (p := ⟨w.heap.size + 1, 0, none⟩) ql).trans q0))), keep_alloc (((cell_store (by omega)).trans ((qq.cell (p := ⟨w.heap.size + 1, 1, none⟩) ql).trans q1))), keep_alloc (((cell_store (by omega)).trans ((qq.cell (p := ⟨w.heap.size + 1, 2, none⟩) ql).trans q2)))⟩ | with_reducible exact ⟨keep_alloc (keep_alloc (((cell_putR (by omega)).trans ((qq.cell (p := ⟨w.heap.size, 0, none⟩) pl).trans p0)))), keep_alloc (keep_alloc (((cell_putR (by omega)).trans ((qq.cell (p := ⟨w.heap.size, 1, none⟩) pl).trans p1)))), keep_alloc (keep_alloc (((cell_putR (by omega)).trans ((qq.cell (p := ⟨w.heap.size, 2, none⟩) pl).trans p2)))), keep_alloc (keep_alloc (((cell_putR (by omega)).trans ((qq.cell (p := ⟨w.heap.size + 1, 0, none⟩) ql).trans q0)))), keep_alloc (keep_alloc (((cell_putR (by omega)).trans ((qq.cell (p := ⟨w.heap.size + 1, 1, none⟩) ql).trans q1)))), keep_alloc (keep_alloc (((cell_putR (by omega)).trans ((qq.cell (p := ⟨w.heap.size + 1, 2, none⟩) ql).trans q2))))⟩ | with_reducible exact ⟨keep_alloc (keep_alloc (((cell_store (by omega)).trans ((qq.cell (p := ⟨w.heap.size, 0, none⟩) pl).trans p0)))), keep_alloc (keep_alloc (((cell_store (by omega)).trans ((qq.cell (p := ⟨w.heap.size, 1, none⟩) pl).trans p1)))), keep_alloc (keep_alloc (((cell_store (by omega)).trans ((qq.cell (p := ⟨w.heap.size, 2, none⟩) pl).trans p2)))), keep_alloc (keep_alloc (((cell_store (by omega)).trans ((qq.cell (p := ⟨w.heap.size + 1, 0, none⟩) ql).trans q0)))), keep_alloc (keep_alloc (((cell_store (by omega)).trans ((qq.cell (p := ⟨w.heap.size + 1, 1, none⟩) ql).trans q1)))), keep_alloc (keep_alloc (((cell_store (by omega)).trans ((qq.cell (p := ⟨w.heap.size + 1, 2, none⟩) ql).trans q2))))⟩ | with_reducible exact ⟨((cell_putR (by omega)).trans ((cell_putR (by omega)).trans ((qq.cell (p := ⟨w.heap.size, 0, none⟩) pl).trans p0))), ((cell_putR (by omega)).trans ((cell_putR (by omega)).trans ((qq.cell (p := ⟨w.heap.size, 1, none⟩) pl).trans p1))), ((cell_putR (by omega)).trans ((cell_putR (by omega)).trans ((qq.cell (p := ⟨w.heap.size, 2, none⟩) pl).trans p2))), ((cell_putR (by omega)).trans ((cell_putR (by omega)).trans ((qq.cell (p := ⟨w.heap.size + 1, 0, none⟩) ql).trans q0))), ((cell_putR (by omega)).trans ((cell_putR (by omega)).trans ((qq.cell (p := ⟨w.heap.size + 1, 1, none⟩) ql).trans q1))), ((cell_putR (by omega)).trans ((cell_putR (by omega)).trans ((qq.cell (p := ⟨w.heap.size + 1, 2, none⟩) ql).trans q2)))⟩ | with_reducible exact ⟨((cell_store (by omega)).trans ((cell_store (by omega)).trans ((qq.cell (p := ⟨w.heap.size, 0, none⟩) pl).trans p0))), ((cell_store (by omega)).trans ((cell_store (by omega)).trans ((qq.cell (p := ⟨w.heap.size, 1, none⟩) pl).trans p1))), ((cell_store (by omega)).trans ((cell_store (by omega)).trans ((qq.cell (p := ⟨w.heap.size, 2, none⟩) pl).trans p2))), ((cell_store (by omega)).trans ((cell_store (by omega)).trans ((qq.cell (p := ⟨w.heap.size + 1, 0, none⟩) ql).trans q0))), ((cell_store (by omega)).trans ((cell_store (by omega)).trans ((qq.cell (p := ⟨w.heap.size + 1, 1, none⟩) ql).trans q1))), ((cell_store (by omega)).trans ((cell_store (by omega)).trans ((qq.cell (p := ⟨w.heap.size + 1, 2, none⟩) ql).trans q2)))⟩ | with_reducible exact ⟨keep_alloc (((cell_putR (by omega)).trans ((cell_putR (by omega)).trans ((qq.cell (p := ⟨w.heap.size, 0, none⟩) pl).trans p0)))), keep_alloc (((cell_putR (by omega)).trans ((cell_putR (by omega)).trans ((qq.cell (p := ⟨w.heap.size, 1, none⟩) pl).trans p1)))), keep_alloc (((cell_putR (by omega)).trans ((cell_putR (by omega)).trans ((qq.cell (p := ⟨w.heap.size, 2, none⟩) pl).trans p2)))), keep_alloc (((cell_putR (by omega)).trans ((cell_putR (by omega)).trans ((qq.cell (p := ⟨w.heap.size + 1, 0, none⟩) ql).trans q0)))), keep_alloc (((cell_putR (by omega)).trans ((cell_putR (by omega)).trans ((qq.cell (p := ⟨w.heap.size + 1, 1, none⟩) ql).trans q1)))), keep_alloc (((cell_putR (by omega)).trans ((cell_putR (by omega)).trans ((qq.cell (p := ⟨w.heap.size + 1, 2, none⟩) ql).trans q2))))⟩ | with_reducible exact ⟨keep_alloc (((cell_store (by omega)).trans ((cell_store (by omega)).trans ((qq.cell (p := ⟨w.heap.size, 0, none⟩) pl).trans p0)))), keep_alloc (((cell_store (by omega)).trans ((cell_store (by omega)).trans ((qq.cell (p := ⟨w.heap.size, 1, none⟩) pl).trans p1)))), keep_alloc (((cell_store (by omega)).trans ((cell_store (by omega)).trans ((qq.cell (p := ⟨w.heap.size, 2, none⟩) pl).trans p2)))), keep_alloc (((cell_store (by omega)).trans ((cell_store (by omega)).trans ((qq.cell (p := ⟨w.heap.size + 1, 0, none⟩) ql).trans q0)))), keep_alloc (((cell_store (by omega)).trans ((cell_store (by omega)).trans ((qq.cell (p := ⟨w.heap.size + 1, 1, none⟩) ql).trans q1)))), keep_alloc (((cell_store (by omega)).trans ((cell_store (by omega)).trans ((qq.cell (p := ⟨w.heap.size + 1, 2, none⟩) ql).trans q2))))⟩ | with_reducible exact ⟨keep_alloc (keep_alloc (((cell_putR (by omega)).trans ((cell_putR (by omega)).trans ((qq.cell (p := ⟨w.heap.size, 0, none⟩) pl).trans p0))))), keep_alloc (keep_alloc (((cell_putR (by omega)).trans ((cell_putR (by omega)).trans ((qq.cell (p := ⟨w.heap.size, 1, none⟩) pl).trans p1))))), keep_alloc (keep_alloc (((cell_putR (by omega)).trans ((cell_putR (by omega)).trans ((qq.cell (p := ⟨w.heap.size, 2, none⟩) pl).trans p2))))), keep_alloc (keep_alloc (((cell_putR (by omega)).trans ((cell_putR (by omega)).trans ((qq.cell (p := ⟨w.heap.size + 1, 0, none⟩) ql).trans q0))))), keep_alloc (keep_alloc (((cell_putR (by omega)).trans ((cell_putR (by omega)).trans ((qq.cell (p := ⟨w.heap.size + 1, 1, none⟩) ql).trans q1))))), keep_alloc (keep_alloc (((cell_putR (by omega)).trans ((cell_putR (by omega)).trans ((qq.cell (p := ⟨w.heap.size + 1, 2, none⟩) ql).trans q2)))))⟩ | with_reducible exact ⟨keep_alloc (keep_alloc (((cell_store (by omega)).trans ((cell_store (by omega)).trans ((qq.cell (p := ⟨w.heap.size, 0, none⟩) pl).trans p0))))), keep_alloc (keep_alloc (((cell_store (by omega)).trans ((cell_store (by omega)).trans ((qq.cell (p := ⟨w.heap.size, 1, none⟩) pl).trans p1))))), keep_alloc (keep_alloc (((cell_store (by omega)).trans ((cell_store (by omega)).trans ((qq.cell (p := ⟨w.heap.size, 2, none⟩) pl).trans p2))))), keep_alloc (keep_alloc (((cell_store (by omega)).trans ((cell_store (by omega)).trans ((qq.cell (p := ⟨w.heap.size + 1, 0, none⟩) ql).trans q0))))), keep_alloc (keep_alloc (((cell_store (by omega)).trans ((cell_store (by omega)).trans ((qq.cell (p := ⟨w.heap.size + 1, 1, none⟩) ql).trans q1))))), keep_alloc (keep_alloc (((cell_store (by omega)).trans ((cell_store (by omega)).trans ((qq.cell (p := ⟨w.heap.size + 1, 2, none⟩) ql).trans q2)))))⟩ | go_keep)
      (first
        | (go_at_call 28; (with_reducible refine (qmul_N (h0.on BB0) (s0.le (by omega)) (h1.on BB0) (s1.le (by omega))).mono ?_); rintro e y1 ⟨bfa, Afa, nfa, cfa, Bfa, mfa, dfa, rfl, fa, q⟩; have qq := BB0.trans (q.mono BB0.size); have h0' := (h0.on BB0).on q; have h1' := (h1.on BB0).on q; have qs1 := qq.size; clear q)
        | (go_at_call 28; (with_reducible refine (qmul_N (h0.on BB1) (s0.le (by omega)) (h1.on BB1) (s1.le (by omega))).mono ?_); rintro e y1 ⟨bfa, Afa, nfa, cfa, Bfa, mfa, dfa, rfl, fa, q⟩; have qq := BB1.trans (q.mono BB1.size); have h0' := (h0.on BB1).on q; have h1' := (h1.on BB1).on q; have qs1 := qq.size; have bo_0 := (q.cell (p := ⟨w3.heap.size, 0, none⟩) (by simp)).trans (show _ = some (.bool false) by simp [go_sem]); have fo_0 := (q.frozen (p := ⟨w3.heap.size, 0, none⟩) (by simp)).trans (show _ = false by simp [go_sem]); have bo_1 := (q.cell (p := ⟨w3.heap.size, 1, none⟩) (by simp)).trans (show _ = some (.slice none 0 0) by simp [go_sem]); have fo_1 := (q.frozen (p := ⟨w3.heap.size, 1, none⟩) (by simp)).trans (show _ = false by simp [go_sem]); have bo_2 := (q.cell (p := ⟨w3.heap.size, 2, none⟩) (by simp)).trans (show _ = some (.slice none 0 0) by simp [go_sem]); have fo_2 := (q.frozen (p := ⟨w3.heap.size, 2, none⟩) (by simp)).trans (show _ = false by simp [go_sem]); have ol : w3.heap.size < y1.heap.size := Nat.lt_of_lt_of_le (by simp) q.size; clear q)
        | (go_at_call 22; have up := Below.refl y1.heap.size y1; (with_reducible refine (qdiv_N (fa.on up) (p01.le (by omega)) (h1'.on up) (s1.le (by omega)) hne).mono ?_); rintro e y2 ⟨bo, Ao, no, co, Bo, mo, do_, rfl, o, q⟩; replace qq := (qq.trans (up.mono qq.size)).trans (q.mono (Nat.le_trans qq.size up.size)); replace h0' := (h0'.on up).on q; replace h1' := (h1'.on up).on q; replace fa := (fa.on up).on q; (try replace bo_0 := (q.cell (Nat.lt_of_lt_of_le ol up.size)).trans ((up.cell ol).trans bo_0)); (try replace fo_0 := (q.frozen (Nat.lt_of_lt_of_le ol up.size)).trans ((up.frozen ol).trans fo_0)); (try replace bo_1 := (q.cell (Nat.lt_of_lt_of_le ol up.size)).trans ((up.cell ol).trans bo_1)); (try replace fo_1 := (q.frozen (Nat.lt_of_lt_of_le ol up.size)).trans ((up.frozen ol).trans fo_1)); (try replace bo_2 := (q.cell (Nat.lt_of_lt_of_le ol up.size)).trans ((up.cell ol).trans bo_2)); (try replace fo_2 := (q.frozen (Nat.lt_of_lt_of_le ol up.size)).trans ((up.frozen ol).trans fo_2)); (try replace ol := Nat.lt_of_lt_of_le ol (Nat.le_trans up.size q.size)); have qs2 := qq.size; clear q up)
        | (go_at_call 22; have up := below_one y1 (.cells #[.bool false, .slice none 0 0, .slice none 0 0] 27); (with_reducible refine (qdiv_N (fa.on up) (p01.le (by omega)) (h1'.on up) (s1.le (by omega)) hne).mono ?_); rintro e y2 ⟨bo, Ao, no, co, Bo, mo, do_, rfl, o, q⟩; replace qq := (qq.trans (up.mono qq.size)).trans (q.mono (Nat.le_trans qq.size up.size)); replace h0' := (h0'.on up).on q; replace h1' := (h1'.on up).on q; replace fa := (fa.on up).on q; (try replace bo_0 := (q.cell (Nat.lt_of_lt_of_le ol up.size)).trans ((up.cell ol).trans bo_0)); (try replace fo_0 := (q.frozen (Nat.lt_of_lt_of_le ol up.size)).trans ((up.frozen ol).trans fo_0)); (try replace bo_1 := (q.cell (Nat.lt_of_lt_of_le ol up.size)).trans ((up.cell ol).trans bo_1)); (try replace fo_1 := (q.frozen (Nat.lt_of_lt_of_le ol up.size)).trans ((up.frozen ol).trans fo_1)); (try replace bo_2 := (q.cell (Nat.lt_of_lt_of_le ol up.size)).trans ((up.cell ol).trans bo_2)); (try replace fo_2 := (q.frozen (Nat.lt_of_lt_of_le ol up.size)).trans ((up.frozen ol).trans fo_2)); (try replace ol := Nat.lt_of_lt_of_le ol (Nat.le_trans up.size q.size)); have qs2 := qq.size; have bo_0 := (q.cell (p := ⟨y1.heap.size, 0, none⟩) (by simp)).trans (show _ = some (.bool false) by simp [go_sem]); have fo_0 := (q.frozen (p := ⟨y1.heap.size, 0, none⟩) (by simp)).trans (show _ = false by simp [go_sem]); have bo_1 := (q.cell (p := ⟨y1.heap.size, 1, none⟩) (by simp)).trans (show _ = some (.slice none 0 0) by simp [go_sem]); have fo_1 := (q.frozen (p := ⟨y1.heap.size, 1, none⟩) (by simp)).trans (show _ = false by simp [go_sem]); have bo_2 := (q.cell (p := ⟨y1.heap.size, 2, none⟩) (by simp)).trans (show _ = some (.slice none 0 0) by simp [go_sem]); have fo_2 := (q.frozen (p := ⟨y1.heap.size, 2, none⟩) (by simp)).trans (show _ = false by simp [go_sem]); have ol : y1.heap.size < y2.heap.size := Nat.lt_of_lt_of_le (by simp) q.size; clear q up))
    all_goals (go_wp2_with fail; go_meet)
    all_goals refine ⟨_, bo, Ao, no, co, Bo, mo, do_, rfl, rfl, ?_⟩
    all_goals first
      | with_reducible exact loneRA o qq _
      | with_reducible exact loneRB bo_0 bo_1 bo_2 o qq (by omega)
  case rest =>
    obtain ⟨gu, bu, Au, nu, cu, Bu, mu, du, rfl, rfl, ⟨u0, u1, u2⟩, hu, b, uge⟩ := hcut
    have ul := cell_lt u0
    simp only at ul
    have uqp : w.heap.size < gu := Nat.lt_of_lt_of_le pl uge
    have uqq : w.heap.size + 1 < gu := Nat.lt_of_lt_of_le ql uge
    replace h0 := h0.on b
    replace h1 := h1.on b
    replace p0 := (b.cell (p := ⟨w.heap.size, 0, none⟩) pl).trans p0
    replace p1 := (b.cell (p := ⟨w.heap.size, 1, none⟩) pl).trans p1
    replace p2 := (b.cell (p := ⟨w.heap.size, 2, none⟩) pl).trans p2
    replace pl := Nat.lt_of_lt_of_le pl b.size
    replace q0 := (b.cell (p := ⟨w.heap.size + 1, 0, none⟩) ql).trans q0
    replace q1 := (b.cell (p := ⟨w.heap.size + 1, 1, none⟩) ql).trans q1
    replace q2 := (b.cell (p := ⟨w.heap.size + 1, 2, none⟩) ql).trans q2
    replace ql := Nat.lt_of_lt_of_le ql b.size
    replace cc := cc.trans (b.mono cc.size)
    clear b
    go_wp2_with fail
    have qq : Below wc.heap.size wc wc.drew := below_drewN (Below.refl _ wc) 1
    have h0' := h0.on qq
    have h1' := h1.on qq
    have hu' := hu.on qq
    go_region_held3 (fun w' => w'.cell? ⟨w.heap.size, 0, none⟩ = some (.bool b0) ∧ w'.cell? ⟨w.heap.size, 1, none⟩ = some (.slice A0 n0 c0) ∧ w'.cell? ⟨w.heap.size, 2, none⟩ = some (.slice B0 m0 d0) ∧ w'.cell? ⟨w.heap.size + 1, 0, none⟩ = some (.bool b1) ∧ w'.cell? ⟨w.heap.size + 1, 1, none⟩ = some (.slice A1 n1 c1) ∧ w'.cell? ⟨w.heap.size + 1, 2, none⟩ = some (.slice B1 m1 d1) ∧ w'.cell? ⟨gu, 0, none⟩ = some (.bool bu) ∧ w'.cell? ⟨gu, 1, none⟩ = some (.slice Au nu cu) ∧ w'.cell? ⟨gu, 2, none⟩ = some (.slice Bu mu du))
      (first | with_reducible exact ⟨(qq.cell (p := ⟨w.heap.size, 0, none⟩) pl).trans p0, (qq.cell (p := ⟨w.heap.size, 1, none⟩) pl).trans p1, (qq.cell (p := ⟨w.heap.size, 2, none⟩) pl).trans p2, (qq.cell (p := ⟨w.heap.size + 1, 0, none⟩) ql).trans q0, (qq.cell (p := ⟨w.heap.size + 1, 1, none⟩) ql).trans q1, (qq.cell (p := ⟨w.heap.size + 1, 2, none⟩) ql).trans q2, (qq.cell (p := ⟨gu, 0, none⟩) ul).trans u0, (qq.cell (p := ⟨gu, 1, none⟩) ul).trans u1, (qq.cell (p := ⟨gu, 2, none⟩) ul).trans u2⟩ | go_keep)
      (first
        | (go_at_call 24; (with_reducible refine (qadd_N h0' (s0.le (by omega)) h1' (s1.le (by omega))).mono ?_); rintro e wz ⟨bfa, Afa, nfa, cfa, Bfa, mfa, dfa, rfl, fa, q⟩; replace qq := qq.trans (q.mono qq.size); (try replace h0' := h0'.on q); (try replace h1' := h1'.on q); (try replace hu' := hu'.on q); (try replace fb := fb.on q); (try replace fc := fc.on q); (try replace fd := fd.on q); (try replace fe := fe.on q); (try replace ff := ff.on q); clear q)
        | (go_at_call 26; (with_reducible refine (qsub_N fa (s01.le (by omega)) h1' (s1.le (by omega))).mono ?_); rintro e wz ⟨bfb, Afb, nfb, cfb, Bfb, mfb, dfb, rfl, fb, q⟩; replace qq := qq.trans (q.mono qq.size); (try replace h0' := h0'.on q); (try replace h1' := h1'.on q); (try replace hu' := hu'.on q); (try replace fa := fa.on q); (try replace fc := fc.on q); (try replace fd := fd.on q); (try replace fe := fe.on q); (try replace ff := ff.on q); clear q)
        | (go_at_call 18; (with_reducible refine (rtsame_eq fb (t1.le (by omega)) h0' (s0.le (by omega)) e1).mono ?_); rintro e wz ⟨rfl, q⟩; replace qq := qq.trans (q.mono qq.size); (try replace h0' := h0'.on q); (try replace h1' := h1'.on q); (try replace hu' := hu'.on q); (try replace fa := fa.on q); (try replace fb := fb.on q); (try replace fc := fc.on q); (try replace fd := fd.on q); (try replace fe := fe.on q); (try replace ff := ff.on q); clear q)
        | (go_at_call 19; (with_reducible refine (C0 _).mono ?_); rintro e wz ⟨bfc, Afc, nfc, cfc, Bfc, mfc, dfc, rfl, fc, q⟩; replace qq := qq.trans (q.mono qq.size); (try replace h0' := h0'.on q); (try replace h1' := h1'.on q); (try replace hu' := hu'.on q); (try replace fa := fa.on q); (try replace fb := fb.on q); (try replace fd := fd.on q); (try replace fe := fe.on q); (try replace ff := ff.on q); clear q)
        | (go_at_call 26; (with_reducible refine (qsub_N h0' (s0.le (by omega)) fc (z0.le (by omega))).mono ?_); rintro e wz ⟨bfd, Afd, nfd, cfd, Bfd, mfd, dfd, rfl, fd, q⟩; replace qq := qq.trans (q.mono qq.size); (try replace h0' := h0'.on q); (try replace h1' := h1'.on q); (try replace hu' := hu'.on q); (try replace fa := fa.on q); (try replace fb := fb.on q); (try replace fc := fc.on q); (try replace fe := fe.on q); (try replace ff := ff.on q); clear q)
        | (go_at_call 18; (with_reducible refine (rtsame_eq fd (t2.le (by omega)) h0' (s0.le (by omega)) e2).mono ?_); rintro e wz ⟨rfl, q⟩; replace qq := qq.trans (q.mono qq.size); (try replace h0' := h0'.on q); (try replace h1' := h1'.on q); (try replace hu' := hu'.on q); (try replace fa := fa.on q); (try replace fb := fb.on q); (try replace fc := fc.on q); (try replace fd := fd.on q); (try replace fe := fe.on q); (try replace ff := ff.on q); clear q)
        | (go_at_call 19; (with_reducible refine (C1 _).mono ?_); rintro e wz ⟨bfe, Afe, nfe, cfe, Bfe, mfe, dfe, rfl, fe, q⟩; replace qq := qq.trans (q.mono qq.size); (try replace h0' := h0'.on q); (try replace h1' := h1'.on q); (try replace hu' := hu'.on q); (try replace fa := fa.on q); (try replace fb := fb.on q); (try replace fc := fc.on q); (try replace fd := fd.on q); (try replace ff := ff.on q); clear q)
        | (go_at_call 28; (with_reducible refine (qmul_N h0' (s0.le (by omega)) fe (z1.le (by omega))).mono ?_); rintro e wz ⟨bff, Aff, nff, cff, Bff, mff, dff, rfl, ff, q⟩; replace qq := qq.trans (q.mono qq.size); (try replace h0' := h0'.on q); (try replace h1' := h1'.on q); (try replace hu' := hu'.on q); (try replace fa := fa.on q); (try replace fb := fb.on q); (try replace fc := fc.on q); (try replace fd := fd.on q); (try replace fe := fe.on q); clear q)
        | (go_at_call 18; (with_reducible refine (rtsame_eq ff (t3.le (by omega)) h0' (s0.le (by omega)) e3).mono ?_); rintro e wz ⟨rfl, q⟩; replace qq := qq.trans (q.mono qq.size); (try replace h0' := h0'.on q); (try replace h1' := h1'.on q); (try replace hu' := hu'.on q); (try replace fa := fa.on q); (try replace fb := fb.on q); (try replace fc := fc.on q); (try replace fd := fd.on q); (try replace fe := fe.on q); (try replace ff := ff.on q); clear q))
    clear h0
    have h0 := h0'
    clear h0'
    clear h1
    have h1 := h1'
    clear h1'
    clear hu
    have hu := hu'
    clear hu'
    replace p0 := (qq.cell (p := ⟨w.heap.size, 0, none⟩) pl).trans p0
    replace p1 := (qq.cell (p := ⟨w.heap.size, 1, none⟩) pl).trans p1
    replace p2 := (qq.cell (p := ⟨w.heap.size, 2, none⟩) pl).trans p2
    replace pl := Nat.lt_of_lt_of_le pl qq.size
    replace q0 := (qq.cell (p := ⟨w.heap.size + 1, 0, none⟩) ql).trans q0
    replace q1 := (qq.cell (p := ⟨w.heap.size + 1, 1, none⟩) ql).trans q1
    replace q2 := (qq.cell (p := ⟨w.heap.size + 1, 2, none⟩) ql).trans q2
    replace ql := Nat.lt_of_lt_of_le ql qq.size
    replace u0 := (qq.cell (p := ⟨gu, 0, none⟩) ul).trans u0
    replace u1 := (qq.cell (p := ⟨gu, 1, none⟩) ul).trans u1
    replace u2 := (qq.cell (p := ⟨gu, 2, none⟩) ul).trans u2
    replace ul := Nat.lt_of_lt_of_le ul qq.size
    replace cc := cc.trans (qq.mono cc.size)
    clear qq
    go_wp2_with fail
    refine (alive5_any _).mono ?_
    rintro e w13 ⟨rfl, b⟩
    replace h0 := h0.on b
    replace h1 := h1.on b
    replace hu := hu.on b
    replace p0 := (b.cell (p := ⟨w.heap.size, 0, none⟩) pl).trans p0
    replace p1 := (b.cell (p := ⟨w.heap.size, 1, none⟩) pl).trans p1
    replace p2 := (b.cell (p := ⟨w.heap.size, 2, none⟩) pl).trans p2
    replace pl := Nat.lt_of_lt_of_le pl b.size
    replace q0 := (b.cell (p := ⟨w.heap.size + 1, 0, none⟩) ql).trans q0
    replace q1 := (b.cell (p := ⟨w.heap.size + 1, 1, none⟩) ql).trans q1
    replace q2 := (b.cell (p := ⟨w.heap.size + 1, 2, none⟩) ql).trans q2
    replace ql := Nat.lt_of_lt_of_le ql b.size
    replace u0 := (b.cell (p := ⟨gu, 0, none⟩) ul).trans u0
    replace u1 := (b.cell (p := ⟨gu, 1, none⟩) ul).trans u1
    replace u2 := (b.cell (p := ⟨gu, 2, none⟩) ul).trans u2
    replace ul := Nat.lt_of_lt_of_le ul b.size
    replace cc := cc.trans (b.mono cc.size)
    clear b
    go_wp2_with fail
    refine (rtsame_eq hu (q01.le (by omega)) h0 (s0.le (by omega)) e4).mono ?_
    rintro e w14 ⟨rfl, b⟩
    replace h0 := h0.on b
    replace h1 := h1.on b
    replace hu := hu.on b
    replace p0 := (b.cell (p := ⟨w.heap.size, 0, none⟩) pl).trans p0
    replace p1 := (b.cell (p := ⟨w.heap.size, 1, none⟩) pl).trans p1
    replace p2 := (b.cell (p := ⟨w.heap.size, 2, none⟩) pl).trans p2
    replace pl := Nat.lt_of_lt_of_le pl b.size
    replace q0 := (b.cell (p := ⟨w.heap.size + 1, 0, none⟩) ql).trans q0
    replace q1 := (b.cell (p := ⟨w.heap.size + 1, 1, none⟩) ql).trans q1
    replace q2 := (b.cell (p := ⟨w.heap.size + 1, 2, none⟩) ql).trans q2
    replace ql := Nat.lt_of_lt_of_le ql b.size
    replace u0 := (b.cell (p := ⟨gu, 0, none⟩) ul).trans u0
    replace u1 := (b.cell (p := ⟨gu, 1, none⟩) ul).trans u1
    replace u2 := (b.cell (p := ⟨gu, 2, none⟩) ul).trans u2
    replace ul := Nat.lt_of_lt_of_le ul b.size
    replace cc := cc.trans (b.mono cc.size)
    clear b
    go_wp2_with fail
    go_ret
    exact ⟨rfl, cc⟩

set_option maxRecDepth 100000 in
set_option maxHeartbeats 8000000 in
theorem RatBack_zero {w : World} {b0 b1 : Bool} {A0 B0 A1 B1 : Option Addr} {n0 c0 m0 d0 n1 c1 m1 d1 : Nat} {x0 : Rat} (h0 : Rt w b0 A0 n0 c0 B0 m0 d0 x0) (s0 : Sz x0 4) {x1 : Rat} (h1 : Rt w b1 A1 n1 c1 B1 m1 d1 x1) (s1 : Sz x1 4) (hn1 : n1 = 0) (G0 : ∀ W : World, Below w.heap.size w W → Calls Try.prog 21 #[.agg #[.bool b0, .slice A0 n0 c0, .slice B0 m0 d0], .int .i64 4] W (GotV W (.bool true))) (G1 : ∀ W : World, Below w.heap.size w W → Calls Try.prog 21 #[.agg #[.bool b1, .slice A1 n1 c1, .slice B1 m1 d1], .int .i64 4] W (GotV W (.bool true))) :
    Calls Try.prog 6 #[.agg #[.bool b0, .slice A0 n0 c0, .slice B0 m0 d0], .agg #[.bool b1, .slice A1 n1 c1, .slice B1 m1 d1]] w fun e w' => e = .returned (.bool true) ∧ Below w.heap.size w w' := by
  obtain ⟨r0, g0⟩ : ∃ r, ((0 : Int) : Rat) = r := ⟨_, rfl⟩
  obtain ⟨r1, g1⟩ : ∃ r, ((1 : Int) : Rat) = r := ⟨_, rfl⟩
  have C0 : ∀ W : World, Calls Try.prog 19 #[.int .i64 0] W (GotRt W r0) := fun W => by rw [← g0]; exact qof_N W 0 (by unfold I64; omega)
  have C1 : ∀ W : World, Calls Try.prog 19 #[.int .i64 1] W (GotRt W r1) := fun W => by rw [← g1]; exact qof_N W 1 (by unfold I64; omega)
  have z0 : Sz r0 1 := by rw [← g0]; exact sz_of (len_one (by decide))
  have z1 : Sz r1 1 := by rw [← g1]; exact sz_of (len_one (by decide))
  have e1 : Hid (x0 + x1 - x1 = x0) := Lib.hid (by grind)
  have e2 : Hid (x0 - r0 = x0) := Lib.hid (by rw [← g0]; exact q2 x0)
  have e3 : Hid (x0 * r1 = x0) := Lib.hid (by rw [← g1]; exact q3 x0)
  clear g0 g1
  have s01 := s0.add s1
  have p01 := s0.mul s1
  have t1 := s01.sub s1
  have t2 := s0.sub z0
  have t3 := s0.mul z1
  subst hn1
  have cc := Below.refl w.heap.size w
  go_enter Try.func6, Try.ntmps6
  go_wp2_with fail
  have bA : Below w.heap.size w ((w.alloc (.cells #[.bool b0, .slice A0 n0 c0, .slice B0 m0 d0] 27)).alloc (.cells #[.bool b1, .slice A1 0 c1, .slice B1 m1 d1] 27)) := (((Below.refl _ w).alloc (by simp) _).alloc (by simp) _)
  replace h0 := h0.on bA
  replace h1 := h1.on bA
  replace cc := cc.trans (bA.mono cc.size)
  clear bA
  have p0 : ((w.alloc (.cells #[.bool b0, .slice A0 n0 c0, .slice B0 m0 d0] 27)).alloc (.cells #[.bool b1, .slice A1 0 c1, .slice B1 m1 d1] 27)).cell? ⟨w.heap.size, 0, none⟩ = some (.bool b0) := by simp [go_sem]
  have p1 : ((w.alloc (.cells #[.bool b0, .slice A0 n0 c0, .slice B0 m0 d0] 27)).alloc (.cells #[.bool b1, .slice A1 0 c1, .slice B1 m1 d1] 27)).cell? ⟨w.heap.size, 1, none⟩ = some (.slice A0 n0 c0) := by simp [go_sem]
  have p2 : ((w.alloc (.cells #[.bool b0, .slice A0 n0 c0, .slice B0 m0 d0] 27)).alloc (.cells #[.bool b1, .slice A1 0 c1, .slice B1 m1 d1] 27)).cell? ⟨w.heap.size, 2, none⟩ = some (.slice B0 m0 d0) := by simp [go_sem]
  have pl : w.heap.size < ((w.alloc (.cells #[.bool b0, .slice A0 n0 c0, .slice B0 m0 d0] 27)).alloc (.cells #[.bool b1, .slice A1 0 c1, .slice B1 m1 d1] 27)).heap.size := by simp <;> omega
  have q0 : ((w.alloc (.cells #[.bool b0, .slice A0 n0 c0, .slice B0 m0 d0] 27)).alloc (.cells #[.bool b1, .slice A1 0 c1, .slice B1 m1 d1] 27)).cell? ⟨w.heap.size + 1, 0, none⟩ = some (.bool b1) := by simp [go_sem]
  have q1 : ((w.alloc (.cells #[.bool b0, .slice A0 n0 c0, .slice B0 m0 d0] 27)).alloc (.cells #[.bool b1, .slice A1 0 c1, .slice B1 m1 d1] 27)).cell? ⟨w.heap.size + 1, 1, none⟩ = some (.slice A1 0 c1) := by simp [go_sem]
  have q2 : ((w.alloc (.cells #[.bool b0, .slice A0 n0 c0, .slice B0 m0 d0] 27)).alloc (.cells #[.bool b1, .slice A1 0 c1, .slice B1 m1 d1] 27)).cell? ⟨w.heap.size + 1, 2, none⟩ = some (.slice B1 m1 d1) := by simp [go_sem]
  have ql : w.heap.size + 1 < ((w.alloc (.cells #[.bool b0, .slice A0 n0 c0, .slice B0 m0 d0] 27)).alloc (.cells #[.bool b1, .slice A1 0 c1, .slice B1 m1 d1] 27)).heap.size := by simp <;> omega
  generalize (w.alloc (.cells #[.bool b0, .slice A0 n0 c0, .slice B0 m0 d0] 27)).alloc (.cells #[.bool b1, .slice A1 0 c1, .slice B1 m1 d1] 27) = v1 at *
  refine (G0 _ cc).mono ?_
  rintro e w2 ⟨rfl, b⟩
  replace h0 := h0.on b
  replace h1 := h1.on b
  replace p0 := (b.cell (p := ⟨w.heap.size, 0, none⟩) pl).trans p0
  replace p1 := (b.cell (p := ⟨w.heap.size, 1, none⟩) pl).trans p1
  replace p2 := (b.cell (p := ⟨w.heap.size, 2, none⟩) pl).trans p2
  replace pl := Nat.lt_of_lt_of_le pl b.size
  replace q0 := (b.cell (p := ⟨w.heap.size + 1, 0, none⟩) ql).trans q0
  replace q1 := (b.cell (p := ⟨w.heap.size + 1, 1, none⟩) ql).trans q1
  replace q2 := (b.cell (p := ⟨w.heap.size + 1, 2, none⟩) ql).trans q2
  replace ql := Nat.lt_of_lt_of_le ql b.size
  replace cc := cc.trans (b.mono cc.size)
  clear b
  go_wp2_with fail
  refine (G1 _ cc).mono ?_
  rintro e w3 ⟨rfl, b⟩
  replace h0 := h0.on b
  replace h1 := h1.on b
  replace p0 := (b.cell (p := ⟨w.heap.size, 0, none⟩) pl).trans p0
  replace p1 := (b.cell (p := ⟨w.heap.size, 1, none⟩) pl).trans p1
  replace p2 := (b.cell (p := ⟨w.heap.size, 2, none⟩) pl).trans p2
  replace pl := Nat.lt_of_lt_of_le pl b.size
  replace q0 := (b.cell (p := ⟨w.heap.size + 1, 0, none⟩) ql).trans q0
  replace q1 := (b.cell (p := ⟨w.heap.size + 1, 1, none⟩) ql).trans q1
  replace q2 := (b.cell (p := ⟨w.heap.size + 1, 2, none⟩) ql).trans q2
  replace ql := Nat.lt_of_lt_of_le ql b.size
  replace cc := cc.trans (b.mono cc.size)
  clear b
  go_upto_region 3 with fail
  go_cut [5, 6] (fun u ue wx => ∃ (g : Nat), u = .pointer (some ⟨g, 0, none⟩) ∧ ue = .int .i64 4 ∧ LoneO w3 wx g)
  case first =>
    have BB0 : Below w3.heap.size w3 w3.drew := below_drewN (Below.refl _ w3) 1
    have BB1 : Below w3.heap.size w3 (w3.alloc (.cells #[.bool false, .slice none 0 0, .slice none 0 0] 27)).drew := below_drewN (below_one _ _) 1
    go_region_held3 (fun w' => w'.cell? ⟨w.heap.size, 0, none⟩ = some (.bool b0) ∧ w'.cell? ⟨w.heap.size, 1, none⟩ = some (.slice A0 n0 c0) ∧ w'.cell? ⟨w.heap.size, 2, none⟩ = some (.slice B0 m0 d0) ∧ w'.cell? ⟨w.heap.size + 1, 0, none⟩ = some (.bool b1) ∧ w'.cell? ⟨w.heap.size + 1, 1, none⟩ = some (.slice A1 0 c1) ∧ w'.cell? ⟨w.heap.size + 1, 2, none⟩ = some (.slice B1 m1 d1))
      (first | with_reducible exact ⟨p0, p1, p2, q0, q1, q2⟩ | with_reducible exact ⟨keep_alloc (p0), keep_alloc (p1), keep_alloc (p2), keep_alloc (q0), keep_alloc (q1), keep_alloc (q2)⟩ | with_reducible exact ⟨keep_alloc (keep_alloc (p0)), keep_alloc (keep_alloc (p1)), keep_alloc (keep_alloc (p2)), keep_alloc (keep_alloc (q0)), keep_alloc (keep_alloc (q1)), keep_alloc (keep_alloc (q2))⟩ | with_reducible exact ⟨((qq.cell (p := ⟨w.heap.size, 0, none⟩) pl).trans p0), ((qq.cell (p := ⟨w.heap.size, 1, none⟩) pl).trans p1), ((qq.cell (p := ⟨w.heap.size, 2, none⟩) pl).trans p2), ((qq.cell (p := ⟨w.heap.size + 1, 0, none⟩) ql).trans q0), ((qq.cell (p := ⟨w.heap.size + 1, 1, none⟩) ql).trans q1), ((qq.cell (p := ⟨w.heap.size + 1, 2, none⟩) ql).trans q2)⟩ | with_reducible exact ⟨keep_alloc (((qq.cell (p := ⟨w.heap.size, 0, none⟩) pl).trans p0)), keep_alloc (((qq.cell (p := ⟨w.heap.size, 1, none⟩) pl).trans p1)), keep_alloc (((qq.cell (p := ⟨w.heap.size, 2, none⟩) pl).trans p2)), keep_alloc (((qq.cell (p := ⟨w.heap.size + 1, 0, none⟩) ql).trans q0)), keep_alloc (((qq.cell (p := ⟨w.heap.size + 1, 1, none⟩) ql).trans q1)), keep_alloc (((qq.cell (p := ⟨w.heap.size + 1, 2, none⟩) ql).trans q2))⟩ | with_reducible exact ⟨keep_alloc (keep_alloc (((qq.cell (p := ⟨w.heap.size, 0, none⟩) pl).trans p0))), keep_alloc (keep_alloc (((qq.cell (p := ⟨w.heap.size, 1, none⟩) pl).trans p1))), keep_alloc (keep_alloc (((qq.cell (p := ⟨w.heap.size, 2, none⟩) pl).trans p2))), keep_alloc (keep_alloc (((qq.cell (p := ⟨w.heap.size + 1, 0, none⟩) ql).trans q0))), keep_alloc (keep_alloc (((qq.cell (p := ⟨w.heap.size + 1, 1, none⟩) ql).trans q1))), keep_alloc (keep_alloc (((qq.cell (p := ⟨w.heap.size + 1, 2, none⟩) ql).trans q2)))⟩ | with_reducible exact ⟨((cell_putR (by omega)).trans ((qq.cell (p := ⟨w.heap.size, 0, none⟩) pl).trans p0)), ((cell_putR (by omega)).trans ((qq.cell (p := ⟨w.heap.size, 1, none⟩) pl).trans p1)), ((cell_putR (by omega)).trans ((qq.cell (p := ⟨w.heap.size, 2, none⟩) pl).trans p2)), ((cell_putR (by omega)).trans ((qq.cell (p := ⟨w.heap.size + 1, 0, none⟩) ql).trans q0)), ((cell_putR (by omega)).trans ((qq.cell (p := ⟨w.heap.size + 1, 1, none⟩) ql).trans q1)), ((cell_putR (by omega)).trans ((qq.cell (p := ⟨w.heap.size + 1, 2, none⟩) ql).trans q2))⟩ | with_reducible exact ⟨((cell_store (by omega)).trans ((qq.cell (p := ⟨w.heap.size, 0, none⟩) pl).trans p0)), ((cell_store (by omega)).trans ((qq.cell (p := ⟨w.heap.size, 1, none⟩) pl).trans p1)), ((cell_store (by omega)).trans ((qq.cell (p := ⟨w.heap.size, 2, none⟩) pl).trans p2)), ((cell_store (by omega)).trans ((qq.cell (p := ⟨w.heap.size + 1, 0, none⟩) ql).trans q0)), ((cell_store (by omega)).trans ((qq.cell (p := ⟨w.heap.size + 1, 1, none⟩) ql).trans q1)), ((cell_store (by omega)).trans ((qq.cell (p := ⟨w.heap.size + 1, 2, none⟩) ql).trans q2))⟩ | with_reducible exact ⟨keep_alloc (((cell_putR (by omega)).trans ((qq.cell (p := ⟨w.heap.size, 0, none⟩) pl).trans p0))), keep_alloc (((cell_putR (by omega)).trans ((qq.cell (p := ⟨w.heap.size, 1, none⟩) pl).trans p1))), keep_alloc (((cell_putR (by omega)).trans ((qq.cell (p := ⟨w.heap.size, 2, none⟩) pl).trans p2))), keep_alloc (((cell_putR (by omega)).trans ((qq.cell (p := ⟨w.heap.size + 1, 0, none⟩) ql).trans q0))), keep_alloc (((cell_putR (by omega)).trans ((qq.cell (p := ⟨w.heap.size + 1, 1, none⟩) ql).trans q1))), keep_alloc (((cell_putR (by omega)).trans ((qq.cell (p := ⟨w.heap.size + 1, 2, none⟩) ql).trans q2)))⟩ | with_reducible exact ⟨keep_alloc (((cell_store (by omega)).trans ((qq.cell (p := ⟨w.heap.size, 0, none⟩) pl).trans p0))), keep_alloc (((cell_store (by omega)).trans ((qq.cell (p := ⟨w.heap.size, 1, none⟩) pl).trans p1))), keep_alloc (((cell_store (by omega)).trans ((qq.cell (p := ⟨w.heap.size, 2, none⟩) pl).trans p2))), keep_alloc (((cell_store (by omega)).trans ((qq.cell (p := ⟨w.heap.size + 1, 0, none⟩) ql).trans q0))), keep_alloc (((cell_store (by omega)).trans ((qq.cell (p := ⟨w.heap.size + 1, 1, none⟩) ql).trans q1))), keep_alloc (((cell_store (by omega)).trans ((qq.cell (p := ⟨w.heap.size + 1, 2, none⟩) ql).trans q2)))⟩ | with_reducible exact ⟨keep_alloc (keep_alloc (((cell_putR (by omega)).trans ((qq.cell (p := ⟨w.heap.size, 0, none⟩) pl).trans p0)))), keep_alloc (keep_alloc (((cell_putR (by omega)).trans ((qq.cell (p := ⟨w.heap.size, 1, none⟩) pl).trans p1)))), keep_alloc (keep_alloc (((cell_putR (by omega)).trans ((qq.cell (p := ⟨w.heap.size, 2, none⟩) pl).trans p2)))), keep_alloc (keep_alloc (((cell_putR (by omega)).trans ((qq.cell (p := ⟨w.heap.size + 1, 0, none⟩) ql).trans q0)))), keep_alloc (keep_alloc (((cell_putR (by omega)).trans ((qq.cell (p := ⟨w.heap.size + 1, 1, none⟩) ql).trans q1)))), keep_alloc (keep_alloc (((cell_putR (by omega)).trans ((qq.cell (p := ⟨w.heap.size + 1, 2, none⟩) ql).trans q2))))⟩ | with_reducible exact ⟨keep_alloc (keep_alloc (((cell_store (by omega)).trans ((qq.cell (p := ⟨w.heap.size, 0, none⟩) pl).trans p0)))), keep_alloc (keep_alloc (((cell_store (by omega)).trans ((qq.cell (p := ⟨w.heap.size, 1, none⟩) pl).trans p1)))), keep_alloc (keep_alloc (((cell_store (by omega)).trans ((qq.cell (p := ⟨w.heap.size, 2, none⟩) pl).trans p2)))), keep_alloc (keep_alloc (((cell_store (by omega)).trans ((qq.cell (p := ⟨w.heap.size + 1, 0, none⟩) ql).trans q0)))), keep_alloc (keep_alloc (((cell_store (by omega)).trans ((qq.cell (p := ⟨w.heap.size + 1, 1, none⟩) ql).trans q1)))), keep_alloc (keep_alloc (((cell_store (by omega)).trans ((qq.cell (p := ⟨w.heap.size + 1, 2, none⟩) ql).trans q2))))⟩ | with_reducible exact ⟨((cell_putR (by omega)).trans ((cell_putR (by omega)).trans ((qq.cell (p := ⟨w.heap.size, 0, none⟩) pl).trans p0))), ((cell_putR (by omega)).trans ((cell_putR (by omega)).trans ((qq.cell (p := ⟨w.heap.size, 1, none⟩) pl).trans p1))), ((cell_putR (by omega)).trans ((cell_putR (by omega)).trans ((qq.cell (p := ⟨w.heap.size, 2, none⟩) pl).trans p2))), ((cell_putR (by omega)).trans ((cell_putR (by omega)).trans ((qq.cell (p := ⟨w.heap.size + 1, 0, none⟩) ql).trans q0))), ((cell_putR (by omega)).trans ((cell_putR (by omega)).trans ((qq.cell (p := ⟨w.heap.size + 1, 1, none⟩) ql).trans q1))), ((cell_putR (by omega)).trans ((cell_putR (by omega)).trans ((qq.cell (p := ⟨w.heap.size + 1, 2, none⟩) ql).trans q2)))⟩ | with_reducible exact ⟨((cell_store (by omega)).trans ((cell_store (by omega)).trans ((qq.cell (p := ⟨w.heap.size, 0, none⟩) pl).trans p0))), ((cell_store (by omega)).trans ((cell_store (by omega)).trans ((qq.cell (p := ⟨w.heap.size, 1, none⟩) pl).trans p1))), ((cell_store (by omega)).trans ((cell_store (by omega)).trans ((qq.cell (p := ⟨w.heap.size, 2, none⟩) pl).trans p2))), ((cell_store (by omega)).trans ((cell_store (by omega)).trans ((qq.cell (p := ⟨w.heap.size + 1, 0, none⟩) ql).trans q0))), ((cell_store (by omega)).trans ((cell_store (by omega)).trans ((qq.cell (p := ⟨w.heap.size + 1, 1, none⟩) ql).trans q1))), ((cell_store (by omega)).trans ((cell_store (by omega)).trans ((qq.cell (p := ⟨w.heap.size + 1, 2, none⟩) ql).trans q2)))⟩ | with_reducible exact ⟨keep_alloc (((cell_putR (by omega)).trans ((cell_putR (by omega)).trans ((qq.cell (p := ⟨w.heap.size, 0, none⟩) pl).trans p0)))), keep_alloc (((cell_putR (by omega)).trans ((cell_putR (by omega)).trans ((qq.cell (p := ⟨w.heap.size, 1, none⟩) pl).trans p1)))), keep_alloc (((cell_putR (by omega)).trans ((cell_putR (by omega)).trans ((qq.cell (p := ⟨w.heap.size, 2, none⟩) pl).trans p2)))), keep_alloc (((cell_putR (by omega)).trans ((cell_putR (by omega)).trans ((qq.cell (p := ⟨w.heap.size + 1, 0, none⟩) ql).trans q0)))), keep_alloc (((cell_putR (by omega)).trans ((cell_putR (by omega)).trans ((qq.cell (p := ⟨w.heap.size + 1, 1, none⟩) ql).trans q1)))), keep_alloc (((cell_putR (by omega)).trans ((cell_putR (by omega)).trans ((qq.cell (p := ⟨w.heap.size + 1, 2, none⟩) ql).trans q2))))⟩ | with_reducible exact ⟨keep_alloc (((cell_store (by omega)).trans ((cell_store (by omega)).trans ((qq.cell (p := ⟨w.heap.size, 0, none⟩) pl).trans p0)))), keep_alloc (((cell_store (by omega)).trans ((cell_store (by omega)).trans ((qq.cell (p := ⟨w.heap.size, 1, none⟩) pl).trans p1)))), keep_alloc (((cell_store (by omega)).trans ((cell_store (by omega)).trans ((qq.cell (p := ⟨w.heap.size, 2, none⟩) pl).trans p2)))), keep_alloc (((cell_store (by omega)).trans ((cell_store (by omega)).trans ((qq.cell (p := ⟨w.heap.size + 1, 0, none⟩) ql).trans q0)))), keep_alloc (((cell_store (by omega)).trans ((cell_store (by omega)).trans ((qq.cell (p := ⟨w.heap.size + 1, 1, none⟩) ql).trans q1)))), keep_alloc (((cell_store (by omega)).trans ((cell_store (by omega)).trans ((qq.cell (p := ⟨w.heap.size + 1, 2, none⟩) ql).trans q2))))⟩ | with_reducible exact ⟨keep_alloc (keep_alloc (((cell_putR (by omega)).trans ((cell_putR (by omega)).trans ((qq.cell (p := ⟨w.heap.size, 0, none⟩) pl).trans p0))))), keep_alloc (keep_alloc (((cell_putR (by omega)).trans ((cell_putR (by omega)).trans ((qq.cell (p := ⟨w.heap.size, 1, none⟩) pl).trans p1))))), keep_alloc (keep_alloc (((cell_putR (by omega)).trans ((cell_putR (by omega)).trans ((qq.cell (p := ⟨w.heap.size, 2, none⟩) pl).trans p2))))), keep_alloc (keep_alloc (((cell_putR (by omega)).trans ((cell_putR (by omega)).trans ((qq.cell (p := ⟨w.heap.size + 1, 0, none⟩) ql).trans q0))))), keep_alloc (keep_alloc (((cell_putR (by omega)).trans ((cell_putR (by omega)).trans ((qq.cell (p := ⟨w.heap.size + 1, 1, none⟩) ql).trans q1))))), keep_alloc (keep_alloc (((cell_putR (by omega)).trans ((cell_putR (by omega)).trans ((qq.cell (p := ⟨w.heap.size + 1, 2, none⟩) ql).trans q2)))))⟩ | with_reducible exact ⟨keep_alloc (keep_alloc (((cell_store (by omega)).trans ((cell_store (by omega)).trans ((qq.cell (p := ⟨w.heap.size, 0, none⟩) pl).trans p0))))), keep_alloc (keep_alloc (((cell_store (by omega)).trans ((cell_store (by omega)).trans ((qq.cell (p := ⟨w.heap.size, 1, none⟩) pl).trans p1))))), keep_alloc (keep_alloc (((cell_store (by omega)).trans ((cell_store (by omega)).trans ((qq.cell (p := ⟨w.heap.size, 2, none⟩) pl).trans p2))))), keep_alloc (keep_alloc (((cell_store (by omega)).trans ((cell_store (by omega)).trans ((qq.cell (p := ⟨w.heap.size + 1, 0, none⟩) ql).trans q0))))), keep_alloc (keep_alloc (((cell_store (by omega)).trans ((cell_store (by omega)).trans ((qq.cell (p := ⟨w.heap.size + 1, 1, none⟩) ql).trans q1))))), keep_alloc (keep_alloc (((cell_store (by omega)).trans ((cell_store (by omega)).trans ((qq.cell (p := ⟨w.heap.size + 1, 2, none⟩) ql).trans q2)))))⟩ | go_keep)
      (first
        | (go_at_call 28; (with_reducible refine (qmul_N (h0.on BB0) (s0.le (by omega)) (h1.on BB0) (s1.le (by omega))).mono ?_); rintro e y1 ⟨bfa, Afa, nfa, cfa, Bfa, mfa, dfa, rfl, fa, q⟩; have qq := BB0.trans (q.mono BB0.size); have h0' := (h0.on BB0).on q; have h1' := (h1.on BB0).on q; have qs1 := qq.size; clear q)
        | (go_at_call 28; (with_reducible refine (qmul_N (h0.on BB1) (s0.le (by omega)) (h1.on BB1) (s1.le (by omega))).mono ?_); rintro e y1 ⟨bfa, Afa, nfa, cfa, Bfa, mfa, dfa, rfl, fa, q⟩; have qq := BB1.trans (q.mono BB1.size); have h0' := (h0.on BB1).on q; have h1' := (h1.on BB1).on q; have qs1 := qq.size; have bo_0 := (q.cell (p := ⟨w3.heap.size, 0, none⟩) (by simp)).trans (show _ = some (.bool false) by simp [go_sem]); have fo_0 := (q.frozen (p := ⟨w3.heap.size, 0, none⟩) (by simp)).trans (show _ = false by simp [go_sem]); have bo_1 := (q.cell (p := ⟨w3.heap.size, 1, none⟩) (by simp)).trans (show _ = some (.slice none 0 0) by simp [go_sem]); have fo_1 := (q.frozen (p := ⟨w3.heap.size, 1, none⟩) (by simp)).trans (show _ = false by simp [go_sem]); have bo_2 := (q.cell (p := ⟨w3.heap.size, 2, none⟩) (by simp)).trans (show _ = some (.slice none 0 0) by simp [go_sem]); have fo_2 := (q.frozen (p := ⟨w3.heap.size, 2, none⟩) (by simp)).trans (show _ = false by simp [go_sem]); have ol : w3.heap.size < y1.heap.size := Nat.lt_of_lt_of_le (by simp) q.size; clear q)
        | (go_at_call 22; have up := Below.refl y1.heap.size y1; (with_reducible refine (qdiv_zero).mono ?_); rintro e y2 ⟨rfl, q⟩; replace qq := (qq.trans (up.mono qq.size)).trans (q.mono (Nat.le_trans qq.size up.size)); replace h0' := (h0'.on up).on q; replace h1' := (h1'.on up).on q; replace fa := (fa.on up).on q; (try replace bo_0 := (q.cell (Nat.lt_of_lt_of_le ol up.size)).trans ((up.cell ol).trans bo_0)); (try replace fo_0 := (q.frozen (Nat.lt_of_lt_of_le ol up.size)).trans ((up.frozen ol).trans fo_0)); (try replace bo_1 := (q.cell (Nat.lt_of_lt_of_le ol up.size)).trans ((up.cell ol).trans bo_1)); (try replace fo_1 := (q.frozen (Nat.lt_of_lt_of_le ol up.size)).trans ((up.frozen ol).trans fo_1)); (try replace bo_2 := (q.cell (Nat.lt_of_lt_of_le ol up.size)).trans ((up.cell ol).trans bo_2)); (try replace fo_2 := (q.frozen (Nat.lt_of_lt_of_le ol up.size)).trans ((up.frozen ol).trans fo_2)); (try replace ol := Nat.lt_of_lt_of_le ol (Nat.le_trans up.size q.size)); have qs2 := qq.size; clear q up)
        | (go_at_call 22; have up := below_one y1 (.cells #[.bool false, .slice none 0 0, .slice none 0 0] 27); (with_reducible refine (qdiv_zero).mono ?_); rintro e y2 ⟨rfl, q⟩; replace qq := (qq.trans (up.mono qq.size)).trans (q.mono (Nat.le_trans qq.size up.size)); replace h0' := (h0'.on up).on q; replace h1' := (h1'.on up).on q; replace fa := (fa.on up).on q; (try replace bo_0 := (q.cell (Nat.lt_of_lt_of_le ol up.size)).trans ((up.cell ol).trans bo_0)); (try replace fo_0 := (q.frozen (Nat.lt_of_lt_of_le ol up.size)).trans ((up.frozen ol).trans fo_0)); (try replace bo_1 := (q.cell (Nat.lt_of_lt_of_le ol up.size)).trans ((up.cell ol).trans bo_1)); (try replace fo_1 := (q.frozen (Nat.lt_of_lt_of_le ol up.size)).trans ((up.frozen ol).trans fo_1)); (try replace bo_2 := (q.cell (Nat.lt_of_lt_of_le ol up.size)).trans ((up.cell ol).trans bo_2)); (try replace fo_2 := (q.frozen (Nat.lt_of_lt_of_le ol up.size)).trans ((up.frozen ol).trans fo_2)); (try replace ol := Nat.lt_of_lt_of_le ol (Nat.le_trans up.size q.size)); have qs2 := qq.size; have bo_0 := (q.cell (p := ⟨y1.heap.size, 0, none⟩) (by simp)).trans (show _ = some (.bool false) by simp [go_sem]); have fo_0 := (q.frozen (p := ⟨y1.heap.size, 0, none⟩) (by simp)).trans (show _ = false by simp [go_sem]); have bo_1 := (q.cell (p := ⟨y1.heap.size, 1, none⟩) (by simp)).trans (show _ = some (.slice none 0 0) by simp [go_sem]); have fo_1 := (q.frozen (p := ⟨y1.heap.size, 1, none⟩) (by simp)).trans (show _ = false by simp [go_sem]); have bo_2 := (q.cell (p := ⟨y1.heap.size, 2, none⟩) (by simp)).trans (show _ = some (.slice none 0 0) by simp [go_sem]); have fo_2 := (q.frozen (p := ⟨y1.heap.size, 2, none⟩) (by simp)).trans (show _ = false by simp [go_sem]); have ol : y1.heap.size < y2.heap.size := Nat.lt_of_lt_of_le (by simp) q.size; clear q up))
    all_goals (go_wp2_with fail; go_meet)
    all_goals refine ⟨_, rfl, rfl, ?_⟩
    all_goals first
      | with_reducible exact loneOA qq _
      | with_reducible exact loneOB bo_0 bo_1 bo_2 qq (by omega)
  case rest =>
    obtain ⟨gu, rfl, rfl, ⟨u0, u1, u2⟩, b, uge⟩ := hcut
    have ul := cell_lt u0
    simp only at ul
    have uqp : w.heap.size < gu := Nat.lt_of_lt_of_le pl uge
    have uqq : w.heap.size + 1 < gu := Nat.lt_of_lt_of_le ql uge
    replace h0 := h0.on b
    replace h1 := h1.on b
    replace p0 := (b.cell (p := ⟨w.heap.size, 0, none⟩) pl).trans p0
    replace p1 := (b.cell (p := ⟨w.heap.size, 1, none⟩) pl).trans p1
    replace p2 := (b.cell (p := ⟨w.heap.size, 2, none⟩) pl).trans p2
    replace pl := Nat.lt_of_lt_of_le pl b.size
    replace q0 := (b.cell (p := ⟨w.heap.size + 1, 0, none⟩) ql).trans q0
    replace q1 := (b.cell (p := ⟨w.heap.size + 1, 1, none⟩) ql).trans q1
    replace q2 := (b.cell (p := ⟨w.heap.size + 1, 2, none⟩) ql).trans q2
    replace ql := Nat.lt_of_lt_of_le ql b.size
    replace cc := cc.trans (b.mono cc.size)
    clear b
    go_wp2_with fail
    have qq : Below wc.heap.size wc wc.drew := below_drewN (Below.refl _ wc) 1
    have h0' := h0.on qq
    have h1' := h1.on qq
    go_region_held3 (fun w' => w'.cell? ⟨w.heap.size, 0, none⟩ = some (.bool b0) ∧ w'.cell? ⟨w.heap.size, 1, none⟩ = some (.slice A0 n0 c0) ∧ w'.cell? ⟨w.heap.size, 2, none⟩ = some (.slice B0 m0 d0) ∧ w'.cell? ⟨w.heap.size + 1, 0, none⟩ = some (.bool b1) ∧ w'.cell? ⟨w.heap.size + 1, 1, none⟩ = some (.slice A1 0 c1) ∧ w'.cell? ⟨w.heap.size + 1, 2, none⟩ = some (.slice B1 m1 d1) ∧ w'.cell? ⟨gu, 0, none⟩ = some (.bool false) ∧ w'.cell? ⟨gu, 1, none⟩ = some (.slice none 0 0) ∧ w'.cell? ⟨gu, 2, none⟩ = some (.slice none 0 0))
      (first | with_reducible exact ⟨(qq.cell (p := ⟨w.heap.size, 0, none⟩) pl).trans p0, (qq.cell (p := ⟨w.heap.size, 1, none⟩) pl).trans p1, (qq.cell (p := ⟨w.heap.size, 2, none⟩) pl).trans p2, (qq.cell (p := ⟨w.heap.size + 1, 0, none⟩) ql).trans q0, (qq.cell (p := ⟨w.heap.size + 1, 1, none⟩) ql).trans q1, (qq.cell (p := ⟨w.heap.size + 1, 2, none⟩) ql).trans q2, (qq.cell (p := ⟨gu, 0, none⟩) ul).trans u0, (qq.cell (p := ⟨gu, 1, none⟩) ul).trans u1, (qq.cell (p := ⟨gu, 2, none⟩) ul).trans u2⟩ | go_keep)
      (first
        | (go_at_call 24; (with_reducible refine (qadd_N h0' (s0.le (by omega)) h1' (s1.le (by omega))).mono ?_); rintro e wz ⟨bfa, Afa, nfa, cfa, Bfa, mfa, dfa, rfl, fa, q⟩; replace qq := qq.trans (q.mono qq.size); (try replace h0' := h0'.on q); (try replace h1' := h1'.on q); (try replace fb := fb.on q); (try replace fc := fc.on q); (try replace fd := fd.on q); (try replace fe := fe.on q); (try replace ff := ff.on q); clear q)
        | (go_at_call 26; (with_reducible refine (qsub_N fa (s01.le (by omega)) h1' (s1.le (by omega))).mono ?_); rintro e wz ⟨bfb, Afb, nfb, cfb, Bfb, mfb, dfb, rfl, fb, q⟩; replace qq := qq.trans (q.mono qq.size); (try replace h0' := h0'.on q); (try replace h1' := h1'.on q); (try replace fa := fa.on q); (try replace fc := fc.on q); (try replace fd := fd.on q); (try replace fe := fe.on q); (try replace ff := ff.on q); clear q)
        | (go_at_call 18; (with_reducible refine (rtsame_eq fb (t1.le (by omega)) h0' (s0.le (by omega)) e1).mono ?_); rintro e wz ⟨rfl, q⟩; replace qq := qq.trans (q.mono qq.size); (try replace h0' := h0'.on q); (try replace h1' := h1'.on q); (try replace fa := fa.on q); (try replace fb := fb.on q); (try replace fc := fc.on q); (try replace fd := fd.on q); (try replace fe := fe.on q); (try replace ff := ff.on q); clear q)
        | (go_at_call 19; (with_reducible refine (C0 _).mono ?_); rintro e wz ⟨bfc, Afc, nfc, cfc, Bfc, mfc, dfc, rfl, fc, q⟩; replace qq := qq.trans (q.mono qq.size); (try replace h0' := h0'.on q); (try replace h1' := h1'.on q); (try replace fa := fa.on q); (try replace fb := fb.on q); (try replace fd := fd.on q); (try replace fe := fe.on q); (try replace ff := ff.on q); clear q)
        | (go_at_call 26; (with_reducible refine (qsub_N h0' (s0.le (by omega)) fc (z0.le (by omega))).mono ?_); rintro e wz ⟨bfd, Afd, nfd, cfd, Bfd, mfd, dfd, rfl, fd, q⟩; replace qq := qq.trans (q.mono qq.size); (try replace h0' := h0'.on q); (try replace h1' := h1'.on q); (try replace fa := fa.on q); (try replace fb := fb.on q); (try replace fc := fc.on q); (try replace fe := fe.on q); (try replace ff := ff.on q); clear q)
        | (go_at_call 18; (with_reducible refine (rtsame_eq fd (t2.le (by omega)) h0' (s0.le (by omega)) e2).mono ?_); rintro e wz ⟨rfl, q⟩; replace qq := qq.trans (q.mono qq.size); (try replace h0' := h0'.on q); (try replace h1' := h1'.on q); (try replace fa := fa.on q); (try replace fb := fb.on q); (try replace fc := fc.on q); (try replace fd := fd.on q); (try replace fe := fe.on q); (try replace ff := ff.on q); clear q)
        | (go_at_call 19; (with_reducible refine (C1 _).mono ?_); rintro e wz ⟨bfe, Afe, nfe, cfe, Bfe, mfe, dfe, rfl, fe, q⟩; replace qq := qq.trans (q.mono qq.size); (try replace h0' := h0'.on q); (try replace h1' := h1'.on q); (try replace fa := fa.on q); (try replace fb := fb.on q); (try replace fc := fc.on q); (try replace fd := fd.on q); (try replace ff := ff.on q); clear q)
        | (go_at_call 28; (with_reducible refine (qmul_N h0' (s0.le (by omega)) fe (z1.le (by omega))).mono ?_); rintro e wz ⟨bff, Aff, nff, cff, Bff, mff, dff, rfl, ff, q⟩; replace qq := qq.trans (q.mono qq.size); (try replace h0' := h0'.on q); (try replace h1' := h1'.on q); (try replace fa := fa.on q); (try replace fb := fb.on q); (try replace fc := fc.on q); (try replace fd := fd.on q); (try replace fe := fe.on q); clear q)
        | (go_at_call 18; (with_reducible refine (rtsame_eq ff (t3.le (by omega)) h0' (s0.le (by omega)) e3).mono ?_); rintro e wz ⟨rfl, q⟩; replace qq := qq.trans (q.mono qq.size); (try replace h0' := h0'.on q); (try replace h1' := h1'.on q); (try replace fa := fa.on q); (try replace fb := fb.on q); (try replace fc := fc.on q); (try replace fd := fd.on q); (try replace fe := fe.on q); (try replace ff := ff.on q); clear q))
    clear h0
    have h0 := h0'
    clear h0'
    clear h1
    have h1 := h1'
    clear h1'
    replace p0 := (qq.cell (p := ⟨w.heap.size, 0, none⟩) pl).trans p0
    replace p1 := (qq.cell (p := ⟨w.heap.size, 1, none⟩) pl).trans p1
    replace p2 := (qq.cell (p := ⟨w.heap.size, 2, none⟩) pl).trans p2
    replace pl := Nat.lt_of_lt_of_le pl qq.size
    replace q0 := (qq.cell (p := ⟨w.heap.size + 1, 0, none⟩) ql).trans q0
    replace q1 := (qq.cell (p := ⟨w.heap.size + 1, 1, none⟩) ql).trans q1
    replace q2 := (qq.cell (p := ⟨w.heap.size + 1, 2, none⟩) ql).trans q2
    replace ql := Nat.lt_of_lt_of_le ql qq.size
    replace u0 := (qq.cell (p := ⟨gu, 0, none⟩) ul).trans u0
    replace u1 := (qq.cell (p := ⟨gu, 1, none⟩) ul).trans u1
    replace u2 := (qq.cell (p := ⟨gu, 2, none⟩) ul).trans u2
    replace ul := Nat.lt_of_lt_of_le ul qq.size
    replace cc := cc.trans (qq.mono cc.size)
    clear qq
    go_wp2_with fail
    refine (alive5_any _).mono ?_
    rintro e w13 ⟨rfl, b⟩
    replace h0 := h0.on b
    replace h1 := h1.on b
    replace p0 := (b.cell (p := ⟨w.heap.size, 0, none⟩) pl).trans p0
    replace p1 := (b.cell (p := ⟨w.heap.size, 1, none⟩) pl).trans p1
    replace p2 := (b.cell (p := ⟨w.heap.size, 2, none⟩) pl).trans p2
    replace pl := Nat.lt_of_lt_of_le pl b.size
    replace q0 := (b.cell (p := ⟨w.heap.size + 1, 0, none⟩) ql).trans q0
    replace q1 := (b.cell (p := ⟨w.heap.size + 1, 1, none⟩) ql).trans q1
    replace q2 := (b.cell (p := ⟨w.heap.size + 1, 2, none⟩) ql).trans q2
    replace ql := Nat.lt_of_lt_of_le ql b.size
    replace u0 := (b.cell (p := ⟨gu, 0, none⟩) ul).trans u0
    replace u1 := (b.cell (p := ⟨gu, 1, none⟩) ul).trans u1
    replace u2 := (b.cell (p := ⟨gu, 2, none⟩) ul).trans u2
    replace ul := Nat.lt_of_lt_of_le ul b.size
    replace cc := cc.trans (b.mono cc.size)
    clear b
    go_wp2_with fail
    refine (rtsame_none _).mono ?_
    rintro e w14 ⟨rfl, b⟩
    replace h0 := h0.on b
    replace h1 := h1.on b
    replace p0 := (b.cell (p := ⟨w.heap.size, 0, none⟩) pl).trans p0
    replace p1 := (b.cell (p := ⟨w.heap.size, 1, none⟩) pl).trans p1
    replace p2 := (b.cell (p := ⟨w.heap.size, 2, none⟩) pl).trans p2
    replace pl := Nat.lt_of_lt_of_le pl b.size
    replace q0 := (b.cell (p := ⟨w.heap.size + 1, 0, none⟩) ql).trans q0
    replace q1 := (b.cell (p := ⟨w.heap.size + 1, 1, none⟩) ql).trans q1
    replace q2 := (b.cell (p := ⟨w.heap.size + 1, 2, none⟩) ql).trans q2
    replace ql := Nat.lt_of_lt_of_le ql b.size
    replace u0 := (b.cell (p := ⟨gu, 0, none⟩) ul).trans u0
    replace u1 := (b.cell (p := ⟨gu, 1, none⟩) ul).trans u1
    replace u2 := (b.cell (p := ⟨gu, 2, none⟩) ul).trans u2
    replace ul := Nat.lt_of_lt_of_le ul b.size
    replace cc := cc.trans (b.mono cc.size)
    clear b
    go_wp2_with fail
    go_ret
    exact ⟨rfl, cc⟩

set_option maxRecDepth 100000 in
set_option maxHeartbeats 8000000 in
theorem RatBack_walk {w : World} (b0 : Bool) {A0 : Option Addr} {n0 c0 : Nat} {l0 : List Nat} (hl0 : Lim w.heap.size w A0 n0 c0 l0) (hs0 : n0 ≤ 9223372036854775807) {B0 : Option Addr} {m0 d0 : Nat} {k0 : List Nat} (hk0 : Lim w.heap.size w B0 m0 d0 k0) (ht0 : m0 ≤ 9223372036854775807) (b1 : Bool) {A1 : Option Addr} {n1 c1 : Nat} {l1 : List Nat} (hl1 : Lim w.heap.size w A1 n1 c1 l1) (hs1 : n1 ≤ 9223372036854775807) {B1 : Option Addr} {m1 d1 : Nat} {k1 : List Nat} (hk1 : Lim w.heap.size w B1 m1 d1 k1) (ht1 : m1 ≤ 9223372036854775807) :
    Calls Try.prog 6 #[.agg #[.bool b0, .slice A0 n0 c0, .slice B0 m0 d0], .agg #[.bool b1, .slice A1 n1 c1, .slice B1 m1 d1]] w fun e w' => e = .returned (.bool true) ∧ Below w.heap.size w w' := by
  have G : ∀ {b : Bool} {A B : Option Addr} {n c m d : Nat} {l k : List Nat} (r : Bool), Lim w.heap.size w A n c l → Lim w.heap.size w B m d k → (decide ((n : Int) ≤ 4) && (decide ((m : Int) ≤ 4) && okR b n l m k)) = r → ∀ W : World, Below w.heap.size w W → Calls Try.prog 21 #[.agg #[.bool b, .slice A n c, .slice B m d], .int .i64 4] W (GotV W (.bool r)) := fun r hl hk hr W hW => rtfew_any (hl.on hW) (hk.on hW) 4 (by omega) r hr
  cases e0 : (decide ((n0 : Int) ≤ 4) && (decide ((m0 : Int) ≤ 4) && okR b0 n0 l0 m0 k0)) with
  | false => exact RatBack_no0  (G false hl0 hk0 e0)
  | true =>
    cases e1 : (decide ((n1 : Int) ≤ 4) && (decide ((m1 : Int) ≤ 4) && okR b1 n1 l1 m1 k1)) with
    | false => exact RatBack_no1 (G true hl0 hk0 e0) (G false hl1 hk1 e1)
    | true =>
      obtain ⟨x0, h0, s0⟩ := few_rt 4 hl0 hk0 e0
      obtain ⟨x1, h1, s1⟩ := few_rt 4 hl1 hk1 e1
      by_cases hne : x1.num = 0
      · exact RatBack_zero h0 s0 h1 s1 (rt_zero h1 hne) (G true hl0 hk0 e0) (G true hl1 hk1 e1)
      · exact RatBack_ok h0 s0 h1 s1 hne (G true hl0 hk0 e0) (G true hl1 hk1 e1)

end Go.Proofs.Ytgnhioffamfakaa
