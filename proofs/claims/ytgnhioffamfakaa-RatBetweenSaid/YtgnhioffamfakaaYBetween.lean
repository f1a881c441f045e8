/-
  The walk of RatBetween.
-/
import Derived.Test.YtgnhioffamfakaaA9
namespace Go.Proofs.Ytgnhioffamfakaa
open Go.RowKit
set_option linter.unusedVariables false

set_option maxRecDepth 100000 in
set_option maxHeartbeats 8000000 in
theorem RatBetween_no0 {w : World} {b0 b1 : Bool} {A0 B0 A1 B1 : Option Addr} {n0 c0 m0 d0 n1 c1 m1 d1 : Nat} (G0 : ∀ W : World, Below w.heap.size w W → Calls Try.prog 21 #[.agg #[.bool b0, .slice A0 n0 c0, .slice B0 m0 d0], .int .i64 3] W (GotV W (.bool false))) :
    Calls Try.prog 9 #[.agg #[.bool b0, .slice A0 n0 c0, .slice B0 m0 d0], .agg #[.bool b1, .slice A1 n1 c1, .slice B1 m1 d1]] w fun e w' => e = .returned (.bool true) ∧ Below w.heap.size w w' := by
  have cc := Below.refl w.heap.size w
  go_enter Try.func9, Try.ntmps9
  go_wp2_with fail
  have bA : Below w.heap.size w ((w.alloc (.cells #[.bool b0, .slice A0 n0 c0, .slice B0 m0 d0] 27)).alloc (.cells #[.bool b1, .slice A1 n1 c1, .slice B1 m1 d1] 27)) := (((Below.refl _ w).alloc (by simp) _).alloc (by simp) _)
  replace cc := cc.trans (bA.mono cc.size)
  clear bA
  have p0 : ((w.alloc (.cells #[.bool b0, .slice A0 n0 c0, .slice B0 m0 d0] 27)).alloc (.cells #[.bool b1, .slice A1 n1 c1, .slice B1 m1 d1] 27)).cell? ⟨w.heap.size, 0, none⟩ = some (.bool b0) := by simp [go_sem]
  have p1 : ((w.alloc (.cells #[.bool b0, .slice A0 n0 c0, .slice B0 m0 d0] 27)).alloc (.cells #[.bool b1, .slice A1 n1 c1, .slice B1 m1 d1] 27)).cell? ⟨w.heap.size, 1, none⟩ = some (.slice A0 n0 c0) := by simp [go_sem]
  have p2 : ((w.alloc (.cells #[.bool b0, .slice A0 n0 c0, .slice B0 m0 d0] 27)).alloc (.cells #[.bool b1, .slice A1 n1 c1, .slice B1 m1 d1] 27)).cell? ⟨w.heap.size, 2, none⟩ = some (.slice B0 m0 d0) := by simp [go_sem]
  have pl : w.heap.size < ((w.alloc (.cells #[.bool b0, .slice A0 n0 c0, .slice B0 m0 d0] 27)).alloc (.cells #[.bool b1, .slice A1 n1 c1, .slice B1 m1 d1] 27)).heap.size := by simp <;> omega
  have q0 : ((w.alloc (.cells #[.bool b0, .slice A0 n0 c0, .slice B0 m0 d0] 27)).alloc (.cells #[.bool b1, .slice A1 n1 c1, .slice B1 m1 d1] 27)).cell? ⟨w.heap.size + 1, 0, none⟩ = some (.bool b1) := by simp [go_sem]
  have q1 : ((w.alloc (.cells #[.bool b0, .slice A0 n0 c0, .slice B0 m0 d0] 27)).alloc (.cells #[.bool b1, .slice A1 n1 c1, .slice B1 m1 d1] 27)).cell? ⟨w.heap.size + 1, 1, none⟩ = some (.slice A1 n1 c1) := by simp [go_sem]
  have q2 : ((w.alloc (.cells #[.bool b0, .slice A0 n0 c0, .slice B0 m0 d0] 27)).alloc (.cells #[.bool b1, .slice A1 n1 c1, .slice B1 m1 d1] 27)).cell? ⟨w.heap.size + 1, 2, none⟩ = some (.slice B1 m1 d1) := by simp [go_sem]
  have ql : w.heap.size + 1 < ((w.alloc (.cells #[.bool b0, .slice A0 n0 c0, .slice B0 m0 d0] 27)).alloc (.cells #[.bool b1, .slice A1 n1 c1, .slice B1 m1 d1] 27)).heap.size := by simp <;> omega
  generalize (w.alloc (.cells #[.bool b0, .slice A0 n0 c0, .slice B0 m0 d0] 27)).alloc (.cells #[.bool b1, .slice A1 n1 c1, .slice B1 m1 d1] 27) = v1 at *
  refine (G0 _ cc).mono ?_
  rintro e w2 ⟨rfl, b⟩
  replace p0 := (b.cell (p := ⟨w.heap.size, 0, none⟩) pl).trans p0
  replace p1 := (b.cell (p := ⟨w.heap.size, 1, none⟩) pl).trans p1
  replace p2 := (b.cell (p := ⟨w.heap.size, 2, none⟩) pl).trans p2
  replace pl := Nat.lt_of_lt_of_le pl b.size
  replace q0 := (b.cell (p := ⟨w.heap.size + 1, 0, none⟩) ql).trans q0
  replace q1 := (b.cell (p := ⟨w.heap.size + 1, 1, none⟩) ql).trans q1
  replace q2 := (b.cell (p := ⟨w.heap.size + 1, 2, none⟩) ql).trans q2
  replace ql := Nat.lt_of_lt_of_le ql b.size
  replace cc := cc.trans (b.mono cc.size)
  clear b
  go_wp2_with fail
  refine (alive5_any _).mono ?_
  rintro e w3 ⟨rfl, b⟩
  replace p0 := (b.cell (p := ⟨w.heap.size, 0, none⟩) pl).trans p0
  replace p1 := (b.cell (p := ⟨w.heap.size, 1, none⟩) pl).trans p1
  replace p2 := (b.cell (p := ⟨w.heap.size, 2, none⟩) pl).trans p2
  replace pl := Nat.lt_of_lt_of_le pl b.size
  replace q0 := (b.cell (p := ⟨w.heap.size + 1, 0, none⟩) ql).trans q0
  replace q1 := (b.cell (p := ⟨w.heap.size + 1, 1, none⟩) ql).trans q1
  replace q2 := (b.cell (p := ⟨w.heap.size + 1, 2, none⟩) ql).trans q2
  replace ql := Nat.lt_of_lt_of_le ql b.size
  replace cc := cc.trans (b.mono cc.size)
  clear b
  go_wp2_with fail
  go_ret
  exact ⟨rfl, cc⟩

set_option maxRecDepth 100000 in
set_option maxHeartbeats 8000000 in
theorem RatBetween_no1 {w : World} {b0 b1 : Bool} {A0 B0 A1 B1 : Option Addr} {n0 c0 m0 d0 n1 c1 m1 d1 : Nat} (G0 : ∀ W : World, Below w.heap.size w W → Calls Try.prog 21 #[.agg #[.bool b0, .slice A0 n0 c0, .slice B0 m0 d0], .int .i64 3] W (GotV W (.bool true))) (G1 : ∀ W : World, Below w.heap.size w W → Calls Try.prog 21 #[.agg #[.bool b1, .slice A1 n1 c1, .slice B1 m1 d1], .int .i64 3] W (GotV W (.bool false))) :
    Calls Try.prog 9 #[.agg #[.bool b0, .slice A0 n0 c0, .slice B0 m0 d0], .agg #[.bool b1, .slice A1 n1 c1, .slice B1 m1 d1]] w fun e w' => e = .returned (.bool true) ∧ Below w.heap.size w w' := by
  have cc := Below.refl w.heap.size w
  go_enter Try.func9, Try.ntmps9
  go_wp2_with fail
  have bA : Below w.heap.size w ((w.alloc (.cells #[.bool b0, .slice A0 n0 c0, .slice B0 m0 d0] 27)).alloc (.cells #[.bool b1, .slice A1 n1 c1, .slice B1 m1 d1] 27)) := (((Below.refl _ w).alloc (by simp) _).alloc (by simp) _)
  replace cc := cc.trans (bA.mono cc.size)
  clear bA
  have p0 : ((w.alloc (.cells #[.bool b0, .slice A0 n0 c0, .slice B0 m0 d0] 27)).alloc (.cells #[.bool b1, .slice A1 n1 c1, .slice B1 m1 d1] 27)).cell? ⟨w.heap.size, 0, none⟩ = some (.bool b0) := by simp [go_sem]
  have p1 : ((w.alloc (.cells #[.bool b0, .slice A0 n0 c0, .slice B0 m0 d0] 27)).alloc (.cells #[.bool b1, .slice A1 n1 c1, .slice B1 m1 d1] 27)).cell? ⟨w.heap.size, 1, none⟩ = some (.slice A0 n0 c0) := by simp [go_sem]
  have p2 : ((w.alloc (.cells #[.bool b0, .slice A0 n0 c0, .slice B0 m0 d0] 27)).alloc (.cells #[.bool b1, .slice A1 n1 c1, .slice B1 m1 d1] 27)).cell? ⟨w.heap.size, 2, none⟩ = some (.slice B0 m0 d0) := by simp [go_sem]
  have pl : w.heap.size < ((w.alloc (.cells #[.bool b0, .slice A0 n0 c0, .slice B0 m0 d0] 27)).alloc (.cells #[.bool b1, .slice A1 n1 c1, .slice B1 m1 d1] 27)).heap.size := by simp <;> omega
  have q0 : ((w.alloc (.cells #[.bool b0, .slice A0 n0 c0, .slice B0 m0 d0] 27)).alloc (.cells #[.bool b1, .slice A1 n1 c1, .slice B1 m1 d1] 27)).cell? ⟨w.heap.size + 1, 0, none⟩ = some (.bool b1) := by simp [go_sem]
  have q1 : ((w.alloc (.cells #[.bool b0, .slice A0 n0 c0, .slice B0 m0 d0] 27)).alloc (.cells #[.bool b1, .slice A1 n1 c1, .slice B1 m1 d1] 27)).cell? ⟨w.heap.size + 1, 1, none⟩ = some (.slice A1 n1 c1) := by simp [go_sem]
  have q2 : ((w.alloc (.cells #[.bool b0, .slice A0 n0 c0, .slice B0 m0 d0] 27)).alloc (.cells #[.bool b1, .slice A1 n1 c1, .slice B1 m1 d1] 27)).cell? ⟨w.heap.size + 1, 2, none⟩ = some (.slice B1 m1 d1) := by simp [go_sem]
  have ql : w.heap.size + 1 < ((w.alloc (.cells #[.bool b0, .slice A0 n0 c0, .slice B0 m0 d0] 27)).alloc (.cells #[.bool b1, .slice A1 n1 c1, .slice B1 m1 d1] 27)).heap.size := by simp <;> omega
  generalize (w.alloc (.cells #[.bool b0, .slice A0 n0 c0, .slice B0 m0 d0] 27)).alloc (.cells #[.bool b1, .slice A1 n1 c1, .slice B1 m1 d1] 27) = v1 at *
  refine (G0 _ cc).mono ?_
  rintro e w2 ⟨rfl, b⟩
  replace p0 := (b.cell (p := ⟨w.heap.size, 0, none⟩) pl).trans p0
  replace p1 := (b.cell (p := ⟨w.heap.size, 1, none⟩) pl).trans p1
  replace p2 := (b.cell (p := ⟨w.heap.size, 2, none⟩) pl).trans p2
  replace pl := Nat.lt_of_lt_of_le pl b.size
  replace q0 := (b.cell (p := ⟨w.heap.size + 1, 0, none⟩) ql).trans q0
  replace q1 := (b.cell (p := ⟨w.heap.size + 1, 1, none⟩) ql).trans q1
  replace q2 := (b.cell (p := ⟨w.heap.size + 1, 2, none⟩) ql).trans q2
  replace ql := Nat.lt_of_lt_of_le ql b.size
  replace cc := cc.trans (b.mono cc.size)
  clear b
  go_wp2_with fail
  refine (G1 _ cc).mono ?_
  rintro e w3 ⟨rfl, b⟩
  replace p0 := (b.cell (p := ⟨w.heap.size, 0, none⟩) pl).trans p0
  replace p1 := (b.cell (p := ⟨w.heap.size, 1, none⟩) pl).trans p1
  replace p2 := (b.cell (p := ⟨w.heap.size, 2, none⟩) pl).trans p2
  replace pl := Nat.lt_of_lt_of_le pl b.size
  replace q0 := (b.cell (p := ⟨w.heap.size + 1, 0, none⟩) ql).trans q0
  replace q1 := (b.cell (p := ⟨w.heap.size + 1, 1, none⟩) ql).trans q1
  replace q2 := (b.cell (p := ⟨w.heap.size + 1, 2, none⟩) ql).trans q2
  replace ql := Nat.lt_of_lt_of_le ql b.size
  replace cc := cc.trans (b.mono cc.size)
  clear b
  go_wp2_with fail
  refine (alive5_any _).mono ?_
  rintro e w4 ⟨rfl, b⟩
  replace p0 := (b.cell (p := ⟨w.heap.size, 0, none⟩) pl).trans p0
  replace p1 := (b.cell (p := ⟨w.heap.size, 1, none⟩) pl).trans p1
  replace p2 := (b.cell (p := ⟨w.heap.size, 2, none⟩) pl).trans p2
  replace pl := Nat.lt_of_lt_of_le pl b.size
  replace q0 := (b.cell (p := ⟨w.heap.size + 1, 0, none⟩) ql).trans q0
  replace q1 := (b.cell (p := ⟨w.heap.size + 1, 1, none⟩) ql).trans q1
  replace q2 := (b.cell (p := ⟨w.heap.size + 1, 2, none⟩) ql).trans q2
  replace ql := Nat.lt_of_lt_of_le ql b.size
  replace cc := cc.trans (b.mono cc.size)
  clear b
  go_wp2_with fail
  go_ret
  exact ⟨rfl, cc⟩

set_option maxRecDepth 100000 in
set_option maxHeartbeats 8000000 in
theorem RatBetween_ok {w : World} {b0 b1 : Bool} {A0 B0 A1 B1 : Option Addr} {n0 c0 m0 d0 n1 c1 m1 d1 : Nat} {x0 : Rat} (h0 : Rt w b0 A0 n0 c0 B0 m0 d0 x0) (s0 : Sz x0 3) {x1 : Rat} (h1 : Rt w b1 A1 n1 c1 B1 m1 d1 x1) (s1 : Sz x1 3) (G0 : ∀ W : World, Below w.heap.size w W → Calls Try.prog 21 #[.agg #[.bool b0, .slice A0 n0 c0, .slice B0 m0 d0], .int .i64 3] W (GotV W (.bool true))) (G1 : ∀ W : World, Below w.heap.size w W → Calls Try.prog 21 #[.agg #[.bool b1, .slice A1 n1 c1, .slice B1 m1 d1], .int .i64 3] W (GotV W (.bool true))) :
    Calls Try.prog 9 #[.agg #[.bool b0, .slice A0 n0 c0, .slice B0 m0 d0], .agg #[.bool b1, .slice A1 n1 c1, .slice B1 m1 d1]] w fun e w' => e = .returned (.bool true) ∧ Below w.heap.size w w' := by
  obtain ⟨two, h2⟩ : ∃ r, ((2 : Int) : Rat) = r := ⟨_, rfl⟩
  have C2 : ∀ W : World, Calls Try.prog 19 #[.int .i64 2] W (GotRt W two) := fun W => by rw [← h2]; exact qof_N W 2 (by unfold I64; omega)
  have z2 : Sz two 1 := by rw [← h2]; exact sz_of (len_one (by decide))
  have n2 : two.num ≠ 0 := by rw [← h2]; decide
  obtain ⟨k, hk⟩ : ∃ k, cmpQ x0 x1 = k := ⟨_, rfl⟩
  have K1 : Hid (cmpQ x0 ((x0 + x1) / two) = k) := Lib.hid (by rw [← h2, cmpQ_low, hk])
  have K2 : Hid (cmpQ ((x0 + x1) / two) x1 = k) := Lib.hid (by rw [← h2, cmpQ_high, hk])
  have K3 := Lib.hid hk
  have e1 : Hid (x1 + (x0 - x1) = x0) := Lib.hid (by grind)
  clear hk h2
  have s01 := s0.add s1
  have sm := s01.div z2 n2
  have sd := s0.sub s1
  have sb := s1.add sd
  have cc := Below.refl w.heap.size w
  go_enter Try.func9, Try.ntmps9
  go_wp2_with fail
  have bA : Below w.heap.size w ((w.alloc (.cells #[.bool b0, .slice A0 n0 c0, .slice B0 m0 d0] 27)).alloc (.cells #[.bool b1, .slice A1 n1 c1, .slice B1 m1 d1] 27)) := (((Below.refl _ w).alloc (by simp) _).alloc (by simp) _)
  replace h0 := h0.on bA
  replace h1 := h1.on bA
  replace cc := cc.trans (bA.mono cc.size)
  clear bA
  have p0 : ((w.alloc (.cells #[.bool b0, .slice A0 n0 c0, .slice B0 m0 d0] 27)).alloc (.cells #[.bool b1, .slice A1 n1 c1, .slice B1 m1 d1] 27)).cell? ⟨w.heap.size, 0, none⟩ = some (.bool b0) := by simp [go_sem]
  have p1 : ((w.alloc (.cells #[.bool b0, .slice A0 n0 c0, .slice B0 m0 d0] 27)).alloc (.cells #[.bool b1, .slice A1 n1 c1, .slice B1 m1 d1] 27)).cell? ⟨w.heap.size, 1, none⟩ = some (.slice A0 n0 c0) := by simp [go_sem]
  have p2 : ((w.alloc (.cells #[.bool b0, .slice A0 n0 c0, .slice B0 m0 d0] 27)).alloc (.cells #[.bool b1, .slice A1 n1 c1, .slice B1 m1 d1] 27)).cell? ⟨w.heap.size, 2, none⟩ = some (.slice B0 m0 d0) := by simp [go_sem]
  have pl : w.heap.size < ((w.alloc (.cells #[.bool b0, .slice A0 n0 c0, .slice B0 m0 d0] 27)).alloc (.cells #[.bool b1, .slice A1 n1 c1, .slice B1 m1 d1] 27)).heap.size := by simp <;> omega
  have q0 : ((w.alloc (.cells #[.bool b0, .slice A0 n0 c0, .slice B0 m0 d0] 27)).alloc (.cells #[.bool b1, .slice A1 n1 c1, .slice B1 m1 d1] 27)).cell? ⟨w.heap.size + 1, 0, none⟩ = some (.bool b1) := by simp [go_sem]
  have q1 : ((w.alloc (.cells #[.bool b0, .slice A0 n0 c0, .slice B0 m0 d0] 27)).alloc (.cells #[.bool b1, .slice A1 n1 c1, .slice B1 m1 d1] 27)).cell? ⟨w.heap.size + 1, 1, none⟩ = some (.slice A1 n1 c1) := by simp [go_sem]
  have q2 : ((w.alloc (.cells #[.bool b0, .slice A0 n0 c0, .slice B0 m0 d0] 27)).alloc (.cells #[.bool b1, .slice A1 n1 c1, .slice B1 m1 d1] 27)).cell? ⟨w.heap.size + 1, 2, none⟩ = some (.slice B1 m1 d1) := by simp [go_sem]
  have ql : w.heap.size + 1 < ((w.alloc (.cells #[.bool b0, .slice A0 n0 c0, .slice B0 m0 d0] 27)).alloc (.cells #[.bool b1, .slice A1 n1 c1, .slice B1 m1 d1] 27)).heap.size := by simp <;> omega
  generalize (w.alloc (.cells #[.bool b0, .slice A0 n0 c0, .slice B0 m0 d0] 27)).alloc (.cells #[.bool b1, .slice A1 n1 c1, .slice B1 m1 d1] 27) = v1 at *
  refine (G0 _ cc).mono ?_
  rintro e w2 ⟨rfl, b⟩
  replace h0 := h0.on b
  replace h1 := h1.on b
  replace p0 := (b.cell (p := ⟨w.heap.size, 0, none⟩) pl).trans p0
  replace p1 := (b.cell (p := ⟨w.heap.size, 1, none⟩) pl).trans p1
  replace p2 := (b.cell (p := ⟨w.heap.size, 2, none⟩) pl).trans p2
  replace pl := Nat.lt_of_lt_of_le pl b.size
  replace q0 := (b.cell (p := ⟨w.heap.size + 1, 0, none⟩) ql).trans q0
  replace q1 := (b.cell (p := ⟨w.heap.size + 1, 1, none⟩) ql).trans q1
  replace q2 := (b.cell (p := ⟨w.heap.size + 1, 2, none⟩) ql).trans q2
  replace ql := Nat.lt_of_lt_of_le ql b.size
  replace cc := cc.trans (b.mono cc.size)
  clear b
  go_wp2_with fail
  refine (G1 _ cc).mono ?_
  rintro e w3 ⟨rfl, b⟩
  replace h0 := h0.on b
  replace h1 := h1.on b
  replace p0 := (b.cell (p := ⟨w.heap.size, 0, none⟩) pl).trans p0
  replace p1 := (b.cell (p := ⟨w.heap.size, 1, none⟩) pl).trans p1
  replace p2 := (b.cell (p := ⟨w.heap.size, 2, none⟩) pl).trans p2
  replace pl := Nat.lt_of_lt_of_le pl b.size
  replace q0 := (b.cell (p := ⟨w.heap.size + 1, 0, none⟩) ql).trans q0
  replace q1 := (b.cell (p := ⟨w.heap.size + 1, 1, none⟩) ql).trans q1
  replace q2 := (b.cell (p := ⟨w.heap.size + 1, 2, none⟩) ql).trans q2
  replace ql := Nat.lt_of_lt_of_le ql b.size
  replace cc := cc.trans (b.mono cc.size)
  clear b
  go_wp2_with fail
  refine (qadd_N h0 (s0.le (by omega)) h1 (s1.le (by omega))).mono ?_
  rintro e w4 ⟨bfa, Afa, nfa, cfa, Bfa, mfa, dfa, rfl, fa, b⟩
  replace h0 := h0.on b
  replace h1 := h1.on b
  replace p0 := (b.cell (p := ⟨w.heap.size, 0, none⟩) pl).trans p0
  replace p1 := (b.cell (p := ⟨w.heap.size, 1, none⟩) pl).trans p1
  replace p2 := (b.cell (p := ⟨w.heap.size, 2, none⟩) pl).trans p2
  replace pl := Nat.lt_of_lt_of_le pl b.size
  replace q0 := (b.cell (p := ⟨w.heap.size + 1, 0, none⟩) ql).trans q0
  replace q1 := (b.cell (p := ⟨w.heap.size + 1, 1, none⟩) ql).trans q1
  replace q2 := (b.cell (p := ⟨w.heap.size + 1, 2, none⟩) ql).trans q2
  replace ql := Nat.lt_of_lt_of_le ql b.size
  replace cc := cc.trans (b.mono cc.size)
  clear b
  go_wp2_with fail
  refine (C2 _).mono ?_
  rintro e w5 ⟨bfb, Afb, nfb, cfb, Bfb, mfb, dfb, rfl, fb, b⟩
  replace h0 := h0.on b
  replace h1 := h1.on b
  replace fa := fa.on b
  replace p0 := (b.cell (p := ⟨w.heap.size, 0, none⟩) pl).trans p0
  replace p1 := (b.cell (p := ⟨w.heap.size, 1, none⟩) pl).trans p1
  replace p2 := (b.cell (p := ⟨w.heap.size, 2, none⟩) pl).trans p2
  replace pl := Nat.lt_of_lt_of_le pl b.size
  replace q0 := (b.cell (p := ⟨w.heap.size + 1, 0, none⟩) ql).trans q0
  replace q1 := (b.cell (p := ⟨w.heap.size + 1, 1, none⟩) ql).trans q1
  replace q2 := (b.cell (p := ⟨w.heap.size + 1, 2, none⟩) ql).trans q2
  replace ql := Nat.lt_of_lt_of_le ql b.size
  replace cc := cc.trans (b.mono cc.size)
  clear b
  go_wp2_with fail
  refine (qdiv_N fa (s01.le (by omega)) fb (z2.le (by omega)) n2).mono ?_
  rintro e w6 ⟨bu, Au, nu, cu, Bu, mu, du, rfl, hu, b⟩
  replace h0 := h0.on b
  replace h1 := h1.on b
  replace fa := fa.on b
  replace fb := fb.on b
  replace p0 := (b.cell (p := ⟨w.heap.size, 0, none⟩) pl).trans p0
  replace p1 := (b.cell (p := ⟨w.heap.size, 1, none⟩) pl).trans p1
  replace p2 := (b.cell (p := ⟨w.heap.size, 2, none⟩) pl).trans p2
  replace pl := Nat.lt_of_lt_of_le pl b.size
  replace q0 := (b.cell (p := ⟨w.heap.size + 1, 0, none⟩) ql).trans q0
  replace q1 := (b.cell (p := ⟨w.heap.size + 1, 1, none⟩) ql).trans q1
  replace q2 := (b.cell (p := ⟨w.heap.size + 1, 2, none⟩) ql).trans q2
  replace ql := Nat.lt_of_lt_of_le ql b.size
  replace cc := cc.trans (b.mono cc.size)
  clear b
  go_wp2_with fail
  have bA := below_one w6 (.cells #[.bool bu, .slice Au nu cu, .slice Bu mu du] 27)
  replace h0 := h0.on bA
  replace h1 := h1.on bA
  replace fa := fa.on bA
  replace fb := fb.on bA
  replace hu := hu.on bA
  replace p0 := (bA.cell (p := ⟨w.heap.size, 0, none⟩) pl).trans p0
  replace p1 := (bA.cell (p := ⟨w.heap.size, 1, none⟩) pl).trans p1
  replace p2 := (bA.cell (p := ⟨w.heap.size, 2, none⟩) pl).trans p2
  replace pl := Nat.lt_of_lt_of_le pl bA.size
  replace q0 := (bA.cell (p := ⟨w.heap.size + 1, 0, none⟩) ql).trans q0
  replace q1 := (bA.cell (p := ⟨w.heap.size + 1, 1, none⟩) ql).trans q1
  replace q2 := (bA.cell (p := ⟨w.heap.size + 1, 2, none⟩) ql).trans q2
  replace ql := Nat.lt_of_lt_of_le ql bA.size
  replace cc := cc.trans (bA.mono cc.size)
  clear bA
  have u0 : (w6.alloc (.cells #[.bool bu, .slice Au nu cu, .slice Bu mu du] 27)).cell? ⟨w6.heap.size, 0, none⟩ = some (.bool bu) := by simp [go_sem]
  have u1 : (w6.alloc (.cells #[.bool bu, .slice Au nu cu, .slice Bu mu du] 27)).cell? ⟨w6.heap.size, 1, none⟩ = some (.slice Au nu cu) := by simp [go_sem]
  have u2 : (w6.alloc (.cells #[.bool bu, .slice Au nu cu, .slice Bu mu du] 27)).cell? ⟨w6.heap.size, 2, none⟩ = some (.slice Bu mu du) := by simp [go_sem]
  have ul : w6.heap.size < (w6.alloc (.cells #[.bool bu, .slice Au nu cu, .slice Bu mu du] 27)).heap.size := by simp
  generalize w6.alloc (.cells #[.bool bu, .slice Au nu cu, .slice Bu mu du] 27) = v7 at *
  clear fa fb
  have qq : Below v7.heap.size v7 v7.drew := below_drewN (Below.refl _ v7) 1
  have h0' := h0.on qq
  have h1' := h1.on qq
  have hu' := hu.on qq
  go_region_held3 (fun w' => w'.cell? ⟨w.heap.size, 0, none⟩ = some (.bool b0) ∧ w'.cell? ⟨w.heap.size, 1, none⟩ = some (.slice A0 n0 c0) ∧ w'.cell? ⟨w.heap.size, 2, none⟩ = some (.slice B0 m0 d0) ∧ w'.cell? ⟨w.heap.size + 1, 0, none⟩ = some (.bool b1) ∧ w'.cell? ⟨w.heap.size + 1, 1, none⟩ = some (.slice A1 n1 c1) ∧ w'.cell? ⟨w.heap.size + 1, 2, none⟩ = some (.slice B1 m1 d1) ∧ w'.cell? ⟨w6.heap.size, 0, none⟩ = some (.bool bu) ∧ w'.cell? ⟨w6.heap.size, 1, none⟩ = some (.slice Au nu cu) ∧ w'.cell? ⟨w6.heap.size, 2, none⟩ = some (.slice Bu mu du))
    (first | with_reducible exact ⟨(qq.cell (p := ⟨w.heap.size, 0, none⟩) pl).trans p0, (qq.cell (p := ⟨w.heap.size, 1, none⟩) pl).trans p1, (qq.cell (p := ⟨w.heap.size, 2, none⟩) pl).trans p2, (qq.cell (p := ⟨w.heap.size + 1, 0, none⟩) ql).trans q0, (qq.cell (p := ⟨w.heap.size + 1, 1, none⟩) ql).trans q1, (qq.cell (p := ⟨w.heap.size + 1, 2, none⟩) ql).trans q2, (qq.cell (p := ⟨w6.heap.size, 0, none⟩) ul).trans u0, (qq.cell (p := ⟨w6.heap.size, 1, none⟩) ul).trans u1, (qq.cell (p := ⟨w6.heap.size, 2, none⟩) ul).trans u2⟩ | go_keep)
    (first
      | (go_at_call 30; (with_reducible refine (qcmp_v k h0' (s0.le (by omega)) hu' (sm.le (by omega)) K1.out).mono ?_); rintro e wz ⟨rfl, q⟩; replace qq := qq.trans (q.mono qq.size); (try replace h0' := h0'.on q); (try replace h1' := h1'.on q); (try replace hu' := hu'.on q); clear q)
      | (go_at_call 30; (with_reducible refine (qcmp_v k hu' (sm.le (by omega)) h1' (s1.le (by omega)) K2.out).mono ?_); rintro e wz ⟨rfl, q⟩; replace qq := qq.trans (q.mono qq.size); (try replace h0' := h0'.on q); (try replace h1' := h1'.on q); (try replace hu' := hu'.on q); clear q))
  clear h0
  have h0 := h0'
  clear h0'
  clear h1
  have h1 := h1'
  clear h1'
  clear hu
  have hu := hu'
  clear hu'
  replace p0 := (qq.cell (p := ⟨w.heap.size, 0, none⟩) pl).trans p0
  replace p1 := (qq.cell (p := ⟨w.heap.size, 1, none⟩) pl).trans p1
  replace p2 := (qq.cell (p := ⟨w.heap.size, 2, none⟩) pl).trans p2
  replace pl := Nat.lt_of_lt_of_le pl qq.size
  replace q0 := (qq.cell (p := ⟨w.heap.size + 1, 0, none⟩) ql).trans q0
  replace q1 := (qq.cell (p := ⟨w.heap.size + 1, 1, none⟩) ql).trans q1
  replace q2 := (qq.cell (p := ⟨w.heap.size + 1, 2, none⟩) ql).trans q2
  replace ql := Nat.lt_of_lt_of_le ql qq.size
  replace u0 := (qq.cell (p := ⟨w6.heap.size, 0, none⟩) ul).trans u0
  replace u1 := (qq.cell (p := ⟨w6.heap.size, 1, none⟩) ul).trans u1
  replace u2 := (qq.cell (p := ⟨w6.heap.size, 2, none⟩) ul).trans u2
  replace ul := Nat.lt_of_lt_of_le ul qq.size
  replace cc := cc.trans (qq.mono cc.size)
  clear qq
  go_upto_region 5 with fail
  go_cut [9] (fun u wx => ∃ (g : Nat) (b : Bool) (A : Option Addr) (n c : Nat) (B : Option Addr) (m d : Nat), u = .pointer (some ⟨g, 0, none⟩) ∧ LoneR wz wx g b A n c B m d (x1 + (x0 - x1)))
  case first =>
    have BB0 : Below wz.heap.size wz wz.drew := below_drewN (Below.refl _ wz) 1
    have BB1 : Below wz.heap.size wz (wz.alloc (.cells #[.bool false, .slice none 0 0, .slice none 0 0] 27)).drew := below_drewN (below_one _ _) 1
    go_region_held3 (fun w' => w'.cell? ⟨w.heap.size, 0, none⟩ = some (.bool b0) ∧ w'.cell? ⟨w.heap.size, 1, none⟩ = some (.slice A0 n0 c0) ∧ w'.cell? ⟨w.heap.size, 2, none⟩ = some (.slice B0 m0 d0) ∧ w'.cell? ⟨w.heap.size + 1, 0, none⟩ = some (.bool b1) ∧ w'.cell? ⟨w.heap.size + 1, 1, none⟩ = some (.slice A1 n1 c1) ∧ w'.cell? ⟨w.heap.size + 1, 2, none⟩ = some (.slice B1 m1 d1) ∧ w'.cell? ⟨w6.heap.size, 0, none⟩ = some (.bool bu) ∧ w'.cell? ⟨w6.heap.size, 1, none⟩ = some (.slice Au nu cu) ∧ w'.cell? ⟨w6.heap.size, 2, none⟩ = some (.slice Bu mu du))
      (first | with_reducible exact ⟨p0, p1, p2, q0, q1, q2, u0, u1, u2⟩ | with_reducible exact ⟨keep_alloc (p0), keep_alloc (p1), keep_alloc (p2), keep_alloc (q0), keep_alloc (q1), keep_alloc (q2), keep_alloc (u0), keep_alloc (u1), keep_alloc (u2)⟩ | with_reducible exact ⟨keep_alloc (keep_alloc (p0)), keep_alloc (keep_alloc (p1)), keep_alloc (keep_alloc (p2)), keep_alloc (keep_alloc (q0)), keep_alloc (keep_alloc (q1)), keep_alloc (keep_alloc (q2)), keep_alloc (keep_alloc (u0)), keep_alloc (keep_alloc (u1)), keep_alloc (keep_alloc (u2))⟩ | with_reducible exact ⟨((qq.cell (p := ⟨w.heap.size, 0, none⟩) pl).trans p0), ((qq.cell (p := ⟨w.heap.size, 1, none⟩) pl).trans p1), ((qq.cell (p := ⟨w.heap.size, 2, none⟩) pl).trans p2), ((qq.cell (p := ⟨w.heap.size + 1, 0, none⟩) ql).trans q0), ((qq.cell (p := ⟨w.heap.size + 1, 1, none⟩) ql).trans q1), ((qq.cell (p := ⟨w.heap.size + 1, 2, none⟩) ql).trans q2), ((qq.cell (p := ⟨w6.heap.size, 0, none⟩) ul).trans u0), ((qq.cell (p := ⟨w6.heap.size, 1, none⟩) ul).trans u1), ((qq.cell (p := ⟨w6.heap.size, 2, none⟩) ul).trans u2)⟩ | with_reducible exact ⟨keep_alloc (((qq.cell (p := ⟨w.heap.size, 0, none⟩) pl).trans p0)), keep_alloc (((qq.cell (p := ⟨w.heap.size, 1, none⟩) pl).trans p1)), keep_alloc (((qq.cell (p := ⟨w.heap.size, 2, none⟩) pl).trans p2)), keep_alloc (((qq.cell (p := ⟨w.heap.size + 1, 0, none⟩) ql).trans q0)), keep_alloc (((qq.cell (p := ⟨w.heap.size + 1, 1, none⟩) ql).trans q1)), keep_alloc (((qq.cell (p := ⟨w.heap.size + 1, 2, none⟩) ql).trans q2)), keep_alloc (((qq.cell (p := ⟨w6.heap.size, 0, none⟩) ul).trans u0)), keep_alloc (((qq.cell (p := ⟨w6.heap.size, 1, none⟩) ul).trans u1)), keep_alloc (((qq.cell (p := ⟨w6.heap.size, 2, none⟩) ul).trans u2))⟩ | with_reducible exact ⟨keep_alloc (keep_alloc (((qq.cell (p := ⟨w.heap.size, 0, none⟩) pl).trans p0))), keep_alloc (keep_alloc (((qq.cell (p := ⟨w.heap.size, 1, none⟩) pl).trans p1))), keep_alloc (keep_alloc (((qq.cell (p := ⟨w.heap.size, 2, none⟩) pl).trans p2))), keep_alloc (keep_alloc (((qq.cell (p := ⟨w.heap.size + 1, 0, none⟩) ql).trans q0))), keep_alloc (keep_alloc (((qq.cell (p := ⟨w.heap.size + 1, 1, none⟩) ql).trans q1))), keep_alloc (keep_alloc (((qq.cell (p := ⟨w.heap.size + 1, 2, none⟩) ql).trans q2))), keep_alloc (keep_alloc (((qq.cell (p := ⟨w6.heap.size, 0, none⟩) ul).trans u0))), keep_alloc (keep_alloc (((qq.cell (p := ⟨w6.heap.size, 1, none⟩) ul).trans u1))), keep_alloc (keep_alloc (((qq.cell (p := ⟨w6.heap.size, 2, none⟩) ul).trans u2)))⟩ | with_reducible exact ⟨((cell_putR (by omega)).trans ((qq.cell (p := ⟨w.heap.size, 0, none⟩) pl).trans p0)), ((cell_putR (by omega)).trans ((qq.cell (p := ⟨w.heap.size, 1, none⟩) pl).trans p1)), ((cell_putR (by omega)).trans ((qq.cell (p := ⟨w.heap.size, 2, none⟩) pl).trans p2)), ((cell_putR (by omega)).trans ((qq.cell (p := ⟨w.heap.size + 1, 0, none⟩) ql).trans q0)), ((cell_putR (by omega)).trans ((qq.cell (p := ⟨w.heap.size + 1, 1, none⟩) ql).trans q1)), ((cell_putR (by omega)).trans ((qq.cell (p := ⟨w.heap.size + 1, 2, none⟩) ql).trans q2)), ((cell_putR (by omega)).trans ((qq.cell (p := ⟨w6.heap.size, 0, none⟩) ul).trans u0)), ((cell_putR (by omega)).trans ((qq.cell (p := ⟨w6.heap.size, 1, none⟩) ul).trans u1)), ((cell_putR (by omega)).trans ((qq.cell (p := ⟨w6.heap.size, 2, none⟩) ul).trans u2))⟩ | with_reducible exact ⟨((cell_store (by omega)).trans ((qq.cell (p := ⟨w.heap.size, 0, none⟩) pl).trans p0)), ((cell_store (by omega)).trans ((qq.cell (p := ⟨w.heap.size, 1, none⟩) pl).trans p1)), ((cell_store (by omega)).trans ((qq.cell (p := ⟨w.heap.size, 2, none⟩) pl).trans p2)), ((cell_store (by omega)).trans ((qq.cell (p := ⟨w.heap.size + 1, 0, none⟩) ql).trans q0)), ((cell_store (by omega)).trans ((qq.cell (p := ⟨w.heap.size + 1, 1, none⟩) ql).trans q1)), ((cell_store (by omega)).trans ((qq.cell (p := ⟨w.heap.size + 1, 2, none⟩) ql).trans q2)), ((cell_store (by omega)).trans ((qq.cell (p := ⟨w6.heap.size, 0, none⟩) ul).trans u0)), ((cell_store (by omega)).trans ((qq.cell (p := ⟨w6.heap.size, 1, none⟩) ul).trans u1)), ((cell_store (by omega)).trans ((qq.cell (p := ⟨w6.heap.size, 2, none⟩) ul).trans u2))⟩ | with_reducible exact ⟨keep_alloc (((cell_putR (by omega)).trans ((qq.cell (p := ⟨w.heap.size, 0, none⟩) pl).trans p0))), keep_alloc (((cell_putR (by omega)).trans ((qq.cell (p := ⟨w.heap.size, 1, none⟩) pl).trans p1))), keep_alloc (((cell_putR (by omega)).trans ((qq.cell (p := ⟨w.heap.size, 2, none⟩) pl).trans p2))), keep_alloc (((cell_putR (by omega)).trans ((qq.cell (p := ⟨w.heap.size + 1, 0, none⟩) ql).trans q0))), keep_alloc (((cell_putR (by omega)).trans ((qq.cell (p := ⟨w.heap.size + 1, 1, none⟩) ql).trans q1))), keep_alloc (((cell_putR (by omega)).trans ((qq.cell (p := ⟨w.heap.size + 1, 2, none⟩) ql).trans q2))), keep_alloc (((cell_putR (by omega)).trans ((qq.cell (p := ⟨w6.heap.size, 0, none⟩) ul).trans u0))), keep_alloc (((cell_putR (by omega)).trans ((qq.cell (p := ⟨w6.heap.size, 1, none⟩) ul).trans u1))), keep_alloc (((cell_putR (by omega)).trans ((qq.cell (p := ⟨w6.heap.size, 2, none⟩) ul).trans u2)))⟩ | with_reducible exact ⟨keep_alloc (((cell_store (by omega)).trans ((qq.cell (p := ⟨w.heap.size, 0, none⟩) pl).trans p0))), keep_alloc (((cell_store (by omega)).trans ((qq.cell (p := ⟨w.heap.size, 1, none⟩) pl).trans p1))), keep_alloc (((cell_store (by omega)).trans ((qq.cell (p := ⟨w.heap.size, 2, none⟩) pl).trans p2))), keep_alloc (((cell_store (by omega)).trans ((qq.cell (p := ⟨w.heap.size + 1, 0, none⟩) ql).trans q0))), keep_alloc (((cell_store (by omega)).trans ((qq.cell (p := ⟨w.heap.size + 1, 1, none⟩) ql).trans q1))), keep_alloc (((cell_store (by omega)).trans ((qq.cell (p := ⟨w.heap.size + 1, 2, none⟩) ql).trans q2))), keep_alloc (((cell_store (by omega)).trans ((qq.cell (p := ⟨w6.heap.size, 0, none⟩) ul).trans u0))), keep_alloc (((cell_store (by omega)).trans ((qq.cell (p := ⟨w6.heap.size, 1, none⟩) ul).trans u1))), keep_alloc (((cell_store (by omega)).trans ((qq.cell (p := ⟨w6.heap.size, 2, none⟩) ul).trans u2)))⟩ | with_reducible exact ⟨keep_alloc (keep_alloc (((cell_putR (by omega)).trans ((qq.cell (p := ⟨w.heap.size, 0, none⟩) pl).trans p0)))), keep_alloc (keep_alloc (((cell_putR (by omega)).trans ((qq.cell (p := ⟨w.heap.size, 1, none⟩) pl).trans p1)))), keep_alloc (keep_alloc (((cell_putR (by omega)).trans ((qq.cell (p := ⟨w.heap.size, 2, none⟩) pl).trans p2)))), keep_alloc (keep_alloc (((cell_putR (by omega)).trans ((qq.cell (p := ⟨w.heap.size + 1, 0, none⟩) ql).trans q0)))), keep_alloc (keep_alloc (((cell_putR (by omega)).trans ((qq.cell (p := ⟨w.heap.size + 1, 1, none⟩) ql).trans q1)))), keep_alloc (keep_alloc (((cell_putR (by omega)).trans ((qq.cell (p := ⟨w.heap.size + 1, 2, none⟩) ql).trans q2)))), keep_alloc (keep_alloc (((cell_putR (by omega)).trans ((qq.cell (p := ⟨w6.heap.size, 0, none⟩) ul).trans u0)))), keep_alloc (keep_alloc (((cell_putR (by omega)).trans ((qq.cell (p := ⟨w6.heap.size, 1, none⟩) ul).trans u1)))), keep_alloc (keep_alloc (((cell_putR (by omega)).trans ((qq.cell (p := ⟨w6.heap.size, 2, none⟩) ul).trans u2))))⟩ | with_reducible exact ⟨keep_alloc (keep_alloc (((cell_store (by omega)).trans ((qq.cell (p := ⟨w.heap.size, 0, none⟩) pl).trans p0)))), keep_alloc (keep_alloc (((cell_store (by omega)).trans ((qq.cell (p := ⟨w.heap.size, 1, none⟩) pl).trans p1)))), keep_alloc (keep_alloc (((cell_store (by omega)).trans ((qq.cell (p := ⟨w.heap.size, 2, none⟩) pl).trans p2)))), keep_alloc (keep_alloc (((cell_store (by omega)).trans ((qq.cell (p := ⟨w.heap.size + 1, 0, none⟩) ql).trans q0)))), keep_alloc (keep_alloc (((cell_store (by omega)).trans ((qq.cell (p := ⟨w.heap.size + 1, 1, none⟩) ql).trans q1)))), keep_alloc (keep_alloc (((cell_store (by omega)).trans ((qq.cell (p := ⟨w.heap.size + 1, 2, none⟩) ql).trans q2)))), keep_alloc (keep_alloc (((cell_store (by omega)).trans ((qq.cell (p := ⟨w6.heap.size, 0, none⟩) ul).trans u0)))), keep_alloc (keep_alloc (((cell_store (by omega)).trans ((qq.cell (p := ⟨w6.heap.size, 1, none⟩) ul).trans u1)))), keep_alloc (keep_alloc (((cell_store (by omega)).trans ((qq.cell (p := ⟨w6.heap.size, 2, none⟩) ul).trans u2))))⟩ | with_reducible exact ⟨((cell_putR (by omega)).trans ((cell_putR (by omega)).trans ((qq.cell (p := ⟨w.heap.size, 0, none⟩) pl).trans p0))), ((cell_putR (by omega)).trans ((cell_putR (by omega)).trans ((qq.cell (p := ⟨w.heap.size, 1, none⟩) pl).trans p1))), ((cell_putR (by omega)).trans ((cell_putR (by omega)).trans ((qq.cell (p := ⟨w.heap.size, 2, none⟩) pl).trans p2))), ((cell_putR (by omega)).trans ((cell_putR (by omega)).trans ((qq.cell (p := ⟨w.heap.size + 1, 0, none⟩) ql).trans q0))), ((cell_putR (by omega)).trans ((cell_putR (by omega)).trans ((qq.cell (p := ⟨w.heap.size + 1, 1, none⟩) ql).trans q1))), ((cell_putR (by omega)).trans ((cell_putR (by omega)).trans ((qq.cell (p := ⟨w.heap.size + 1, 2, none⟩) ql).trans q2))), ((cell_putR (by omega)).trans ((cell_putR (by omega)).trans ((qq.cell (p := ⟨w6.heap.size, 0, none⟩) ul).trans u0))), ((cell_putR (by omega)).trans ((cell_putR (by omega)).trans ((qq.cell (p := ⟨w6.heap.size, 1, none⟩) ul).trans u1))), ((cell_putR (by omega)).trans ((cell_putR (by omega)).trans ((qq.cell (p := ⟨w6.heap.size, 2, none⟩) ul).trans u2)))⟩ | with_reducible exact ⟨((cell_store (by omega)).trans ((cell_store (by omega)).trans ((qq.cell (p := ⟨w.heap.size, 0, none⟩) pl).trans p0))), ((cell_store (by omega)).trans ((cell_store (by omega)).trans ((qq.cell (p := ⟨w.heap.size, 1, none⟩) pl).trans p1))), ((cell_store (by omega)).trans ((cell_store (by omega)).trans ((qq.cell (p := ⟨w.heap.size, 2, none⟩) pl).trans p2))), ((cell_store (by omega)).trans ((cell_store (by omega)).trans ((qq.cell (p := ⟨w.heap.size + 1, 0, none⟩) ql).trans q0))), ((cell_store (by omega)).trans ((cell_store (by omega)).trans ((qq.cell (p := ⟨w.heap.size + 1, 1, none⟩) ql).trans q1))), ((cell_store (by omega)).trans ((cell_store (by omega)).trans ((qq.cell (p := ⟨w.heap.size + 1, 2, none⟩) ql).trans q2))), ((cell_store (by omega)).trans ((cell_store (by omega)).trans ((qq.cell (p := ⟨w6.heap.size, 0, none⟩) ul).trans u0))), ((cell_store (by omega)).trans ((cell_store (by omega)).trans ((qq.cell (p := ⟨w6.heap.size, 1, none⟩) ul).trans u1))), ((cell_store (by omega)).trans ((cell_store (by omega)).trans ((qq.cell (p := ⟨w6.heap.size, 2, none⟩) ul).trans u2)))⟩ | with_reducible exact ⟨keep_alloc (((cell_putR (by omega)).trans ((cell_putR (by omega)).trans ((qq.cell (p := ⟨w.heap.size, 0, none⟩) pl).trans p0)))), keep_alloc (((cell_putR (by omega)).trans ((cell_putR (by omega)).trans ((qq.cell (p := ⟨w.heap.size, 1, none⟩) pl).trans p1)))), keep_alloc (((cell_putR (by omega)).trans ((cell_putR (by omega)).trans ((qq.cell (p := ⟨w.heap.size, 2, none⟩) pl).trans p2)))), keep_alloc (((cell_putR (by omega)).trans ((cell_putR (by omega)).trans ((qq.cell (p := ⟨w.heap.size + 1, 0, none⟩) ql).trans q0)))), keep_alloc (((cell_putR (by omega)).trans ((cell_putR (by omega)).trans ((qq.cell (p := ⟨w.heap.size + 1, 1, none⟩) ql).trans q1)))), keep_alloc (((cell_putR (by omega)).trans ((cell_putR (by omega)).trans ((qq.cell (p := ⟨w.heap.size + 1, 2, none⟩) ql).trans q2)))), keep_alloc (((cell_putR (by omega)).trans ((cell_putR (by omega)).trans ((qq.cell (p := ⟨w6.heap.size, 0, none⟩) ul).trans u0)))), keep_alloc (((cell_putR (by omega)).trans ((cell_putR (by omega)).trans ((qq.cell (p := ⟨w6.heap.size, 1, none⟩) ul).trans u1)))), keep_alloc (((cell_putR (by omega)).trans ((cell_putR (by omega)).trans ((qq.cell (p := ⟨w6.heap.size, 2, none⟩) ul).trans u2))))⟩ | with_reducible exact ⟨keep_alloc (((cell_store (by omega)).trans ((cell_store (by omega)).trans ((qq.cell (p := ⟨w.heap.size, 0, none⟩) pl).trans p0)))), keep_alloc (((cell_store (by omega)).trans ((cell_store (by omega)).trans ((qq.cell (p := ⟨w.heap.size, 1, none⟩) pl).trans p1)))), keep_alloc (((cell_store (by omega)).trans ((cell_store (by omega)).trans ((qq.cell (p := ⟨w.heap.size, 2, none⟩) pl).trans p2)))), keep_alloc (((cell_store (by omega)).trans ((cell_store (by omega)).trans ((qq.cell (p := ⟨w.heap.size + 1, 0, none⟩) ql).trans q0)))), keep_alloc (((cell_store (by omega)).trans ((cell_store (by omega)).trans ((qq.cell (p := ⟨w.heap.size + 1, 1, none⟩) ql).trans q1)))), keep_alloc (((cell_store (by omega)).trans ((cell_store (by omega)).trans ((qq.cell (p := ⟨w.heap.size + 1, 2, none⟩) ql).trans q2)))), keep_alloc (((cell_store (by omega)).trans ((cell_store (by omega)).trans ((qq.cell (p := ⟨w6.heap.size, 0, none⟩) ul).trans u0)))), keep_alloc (((cell_store (by omega)).trans ((cell_store (by omega)).trans ((qq.cell (p := ⟨w6.heap.size, 1, none⟩) ul).trans u1)))), keep_alloc (((cell_store (by omega)).trans ((cell_store (by omega)).trans ((qq.cell (p := ⟨w6.heap.size, 2, none⟩) ul).trans u2))))⟩ | with_reducible exact ⟨keep_alloc (keep_alloc (((cell_putR (by omega)).trans ((cell_putR (by omega)).trans ((qq.cell (p := ⟨w.heap.size, 0, none⟩) pl).trans p0))))), keep_alloc (keep_alloc (((cell_putR (by omega)).trans ((cell_putR (by omega)).trans ((qq.cell (p := ⟨w.heap.size, 1, none⟩) pl).trans p1))))), keep_alloc (keep_alloc (((cell_putR (by omega)).trans ((cell_putR (by omega)).trans ((qq.cell (p := ⟨w.heap.size, 2, none⟩) pl).trans p2))))), keep_alloc (keep_alloc (((cell_putR (by omega)).trans ((cell_putR (by omega)).trans ((qq.cell (p := ⟨w.heap.size + 1, 0, none⟩) ql).trans q0))))), keep_alloc (keep_alloc (((cell_putR (by omega)).trans ((cell_putR (by omega)).trans ((qq.cell (p := ⟨w.heap.size + 1, 1, none⟩) ql).trans q1))))), keep_alloc (keep_alloc (((cell_putR (by omega)).trans ((cell_putR (by omega)).trans ((qq.cell (p := ⟨w.heap.size + 1, 2, none⟩) ql).trans q2))))), keep_alloc (keep_alloc (((cell_putR (by omega)).trans ((cell_putR (by omega)).trans ((qq.cell (p := ⟨w6.heap.size, 0, none⟩) ul).trans u0))))), keep_alloc (keep_alloc (((cell_putR (by omega)).trans ((cell_putR (by omega)).trans ((qq.cell (p := ⟨w6.heap.size, 1, none⟩) ul).trans u1))))), keep_alloc (keep_alloc (((cell_putR (by omega)).trans ((cell_putR (by omega)).trans ((qq.cell (p := ⟨w6.heap.size, 2, none⟩) ul).trans u2)))))⟩ | with_reducible exact ⟨keep_alloc (keep_alloc (((cell_store (by omega)).trans ((cell_store (by omega)).trans ((qq.cell (p := ⟨w.heap.size, 0, none⟩) pl).trans p0))))), keep_alloc (keep_alloc (((cell_store (by omega)).trans ((cell_store (by omega)).trans ((qq.cell (p := ⟨w.heap.size, 1, none⟩) pl).trans p1))))), keep_alloc (keep_alloc (((cell_store (by omega)).trans ((cell_store (by omega)).trans ((qq.cell (p := ⟨w.heap.size, 2, none⟩) pl).trans p2))))), keep_alloc (keep_alloc (((cell_store (by omega)).trans ((cell_store (by omega)).trans ((qq.cell (p := ⟨w.heap.size + 1, 0, none⟩) ql).trans q0))))), keep_alloc (keep_alloc (((cell_store (by omega)).trans ((cell_store (by omega)).trans ((qq.cell (p := ⟨w.heap.size + 1, 1, none⟩) ql).trans q1))))), keep_alloc (keep_alloc (((cell_store (by omega)).trans ((cell_store (by omega)).trans ((qq.cell (p := ⟨w.heap.size + 1, 2, none⟩) ql).trans q2))))), keep_alloc (keep_alloc (((cell_store (by omega)).trans ((cell_store (by omega)).trans ((qq.cell (p := ⟨w6.heap.size, 0, none⟩) ul).trans u0))))), keep_alloc (keep_alloc (((cell_store (by omega)).trans ((cell_store (by omega)).trans ((qq.cell (p := ⟨w6.heap.size, 1, none⟩) ul).trans u1))))), keep_alloc (keep_alloc (((cell_store (by omega)).trans ((cell_store (by omega)).trans ((qq.cell (p := ⟨w6.heap.size, 2, none⟩) ul).trans u2)))))⟩ | go_keep)
      (first
        | (go_at_call 26; (with_reducible refine (qsub_N (h0.on BB0) (s0.le (by omega)) (h1.on BB0) (s1.le (by omega))).mono ?_); rintro e y1 ⟨bfa, Afa, nfa, cfa, Bfa, mfa, dfa, rfl, fa, q⟩; have qq := BB0.trans (q.mono BB0.size); have h0' := (h0.on BB0).on q; have h1' := (h1.on BB0).on q; have hu' := (hu.on BB0).on q; have qs1 := qq.size; clear q)
        | (go_at_call 26; (with_reducible refine (qsub_N (h0.on BB1) (s0.le (by omega)) (h1.on BB1) (s1.le (by omega))).mono ?_); rintro e y1 ⟨bfa, Afa, nfa, cfa, Bfa, mfa, dfa, rfl, fa, q⟩; have qq := BB1.trans (q.mono BB1.size); have h0' := (h0.on BB1).on q; have h1' := (h1.on BB1).on q; have hu' := (hu.on BB1).on q; have qs1 := qq.size; have bo_0 := (q.cell (p := ⟨wz.heap.size, 0, none⟩) (by simp)).trans (show _ = some (.bool false) by simp [go_sem]); have fo_0 := (q.frozen (p := ⟨wz.heap.size, 0, none⟩) (by simp)).trans (show _ = false by simp [go_sem]); have bo_1 := (q.cell (p := ⟨wz.heap.size, 1, none⟩) (by simp)).trans (show _ = some (.slice none 0 0) by simp [go_sem]); have fo_1 := (q.frozen (p := ⟨wz.heap.size, 1, none⟩) (by simp)).trans (show _ = false by simp [go_sem]); have bo_2 := (q.cell (p := ⟨wz.heap.size, 2, none⟩) (by simp)).trans (show _ = some (.slice none 0 0) by simp [go_sem]); have fo_2 := (q.frozen (p := ⟨wz.heap.size, 2, none⟩) (by simp)).trans (show _ = false by simp [go_sem]); have ol : wz.heap.size < y1.heap.size := Nat.lt_of_lt_of_le (by simp) q.size; clear q)
        | (go_at_call 24; have up := Below.refl y1.heap.size y1; (with_reducible refine (qadd_N (h1'.on up) (s1.le (by omega)) (fa.on up) (sd.le (by omega))).mono ?_); rintro e y2 ⟨bo, Ao, no, co, Bo, mo, do_, rfl, o, q⟩; replace qq := (qq.trans (up.mono qq.size)).trans (q.mono (Nat.le_trans qq.size up.size)); replace h0' := (h0'.on up).on q; replace h1' := (h1'.on up).on q; replace hu' := (hu'.on up).on q; replace fa := (fa.on up).on q; (try replace bo_0 := (q.cell (Nat.lt_of_lt_of_le ol up.size)).trans ((up.cell ol).trans bo_0)); (try replace fo_0 := (q.frozen (Nat.lt_of_lt_of_le ol up.size)).trans ((up.frozen ol).trans fo_0)); (try replace bo_1 := (q.cell (Nat.lt_of_lt_of_le ol up.size)).trans ((up.cell ol).trans bo_1)); (try replace fo_1 := (q.frozen (Nat.lt_of_lt_of_le ol up.size)).trans ((up.frozen ol).trans fo_1)); (try replace bo_2 := (q.cell (Nat.lt_of_lt_of_le ol up.size)).trans ((up.cell ol).trans bo_2)); (try replace fo_2 := (q.frozen (Nat.lt_of_lt_of_le ol up.size)).trans ((up.frozen ol).trans fo_2)); (try replace ol := Nat.lt_of_lt_of_le ol (Nat.le_trans up.size q.size)); have qs2 := qq.size; clear q up)
        | (go_at_call 24; have up := below_one y1 (.cells #[.bool false, .slice none 0 0, .slice none 0 0] 27); (with_reducible refine (qadd_N (h1'.on up) (s1.le (by omega)) (fa.on up) (sd.le (by omega))).mono ?_); rintro e y2 ⟨bo, Ao, no, co, Bo, mo, do_, rfl, o, q⟩; replace qq := (qq.trans (up.mono qq.size)).trans (q.mono (Nat.le_trans qq.size up.size)); replace h0' := (h0'.on up).on q; replace h1' := (h1'.on up).on q; replace hu' := (hu'.on up).on q; replace fa := (fa.on up).on q; (try replace bo_0 := (q.cell (Nat.lt_of_lt_of_le ol up.size)).trans ((up.cell ol).trans bo_0)); (try replace fo_0 := (q.frozen (Nat.lt_of_lt_of_le ol up.size)).trans ((up.frozen ol).trans fo_0)); (try replace bo_1 := (q.cell (Nat.lt_of_lt_of_le ol up.size)).trans ((up.cell ol).trans bo_1)); (try replace fo_1 := (q.frozen (Nat.lt_of_lt_of_le ol up.size)).trans ((up.frozen ol).trans fo_1)); (try replace bo_2 := (q.cell (Nat.lt_of_lt_of_le ol up.size)).trans ((up.cell ol).trans bo_2)); (try replace fo_2 := (q.frozen (Nat.lt_of_lt_of_le ol up.size)).trans ((up.frozen ol).trans fo_2)); (try replace ol := Nat.lt_of_lt_of_le ol (Nat.le_trans up.size q.size)); have qs2 := qq.size; have bo_0 := (q.cell (p := ⟨y1.heap.size, 0, none⟩) (by simp)).trans (show _ = some (.bool false) by simp [go_sem]); have fo_0 := (q.frozen (p := ⟨y1.heap.size, 0, none⟩) (by simp)).trans (show _ = false by simp [go_sem]); have bo_1 := (q.cell (p := ⟨y1.heap.size, 1, none⟩) (by simp)).trans (show _ = some (.slice none 0 0) by simp [go_sem]); have fo_1 := (q.frozen (p := ⟨y1.heap.size, 1, none⟩) (by simp)).trans (show _ = false by simp [go_sem]); have bo_2 := (q.cell (p := ⟨y1.heap.size, 2, none⟩) (by simp)).trans (show _ = some (.slice none 0 0) by simp [go_sem]); have fo_2 := (q.frozen (p := ⟨y1.heap.size, 2, none⟩) (by simp)).trans (show _ = false by simp [go_sem]); have ol : y1.heap.size < y2.heap.size := Nat.lt_of_lt_of_le (by simp) q.size; clear q up))
    all_goals (go_wp2_with fail; go_meet)
    all_goals refine ⟨_, bo, Ao, no, co, Bo, mo, do_, rfl, ?_⟩
    all_goals first
      | with_reducible exact loneRA o qq _
      | with_reducible exact loneRB bo_0 bo_1 bo_2 o qq (by omega)
  case rest =>
    obtain ⟨gv, bv, Av, nv, cv, Bv, mv, dv, rfl, ⟨v0, v1, v2⟩, hv, b, vge⟩ := hcut
    have vl := cell_lt v0
    simp only at vl
    have vqp : w.heap.size < gv := Nat.lt_of_lt_of_le pl vge
    have vqq : w.heap.size + 1 < gv := Nat.lt_of_lt_of_le ql vge
    have vqu : w6.heap.size < gv := Nat.lt_of_lt_of_le ul vge
    replace h0 := h0.on b
    replace h1 := h1.on b
    replace hu := hu.on b
    replace p0 := (b.cell (p := ⟨w.heap.size, 0, none⟩) pl).trans p0
    replace p1 := (b.cell (p := ⟨w.heap.size, 1, none⟩) pl).trans p1
    replace p2 := (b.cell (p := ⟨w.heap.size, 2, none⟩) pl).trans p2
    replace pl := Nat.lt_of_lt_of_le pl b.size
    replace q0 := (b.cell (p := ⟨w.heap.size + 1, 0, none⟩) ql).trans q0
    replace q1 := (b.cell (p := ⟨w.heap.size + 1, 1, none⟩) ql).trans q1
    replace q2 := (b.cell (p := ⟨w.heap.size + 1, 2, none⟩) ql).trans q2
    replace ql := Nat.lt_of_lt_of_le ql b.size
    replace u0 := (b.cell (p := ⟨w6.heap.size, 0, none⟩) ul).trans u0
    replace u1 := (b.cell (p := ⟨w6.heap.size, 1, none⟩) ul).trans u1
    replace u2 := (b.cell (p := ⟨w6.heap.size, 2, none⟩) ul).trans u2
    replace ul := Nat.lt_of_lt_of_le ul b.size
    replace cc := cc.trans (b.mono cc.size)
    clear b
    go_wp2_with fail
    refine (alive5_any _).mono ?_
    rintro e w10 ⟨rfl, b⟩
    replace h0 := h0.on b
    replace h1 := h1.on b
    replace hu := hu.on b
    replace hv := hv.on b
    replace p0 := (b.cell (p := ⟨w.heap.size, 0, none⟩) pl).trans p0
    replace p1 := (b.cell (p := ⟨w.heap.size, 1, none⟩) pl).trans p1
    replace p2 := (b.cell (p := ⟨w.heap.size, 2, none⟩) pl).trans p2
    replace pl := Nat.lt_of_lt_of_le pl b.size
    replace q0 := (b.cell (p := ⟨w.heap.size + 1, 0, none⟩) ql).trans q0
    replace q1 := (b.cell (p := ⟨w.heap.size + 1, 1, none⟩) ql).trans q1
    replace q2 := (b.cell (p := ⟨w.heap.size + 1, 2, none⟩) ql).trans q2
    replace ql := Nat.lt_of_lt_of_le ql b.size
    replace u0 := (b.cell (p := ⟨w6.heap.size, 0, none⟩) ul).trans u0
    replace u1 := (b.cell (p := ⟨w6.heap.size, 1, none⟩) ul).trans u1
    replace u2 := (b.cell (p := ⟨w6.heap.size, 2, none⟩) ul).trans u2
    replace ul := Nat.lt_of_lt_of_le ul b.size
    replace v0 := (b.cell (p := ⟨gv, 0, none⟩) vl).trans v0
    replace v1 := (b.cell (p := ⟨gv, 1, none⟩) vl).trans v1
    replace v2 := (b.cell (p := ⟨gv, 2, none⟩) vl).trans v2
    replace vl := Nat.lt_of_lt_of_le vl b.size
    replace cc := cc.trans (b.mono cc.size)
    clear b
    go_wp2_with fail
    refine (qcmp_v k h0 (s0.le (by omega)) h1 (s1.le (by omega)) K3.out).mono ?_
    rintro e w11 ⟨rfl, b⟩
    replace h0 := h0.on b
    replace h1 := h1.on b
    replace hu := hu.on b
    replace hv := hv.on b
    replace p0 := (b.cell (p := ⟨w.heap.size, 0, none⟩) pl).trans p0
    replace p1 := (b.cell (p := ⟨w.heap.size, 1, none⟩) pl).trans p1
    replace p2 := (b.cell (p := ⟨w.heap.size, 2, none⟩) pl).trans p2
    replace pl := Nat.lt_of_lt_of_le pl b.size
    replace q0 := (b.cell (p := ⟨w.heap.size + 1, 0, none⟩) ql).trans q0
    replace q1 := (b.cell (p := ⟨w.heap.size + 1, 1, none⟩) ql).trans q1
    replace q2 := (b.cell (p := ⟨w.heap.size + 1, 2, none⟩) ql).trans q2
    replace ql := Nat.lt_of_lt_of_le ql b.size
    replace u0 := (b.cell (p := ⟨w6.heap.size, 0, none⟩) ul).trans u0
    replace u1 := (b.cell (p := ⟨w6.heap.size, 1, none⟩) ul).trans u1
    replace u2 := (b.cell (p := ⟨w6.heap.size, 2, none⟩) ul).trans u2
    replace ul := Nat.lt_of_lt_of_le ul b.size
    replace v0 := (b.cell (p := ⟨gv, 0, none⟩) vl).trans v0
    replace v1 := (b.cell (p := ⟨gv, 1, none⟩) vl).trans v1
    replace v2 := (b.cell (p := ⟨gv, 2, none⟩) vl).trans v2
    replace vl := Nat.lt_of_lt_of_le vl b.size
    replace cc := cc.trans (b.mono cc.size)
    clear b
    go_wp2_with fail
    refine (rtright_N hu (sm.le (by omega))).mono ?_
    rintro e w12 ⟨rfl, b⟩
    replace h0 := h0.on b
    replace h1 := h1.on b
    replace hu := hu.on b
    replace hv := hv.on b
    replace p0 := (b.cell (p := ⟨w.heap.size, 0, none⟩) pl).trans p0
    replace p1 := (b.cell (p := ⟨w.heap.size, 1, none⟩) pl).trans p1
    replace p2 := (b.cell (p := ⟨w.heap.size, 2, none⟩) pl).trans p2
    replace pl := Nat.lt_of_lt_of_le pl b.size
    replace q0 := (b.cell (p := ⟨w.heap.size + 1, 0, none⟩) ql).trans q0
    replace q1 := (b.cell (p := ⟨w.heap.size + 1, 1, none⟩) ql).trans q1
    replace q2 := (b.cell (p := ⟨w.heap.size + 1, 2, none⟩) ql).trans q2
    replace ql := Nat.lt_of_lt_of_le ql b.size
    replace u0 := (b.cell (p := ⟨w6.heap.size, 0, none⟩) ul).trans u0
    replace u1 := (b.cell (p := ⟨w6.heap.size, 1, none⟩) ul).trans u1
    replace u2 := (b.cell (p := ⟨w6.heap.size, 2, none⟩) ul).trans u2
    replace ul := Nat.lt_of_lt_of_le ul b.size
    replace v0 := (b.cell (p := ⟨gv, 0, none⟩) vl).trans v0
    replace v1 := (b.cell (p := ⟨gv, 1, none⟩) vl).trans v1
    replace v2 := (b.cell (p := ⟨gv, 2, none⟩) vl).trans v2
    replace vl := Nat.lt_of_lt_of_le vl b.size
    replace cc := cc.trans (b.mono cc.size)
    clear b
    go_wp2_with fail
    refine (rtsame_eq hv (sb.le (by omega)) h0 (s0.le (by omega)) e1).mono ?_
    rintro e w13 ⟨rfl, b⟩
    replace h0 := h0.on b
    replace h1 := h1.on b
    replace hu := hu.on b
    replace hv := hv.on b
    replace p0 := (b.cell (p := ⟨w.heap.size, 0, none⟩) pl).trans p0
    replace p1 := (b.cell (p := ⟨w.heap.size, 1, none⟩) pl).trans p1
    replace p2 := (b.cell (p := ⟨w.heap.size, 2, none⟩) pl).trans p2
    replace pl := Nat.lt_of_lt_of_le pl b.size
    replace q0 := (b.cell (p := ⟨w.heap.size + 1, 0, none⟩) ql).trans q0
    replace q1 := (b.cell (p := ⟨w.heap.size + 1, 1, none⟩) ql).trans q1
    replace q2 := (b.cell (p := ⟨w.heap.size + 1, 2, none⟩) ql).trans q2
    replace ql := Nat.lt_of_lt_of_le ql b.size
    replace u0 := (b.cell (p := ⟨w6.heap.size, 0, none⟩) ul).trans u0
    replace u1 := (b.cell (p := ⟨w6.heap.size, 1, none⟩) ul).trans u1
    replace u2 := (b.cell (p := ⟨w6.heap.size, 2, none⟩) ul).trans u2
    replace ul := Nat.lt_of_lt_of_le ul b.size
    replace v0 := (b.cell (p := ⟨gv, 0, none⟩) vl).trans v0
    replace v1 := (b.cell (p := ⟨gv, 1, none⟩) vl).trans v1
    replace v2 := (b.cell (p := ⟨gv, 2, none⟩) vl).trans v2
    replace vl := Nat.lt_of_lt_of_le vl b.size
    replace cc := cc.trans (b.mono cc.size)
    clear b
    go_wp2_with fail
    go_ret
    exact ⟨rfl, cc⟩

set_option maxRecDepth 100000 in
set_option maxHeartbeats 8000000 in
theorem RatBetween_walk {w : World} (b0 : Bool) {A0 : Option Addr} {n0 c0 : Nat} {l0 : List Nat} (hl0 : Lim w.heap.size w A0 n0 c0 l0) (hs0 : n0 ≤ 9223372036854775807) {B0 : Option Addr} {m0 d0 : Nat} {k0 : List Nat} (hk0 : Lim w.heap.size w B0 m0 d0 k0) (ht0 : m0 ≤ 9223372036854775807) (b1 : Bool) {A1 : Option Addr} {n1 c1 : Nat} {l1 : List Nat} (hl1 : Lim w.heap.size w A1 n1 c1 l1) (hs1 : n1 ≤ 9223372036854775807) {B1 : Option Addr} {m1 d1 : Nat} {k1 : List Nat} (hk1 : Lim w.heap.size w B1 m1 d1 k1) (ht1 : m1 ≤ 9223372036854775807) :
    Calls Try.prog 9 #[.agg #[.bool b0, .slice A0 n0 c0, .slice B0 m0 d0], .agg #[.bool b1, .slice A1 n1 c1, .slice B1 m1 d1]] w fun e w' => e = .returned (.bool true) ∧ Below w.heap.size w w' := by
  have G : ∀ {b : Bool} {A B : Option Addr} {n c m d : Nat} {l k : List Nat} (r : Bool), Lim w.heap.size w A n c l → Lim w.heap.size w B m d k → (decide ((n : Int) ≤ 3) && (decide ((m : Int) ≤ 3) && okR b n l m k)) = r → ∀ W : World, Below w.heap.size w W → Calls Try.prog 21 #[.agg #[.bool b, .slice A n c, .slice B m d], .int .i64 3] W (GotV W (.bool r)) := fun r hl hk hr W hW => rtfew_any (hl.on hW) (hk.on hW) 3 (by omega) r hr
  cases e0 : (decide ((n0 : Int) ≤ 3) && (decide ((m0 : Int) ≤ 3) && okR b0 n0 l0 m0 k0)) with
  | false => exact RatBetween_no0  (G false hl0 hk0 e0)
  | true =>
    cases e1 : (decide ((n1 : Int) ≤ 3) && (decide ((m1 : Int) ≤ 3) && okR b1 n1 l1 m1 k1)) with
    | false => exact RatBetween_no1 (G true hl0 hk0 e0) (G false hl1 hk1 e1)
    | true =>
      obtain ⟨x0, h0, s0⟩ := few_rt 3 hl0 hk0 e0
      obtain ⟨x1, h1, s1⟩ := few_rt 3 hl1 hk1 e1
      exact RatBetween_ok h0 s0 h1 s1 (G true hl0 hk0 e0) (G true hl1 hk1 e1)

end Go.Proofs.Ytgnhioffamfakaa
