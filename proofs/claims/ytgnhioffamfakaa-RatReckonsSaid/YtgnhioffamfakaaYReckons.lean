/-
  The walk of RatReckons.
-/
import Derived.Test.YtgnhioffamfakaaA9
namespace Go.Proofs.Ytgnhioffamfakaa
open Go.RowKit
set_option linter.unusedVariables false

set_option maxRecDepth 100000 in
set_option maxHeartbeats 8000000 in
theorem RatReckons_no0 {w : World} {b0 b1 : Bool} {A0 B0 A1 B1 : Option Addr} {n0 c0 m0 d0 n1 c1 m1 d1 : Nat} (G0 : ∀ W : World, Below w.heap.size w W → Calls Try.prog 21 #[.agg #[.bool b0, .slice A0 n0 c0, .slice B0 m0 d0], .int .i64 4] W (GotV W (.bool false))) :
    Calls Try.prog 4 #[.agg #[.bool b0, .slice A0 n0 c0, .slice B0 m0 d0], .agg #[.bool b1, .slice A1 n1 c1, .slice B1 m1 d1]] w fun e w' => e = .returned (.bool true) ∧ Below w.heap.size w w' := by
  have cc := Below.refl w.heap.size w
  go_enter Try.func4, Try.ntmps4
  go_wp2_with fail
  have bA : Below w.heap.size w ((w.alloc (.cells #[.bool b0, .slice A0 n0 c0, .slice B0 m0 d0] 27)).alloc (.cells #[.bool b1, .slice A1 n1 c1, .slice B1 m1 d1] 27)) := (((Below.refl _ w).alloc (by simp) _).alloc (by simp) _)
  replace cc := cc.trans (bA.mono cc.size)
  clear bA
  have p0 : ((w.alloc (.cells #[.bool b0, .slice A0 n0 c0, .slice B0 m0 d0] 27)).alloc (.cells #[.bool b1, .slice A1 n1 c1, .slice B1 m1 d1] 27)).cell? ⟨w.heap.size, 0, none⟩ = some (.bool b0) := by simp [go_sem]
  have p1 : ((w.alloc (.cells #[.bool b0, .slice A0 n0 c0, .slice B0 m0 d0] 27)).alloc (.cells #[.bool b1, .slice A1 n1 c1, .slice B1 m1 d1] 27)).cell? ⟨w.heap.size, 1, none⟩ = some (.slice A0 n0 c0) := by simp [go_sem]
  have p2 : ((w.alloc (.cells #[.bool b0, .slice A0 n0 c0, .slice B0 m0 d0] 27)).alloc (.cells #[.bool b1, .slice A1 n1 c1, .slice B1 m1 d1] 27)).cell? ⟨w.heap.size, 2, none⟩ = some (.slice B0 m0 d0) := by simp [go_sem]
  have pl : w.heap.size < ((w.alloc (.cells #[.bool b0, .slice A0 n0 c0, .slice B0 m0 d0] 27)).alloc (.cells #[.bool b1, .slice A1 n1 c1, .slice B1 m1 d1] 27)).heap.size := by simp <;> omega
  have q0 : ((w.alloc (.cells #[.bool b0, .slice A0 n0 c0, .slice B0 m0 d0] 27)).alloc (.cells #[.bool b1, .slice A1 n1 c1, .slice B1 m1 d1] 27)).cell? ⟨w.heap.size + 1, 0, none⟩ = some (.bool b1) := by simp [go_sem]
  have q1 : ((w.alloc (.cells #[.bool b0, .slice A0 n0 c0, .slice B0 m0 d0] 27)).alloc (.cells #[.bool b1, .slice A1 n1 c1, .slice B1 m1 d1] 27)).cell? ⟨w.heap.size + 1, 1, none⟩ = some (.slice A1 n1 c1) := by simp [go_sem]
  have q2 : ((w.alloc (.cells #[.bool b0, .slice A0 n0 c0, .slice B0 m0 d0] 27)).alloc (.cells #[.bool b1, .slice A1 n1 c1, .slice B1 m1 d1] 27)).cell? ⟨w.heap.size + 1, 2, none⟩ = some (.slice B1 m1 d1) := by simp [go_sem]
  have ql : w.heap.size + 1 < ((w.alloc (.cells #[.bool b0, .slice A0 n0 c0, .slice B0 m0 d0] 27)).alloc (.cells #[.bool b1, .slice A1 n1 c1, .slice B1 m1 d1] 27)).heap.size := by simp <;> omega
  generalize (w.alloc (.cells #[.bool b0, .slice A0 n0 c0, .slice B0 m0 d0] 27)).alloc (.cells #[.bool b1, .slice A1 n1 c1, .slice B1 m1 d1] 27) = v1 at *
  refine (G0 _ cc).mono ?_
  rintro e w2 ⟨rfl, b⟩
  replace p0 := (b.cell (p := ⟨w.heap.size, 0, none⟩) pl).trans p0
  replace p1 := (b.cell (p := ⟨w.heap.size, 1, none⟩) pl).trans p1
  replace p2 := (b.cell (p := ⟨w.heap.size, 2, none⟩) pl).trans p2
  replace pl := Nat.lt_of_lt_of_le pl b.size
  replace q0 := (b.cell (p := ⟨w.heap.size + 1, 0, none⟩) ql).trans q0
  replace q1 := (b.cell (p := ⟨w.heap.size + 1, 1, none⟩) ql).trans q1
  replace q2 := (b.cell (p := ⟨w.heap.size + 1, 2, none⟩) ql).trans q2
  replace ql := Nat.lt_of_lt_of_le ql b.size
  replace cc := cc.trans (b.mono cc.size)
  clear b
  go_wp2_with fail
  refine (alive5_any _).mono ?_
  rintro e w3 ⟨rfl, b⟩
  replace p0 := (b.cell (p := ⟨w.heap.size, 0, none⟩) pl).trans p0
  replace p1 := (b.cell (p := ⟨w.heap.size, 1, none⟩) pl).trans p1
  replace p2 := (b.cell (p := ⟨w.heap.size, 2, none⟩) pl).trans p2
  replace pl := Nat.lt_of_lt_of_le pl b.size
  replace q0 := (b.cell (p := ⟨w.heap.size + 1, 0, none⟩) ql).trans q0
  replace q1 := (b.cell (p := ⟨w.heap.size + 1, 1, none⟩) ql).trans q1
  replace q2 := (b.cell (p := ⟨w.heap.size + 1, 2, none⟩) ql).trans q2
  replace ql := Nat.lt_of_lt_of_le ql b.size
  replace cc := cc.trans (b.mono cc.size)
  clear b
  go_wp2_with fail
  go_ret
  exact ⟨rfl, cc⟩

set_option maxRecDepth 100000 in
set_option maxHeartbeats 8000000 in
theorem RatReckons_no1 {w : World} {b0 b1 : Bool} {A0 B0 A1 B1 : Option Addr} {n0 c0 m0 d0 n1 c1 m1 d1 : Nat} (G0 : ∀ W : World, Below w.heap.size w W → Calls Try.prog 21 #[.agg #[.bool b0, .slice A0 n0 c0, .slice B0 m0 d0], .int .i64 4] W (GotV W (.bool true))) (G1 : ∀ W : World, Below w.heap.size w W → Calls Try.prog 21 #[.agg #[.bool b1, .slice A1 n1 c1, .slice B1 m1 d1], .int .i64 4] W (GotV W (.bool false))) :
    Calls Try.prog 4 #[.agg #[.bool b0, .slice A0 n0 c0, .slice B0 m0 d0], .agg #[.bool b1, .slice A1 n1 c1, .slice B1 m1 d1]] w fun e w' => e = .returned (.bool true) ∧ Below w.heap.size w w' := by
  have cc := Below.refl w.heap.size w
  go_enter Try.func4, Try.ntmps4
  go_wp2_with fail
  have bA : Below w.heap.size w ((w.alloc (.cells #[.bool b0, .slice A0 n0 c0, .slice B0 m0 d0] 27)).alloc (.cells #[.bool b1, .slice A1 n1 c1, .slice B1 m1 d1] 27)) := (((Below.refl _ w).alloc (by simp) _).alloc (by simp) _)
  replace cc := cc.trans (bA.mono cc.size)
  clear bA
  have p0 : ((w.alloc (.cells #[.bool b0, .slice A0 n0 c0, .slice B0 m0 d0] 27)).alloc (.cells #[.bool b1, .slice A1 n1 c1, .slice B1 m1 d1] 27)).cell? ⟨w.heap.size, 0, none⟩ = some (.bool b0) := by simp [go_sem]
  have p1 : ((w.alloc (.cells #[.bool b0, .slice A0 n0 c0, .slice B0 m0 d0] 27)).alloc (.cells #[.bool b1, .slice A1 n1 c1, .slice B1 m1 d1] 27)).cell? ⟨w.heap.size, 1, none⟩ = some (.slice A0 n0 c0) := by simp [go_sem]
  have p2 : ((w.alloc (.cells #[.bool b0, .slice A0 n0 c0, .slice B0 m0 d0] 27)).alloc (.cells #[.bool b1, .slice A1 n1 c1, .slice B1 m1 d1] 27)).cell? ⟨w.heap.size, 2, none⟩ = some (.slice B0 m0 d0) := by simp [go_sem]
  have pl : w.heap.size < ((w.alloc (.cells #[.bool b0, .slice A0 n0 c0, .slice B0 m0 d0] 27)).alloc (.cells #[.bool b1, .slice A1 n1 c1, .slice B1 m1 d1] 27)).heap.size := by simp <;> omega
  have q0 : ((w.alloc (.cells #[.bool b0, .slice A0 n0 c0, .slice B0 m0 d0] 27)).alloc (.cells #[.bool b1, .slice A1 n1 c1, .slice B1 m1 d1] 27)).cell? ⟨w.heap.size + 1, 0, none⟩ = some (.bool b1) := by simp [go_sem]
  have q1 : ((w.alloc (.cells #[.bool b0, .slice A0 n0 c0, .slice B0 m0 d0] 27)).alloc (.cells #[.bool b1, .slice A1 n1 c1, .slice B1 m1 d1] 27)).cell? ⟨w.heap.size + 1, 1, none⟩ = some (.slice A1 n1 c1) := by simp [go_sem]
  have q2 : ((w.alloc (.cells #[.bool b0, .slice A0 n0 c0, .slice B0 m0 d0] 27)).alloc (.cells #[.bool b1, .slice A1 n1 c1, .slice B1 m1 d1] 27)).cell? ⟨w.heap.size + 1, 2, none⟩ = some (.slice B1 m1 d1) := by simp [go_sem]
  have ql : w.heap.size + 1 < ((w.alloc (.cells #[.bool b0, .slice A0 n0 c0, .slice B0 m0 d0] 27)).alloc (.cells #[.bool b1, .slice A1 n1 c1, .slice B1 m1 d1] 27)).heap.size := by simp <;> omega
  generalize (w.alloc (.cells #[.bool b0, .slice A0 n0 c0, .slice B0 m0 d0] 27)).alloc (.cells #[.bool b1, .slice A1 n1 c1, .slice B1 m1 d1] 27) = v1 at *
  refine (G0 _ cc).mono ?_
  rintro e w2 ⟨rfl, b⟩
  replace p0 := (b.cell (p := ⟨w.heap.size, 0, none⟩) pl).trans p0
  replace p1 := (b.cell (p := ⟨w.heap.size, 1, none⟩) pl).trans p1
  replace p2 := (b.cell (p := ⟨w.heap.size, 2, none⟩) pl).trans p2
  replace pl := Nat.lt_of_lt_of_le pl b.size
  replace q0 := (b.cell (p := ⟨w.heap.size + 1, 0, none⟩) ql).trans q0
  replace q1 := (b.cell (p := ⟨w.heap.size + 1, 1, none⟩) ql).trans q1
  replace q2 := (b.cell (p := ⟨w.heap.size + 1, 2, none⟩) ql).trans q2
  replace ql := Nat.lt_of_lt_of_le ql b.size
  replace cc := cc.trans (b.mono cc.size)
  clear b
  go_wp2_with fail
  refine (G1 _ cc).mono ?_
  rintro e w3 ⟨rfl, b⟩
  replace p0 := (b.cell (p := ⟨w.heap.size, 0, none⟩) pl).trans p0
  replace p1 := (b.cell (p := ⟨w.heap.size, 1, none⟩) pl).trans p1
  replace p2 := (b.cell (p := ⟨w.heap.size, 2, none⟩) pl).trans p2
  replace pl := Nat.lt_of_lt_of_le pl b.size
  replace q0 := (b.cell (p := ⟨w.heap.size + 1, 0, none⟩) ql).trans q0
  replace q1 := (b.cell (p := ⟨w.heap.size + 1, 1, none⟩) ql).trans q1
  replace q2 := (b.cell (p := ⟨w.heap.size + 1, 2, none⟩) ql).trans q2
  replace ql := Nat.lt_of_lt_of_le ql b.size
  replace cc := cc.trans (b.mono cc.size)
  clear b
  go_wp2_with fail
  refine (alive5_any _).mono ?_
  rintro e w4 ⟨rfl, b⟩
  replace p0 := (b.cell (p := ⟨w.heap.size, 0, none⟩) pl).trans p0
  replace p1 := (b.cell (p := ⟨w.heap.size, 1, none⟩) pl).trans p1
  replace p2 := (b.cell (p := ⟨w.heap.size, 2, none⟩) pl).trans p2
  replace pl := Nat.lt_of_lt_of_le pl b.size
  replace q0 := (b.cell (p := ⟨w.heap.size + 1, 0, none⟩) ql).trans q0
  replace q1 := (b.cell (p := ⟨w.heap.size + 1, 1, none⟩) ql).trans q1
  replace q2 := (b.cell (p := ⟨w.heap.size + 1, 2, none⟩) ql).trans q2
  replace ql := Nat.lt_of_lt_of_le ql b.size
  replace cc := cc.trans (b.mono cc.size)
  clear b
  go_wp2_with fail
  go_ret
  exact ⟨rfl, cc⟩

set_option maxRecDepth 100000 in
set_option maxHeartbeats 8000000 in
theorem RatReckons_ok {w : World} {b0 b1 : Bool} {A0 B0 A1 B1 : Option Addr} {n0 c0 m0 d0 n1 c1 m1 d1 : Nat} {x0 : Rat} (h0 : Rt w b0 A0 n0 c0 B0 m0 d0 x0) (s0 : Sz x0 4) {x1 : Rat} (h1 : Rt w b1 A1 n1 c1 B1 m1 d1 x1) (s1 : Sz x1 4) (hne : x1.num ≠ 0) (G0 : ∀ W : World, Below w.heap.size w W → Calls Try.prog 21 #[.agg #[.bool b0, .slice A0 n0 c0, .slice B0 m0 d0], .int .i64 4] W (GotV W (.bool true))) (G1 : ∀ W : World, Below w.heap.size w W → Calls Try.prog 21 #[.agg #[.bool b1, .slice A1 n1 c1, .slice B1 m1 d1], .int .i64 4] W (GotV W (.bool true))) :
    Calls Try.prog 4 #[.agg #[.bool b0, .slice A0 n0 c0, .slice B0 m0 d0], .agg #[.bool b1, .slice A1 n1 c1, .slice B1 m1 d1]] w fun e w' => e = .returned (.bool true) ∧ Below w.heap.size w w' := by
  have s01 := s0.add s1
  have t01 := s0.sub s1
  have p01 := s0.mul s1
  obtain ⟨k, hk⟩ : ∃ k, cmpQ x0 x1 = k := ⟨_, rfl⟩
  have HK := Lib.hid hk
  clear hk
  have q01 := s0.div s1 hne
  have cc := Below.refl w.heap.size w
  go_enter Try.func4, Try.ntmps4
  go_wp2_with fail
  have bA : Below w.heap.size w ((w.alloc (.cells #[.bool b0, .slice A0 n0 c0, .slice B0 m0 d0] 27)).alloc (.cells #[.bool b1, .slice A1 n1 c1, .slice B1 m1 d1] 27)) := (((Below.refl _ w).alloc (by simp) _).alloc (by simp) _)
  replace h0 := h0.on bA
  replace h1 := h1.on bA
  replace cc := cc.trans (bA.mono cc.size)
  clear bA
  have p0 : ((w.alloc (.cells #[.bool b0, .slice A0 n0 c0, .slice B0 m0 d0] 27)).alloc (.cells #[.bool b1, .slice A1 n1 c1, .slice B1 m1 d1] 27)).cell? ⟨w.heap.size, 0, none⟩ = some (.bool b0) := by simp [go_sem]
  have p1 : ((w.alloc (.cells #[.bool b0, .slice A0 n0 c0, .slice B0 m0 d0] 27)).alloc (.cells #[.bool b1, .slice A1 n1 c1, .slice B1 m1 d1] 27)).cell? ⟨w.heap.size, 1, none⟩ = some (.slice A0 n0 c0) := by simp [go_sem]
  have p2 : ((w.alloc (.cells #[.bool b0, .slice A0 n0 c0, .slice B0 m0 d0] 27)).alloc (.cells #[.bool b1, .slice A1 n1 c1, .slice B1 m1 d1] 27)).cell? ⟨w.heap.size, 2, none⟩ = some (.slice B0 m0 d0) := by simp [go_sem]
  have pl : w.heap.size < ((w.alloc (.cells #[.bool b0, .slice A0 n0 c0, .slice B0 m0 d0] 27)).alloc (.cells #[.bool b1, .slice A1 n1 c1, .slice B1 m1 d1] 27)).heap.size := by simp <;> omega
  have q0 : ((w.alloc (.cells #[.bool b0, .slice A0 n0 c0, .slice B0 m0 d0] 27)).alloc (.cells #[.bool b1, .slice A1 n1 c1, .slice B1 m1 d1] 27)).cell? ⟨w.heap.size + 1, 0, none⟩ = some (.bool b1) := by simp [go_sem]
  have q1 : ((w.alloc (.cells #[.bool b0, .slice A0 n0 c0, .slice B0 m0 d0] 27)).alloc (.cells #[.bool b1, .slice A1 n1 c1, .slice B1 m1 d1] 27)).cell? ⟨w.heap.size + 1, 1, none⟩ = some (.slice A1 n1 c1) := by simp [go_sem]
  have q2 : ((w.alloc (.cells #[.bool b0, .slice A0 n0 c0, .slice B0 m0 d0] 27)).alloc (.cells #[.bool b1, .slice A1 n1 c1, .slice B1 m1 d1] 27)).cell? ⟨w.heap.size + 1, 2, none⟩ = some (.slice B1 m1 d1) := by simp [go_sem]
  have ql : w.heap.size + 1 < ((w.alloc (.cells #[.bool b0, .slice A0 n0 c0, .slice B0 m0 d0] 27)).alloc (.cells #[.bool b1, .slice A1 n1 c1, .slice B1 m1 d1] 27)).heap.size := by simp <;> omega
  generalize (w.alloc (.cells #[.bool b0, .slice A0 n0 c0, .slice B0 m0 d0] 27)).alloc (.cells #[.bool b1, .slice A1 n1 c1, .slice B1 m1 d1] 27) = v1 at *
  refine (G0 _ cc).mono ?_
  rintro e w2 ⟨rfl, b⟩
  replace h0 := h0.on b
  replace h1 := h1.on b
  replace p0 := (b.cell (p := ⟨w.heap.size, 0, none⟩) pl).trans p0
  replace p1 := (b.cell (p := ⟨w.heap.size, 1, none⟩) pl).trans p1
  replace p2 := (b.cell (p := ⟨w.heap.size, 2, none⟩) pl).trans p2
  replace pl := Nat.lt_of_lt_of_le pl b.size
  replace q0 := (b.cell (p := ⟨w.heap.size + 1, 0, none⟩) ql).trans q0
  replace q1 := (b.cell (p := ⟨w.heap.size + 1, 1, none⟩) ql).trans q1
  replace q2 := (b.cell (p := ⟨w.heap.size + 1, 2, none⟩) ql).trans q2
  replace ql := Nat.lt_of_lt_of_le ql b.size
  replace cc := cc.trans (b.mono cc.size)
  clear b
  go_wp2_with fail
  refine (G1 _ cc).mono ?_
  rintro e w3 ⟨rfl, b⟩
  replace h0 := h0.on b
  replace h1 := h1.on b
  replace p0 := (b.cell (p := ⟨w.heap.size, 0, none⟩) pl).trans p0
  replace p1 := (b.cell (p := ⟨w.heap.size, 1, none⟩) pl).trans p1
  replace p2 := (b.cell (p := ⟨w.heap.size, 2, none⟩) pl).trans p2
  replace pl := Nat.lt_of_lt_of_le pl b.size
  replace q0 := (b.cell (p := ⟨w.heap.size + 1, 0, none⟩) ql).trans q0
  replace q1 := (b.cell (p := ⟨w.heap.size + 1, 1, none⟩) ql).trans q1
  replace q2 := (b.cell (p := ⟨w.heap.size + 1, 2, none⟩) ql).trans q2
  replace ql := Nat.lt_of_lt_of_le ql b.size
  replace cc := cc.trans (b.mono cc.size)
  clear b
  go_wp2_with fail
  refine (qdiv_N h0 (s0.le (by omega)) h1 (s1.le (by omega)) hne).mono ?_
  rintro e w4 ⟨bx, Ax, nx, cx, Bx, mx, dx, rfl, hx, b⟩
  replace h0 := h0.on b
  replace h1 := h1.on b
  replace p0 := (b.cell (p := ⟨w.heap.size, 0, none⟩) pl).trans p0
  replace p1 := (b.cell (p := ⟨w.heap.size, 1, none⟩) pl).trans p1
  replace p2 := (b.cell (p := ⟨w.heap.size, 2, none⟩) pl).trans p2
  replace pl := Nat.lt_of_lt_of_le pl b.size
  replace q0 := (b.cell (p := ⟨w.heap.size + 1, 0, none⟩) ql).trans q0
  replace q1 := (b.cell (p := ⟨w.heap.size + 1, 1, none⟩) ql).trans q1
  replace q2 := (b.cell (p := ⟨w.heap.size + 1, 2, none⟩) ql).trans q2
  replace ql := Nat.lt_of_lt_of_le ql b.size
  replace cc := cc.trans (b.mono cc.size)
  clear b
  go_wp2_with fail
  have bA := below_one w4 (.cells #[.bool bx, .slice Ax nx cx, .slice Bx mx dx] 27)
  replace h0 := h0.on bA
  replace h1 := h1.on bA
  replace hx := hx.on bA
  replace p0 := (bA.cell (p := ⟨w.heap.size, 0, none⟩) pl).trans p0
  replace p1 := (bA.cell (p := ⟨w.heap.size, 1, none⟩) pl).trans p1
  replace p2 := (bA.cell (p := ⟨w.heap.size, 2, none⟩) pl).trans p2
  replace pl := Nat.lt_of_lt_of_le pl bA.size
  replace q0 := (bA.cell (p := ⟨w.heap.size + 1, 0, none⟩) ql).trans q0
  replace q1 := (bA.cell (p := ⟨w.heap.size + 1, 1, none⟩) ql).trans q1
  replace q2 := (bA.cell (p := ⟨w.heap.size + 1, 2, none⟩) ql).trans q2
  replace ql := Nat.lt_of_lt_of_le ql bA.size
  replace cc := cc.trans (bA.mono cc.size)
  clear bA
  have x0 : (w4.alloc (.cells #[.bool bx, .slice Ax nx cx, .slice Bx mx dx] 27)).cell? ⟨w4.heap.size, 0, none⟩ = some (.bool bx) := by simp [go_sem]
  have x1 : (w4.alloc (.cells #[.bool bx, .slice Ax nx cx, .slice Bx mx dx] 27)).cell? ⟨w4.heap.size, 1, none⟩ = some (.slice Ax nx cx) := by simp [go_sem]
  have x2 : (w4.alloc (.cells #[.bool bx, .slice Ax nx cx, .slice Bx mx dx] 27)).cell? ⟨w4.heap.size, 2, none⟩ = some (.slice Bx mx dx) := by simp [go_sem]
  have xl : w4.heap.size < (w4.alloc (.cells #[.bool bx, .slice Ax nx cx, .slice Bx mx dx] 27)).heap.size := by simp
  generalize w4.alloc (.cells #[.bool bx, .slice Ax nx cx, .slice Bx mx dx] 27) = v5 at *
  refine (rtdiv_N h0 (s0.le (by omega)) h1 (s1.le (by omega)) hne).mono ?_
  rintro e w6 ⟨by_, Ay, ny, cy, By, my, dy, rfl, hy, b⟩
  replace h0 := h0.on b
  replace h1 := h1.on b
  replace hx := hx.on b
  replace p0 := (b.cell (p := ⟨w.heap.size, 0, none⟩) pl).trans p0
  replace p1 := (b.cell (p := ⟨w.heap.size, 1, none⟩) pl).trans p1
  replace p2 := (b.cell (p := ⟨w.heap.size, 2, none⟩) pl).trans p2
  replace pl := Nat.lt_of_lt_of_le pl b.size
  replace q0 := (b.cell (p := ⟨w.heap.size + 1, 0, none⟩) ql).trans q0
  replace q1 := (b.cell (p := ⟨w.heap.size + 1, 1, none⟩) ql).trans q1
  replace q2 := (b.cell (p := ⟨w.heap.size + 1, 2, none⟩) ql).trans q2
  replace ql := Nat.lt_of_lt_of_le ql b.size
  replace x0 := (b.cell (p := ⟨w4.heap.size, 0, none⟩) xl).trans x0
  replace x1 := (b.cell (p := ⟨w4.heap.size, 1, none⟩) xl).trans x1
  replace x2 := (b.cell (p := ⟨w4.heap.size, 2, none⟩) xl).trans x2
  replace xl := Nat.lt_of_lt_of_le xl b.size
  replace cc := cc.trans (b.mono cc.size)
  clear b
  go_wp2_with fail
  have bA := below_one w6 (.cells #[.bool by_, .slice Ay ny cy, .slice By my dy] 27)
  replace h0 := h0.on bA
  replace h1 := h1.on bA
  replace hx := hx.on bA
  replace hy := hy.on bA
  replace p0 := (bA.cell (p := ⟨w.heap.size, 0, none⟩) pl).trans p0
  replace p1 := (bA.cell (p := ⟨w.heap.size, 1, none⟩) pl).trans p1
  replace p2 := (bA.cell (p := ⟨w.heap.size, 2, none⟩) pl).trans p2
  replace pl := Nat.lt_of_lt_of_le pl bA.size
  replace q0 := (bA.cell (p := ⟨w.heap.size + 1, 0, none⟩) ql).trans q0
  replace q1 := (bA.cell (p := ⟨w.heap.size + 1, 1, none⟩) ql).trans q1
  replace q2 := (bA.cell (p := ⟨w.heap.size + 1, 2, none⟩) ql).trans q2
  replace ql := Nat.lt_of_lt_of_le ql bA.size
  replace x0 := (bA.cell (p := ⟨w4.heap.size, 0, none⟩) xl).trans x0
  replace x1 := (bA.cell (p := ⟨w4.heap.size, 1, none⟩) xl).trans x1
  replace x2 := (bA.cell (p := ⟨w4.heap.size, 2, none⟩) xl).trans x2
  replace xl := Nat.lt_of_lt_of_le xl bA.size
  replace cc := cc.trans (bA.mono cc.size)
  clear bA
  have y0 : (w6.alloc (.cells #[.bool by_, .slice Ay ny cy, .slice By my dy] 27)).cell? ⟨w6.heap.size, 0, none⟩ = some (.bool by_) := by simp [go_sem]
  have y1 : (w6.alloc (.cells #[.bool by_, .slice Ay ny cy, .slice By my dy] 27)).cell? ⟨w6.heap.size, 1, none⟩ = some (.slice Ay ny cy) := by simp [go_sem]
  have y2 : (w6.alloc (.cells #[.bool by_, .slice Ay ny cy, .slice By my dy] 27)).cell? ⟨w6.heap.size, 2, none⟩ = some (.slice By my dy) := by simp [go_sem]
  have yl : w6.heap.size < (w6.alloc (.cells #[.bool by_, .slice Ay ny cy, .slice By my dy] 27)).heap.size := by simp
  generalize w6.alloc (.cells #[.bool by_, .slice Ay ny cy, .slice By my dy] 27) = v7 at *
  have qq : Below v7.heap.size v7 v7.drew := below_drewN (Below.refl _ v7) 1
  have h0' := h0.on qq
  have h1' := h1.on qq
  have hx' := hx.on qq
  have hy' := hy.on qq
  go_region_held3 (fun w' => w'.cell? ⟨w.heap.size, 0, none⟩ = some (.bool b0) ∧ w'.cell? ⟨w.heap.size, 1, none⟩ = some (.slice A0 n0 c0) ∧ w'.cell? ⟨w.heap.size, 2, none⟩ = some (.slice B0 m0 d0) ∧ w'.cell? ⟨w.heap.size + 1, 0, none⟩ = some (.bool b1) ∧ w'.cell? ⟨w.heap.size + 1, 1, none⟩ = some (.slice A1 n1 c1) ∧ w'.cell? ⟨w.heap.size + 1, 2, none⟩ = some (.slice B1 m1 d1) ∧ w'.cell? ⟨w4.heap.size, 0, none⟩ = some (.bool bx) ∧ w'.cell? ⟨w4.heap.size, 1, none⟩ = some (.slice Ax nx cx) ∧ w'.cell? ⟨w4.heap.size, 2, none⟩ = some (.slice Bx mx dx) ∧ w'.cell? ⟨w6.heap.size, 0, none⟩ = some (.bool by_) ∧ w'.cell? ⟨w6.heap.size, 1, none⟩ = some (.slice Ay ny cy) ∧ w'.cell? ⟨w6.heap.size, 2, none⟩ = some (.slice By my dy))
    (first | with_reducible exact ⟨(qq.cell (p := ⟨w.heap.size, 0, none⟩) pl).trans p0, (qq.cell (p := ⟨w.heap.size, 1, none⟩) pl).trans p1, (qq.cell (p := ⟨w.heap.size, 2, none⟩) pl).trans p2, (qq.cell (p := ⟨w.heap.size + 1, 0, none⟩) ql).trans q0, (qq.cell (p := ⟨w.heap.size + 1, 1, none⟩) ql).trans q1, (qq.cell (p := ⟨w.heap.size + 1, 2, none⟩) ql).trans q2, (qq.cell (p := ⟨w4.heap.size, 0, none⟩) xl).trans x0, (qq.cell (p := ⟨w4.heap.size, 1, none⟩) xl).trans x1, (qq.cell (p := ⟨w4.heap.size, 2, none⟩) xl).trans x2, (qq.cell (p := ⟨w6.heap.size, 0, none⟩) yl).trans y0, (qq.cell (p := ⟨w6.heap.size, 1, none⟩) yl).trans y1, (qq.cell (p := ⟨w6.heap.size, 2, none⟩) yl).trans y2⟩ | go_keep)
    (first
      | (go_at_call 24; (with_reducible refine (qadd_N h0' (s0.le (by omega)) h1' (s1.le (by omega))).mono ?_); rintro e wz ⟨bu, Au, nu, cu, Bu, mu, du, rfl, u, q⟩; replace qq := qq.trans (q.mono qq.size); (try replace h0' := h0'.on q); (try replace h1' := h1'.on q); (try replace hx' := hx'.on q); (try replace hy' := hy'.on q); (try replace v := v.on q); (try replace fs := fs.on q); (try replace gs := gs.on q); clear q)
      | (go_at_call 25; (with_reducible refine (rtadd_N h0' (s0.le (by omega)) h1' (s1.le (by omega))).mono ?_); rintro e wz ⟨bv, Av, nv, cv, Bv, mv, dv, rfl, v, q⟩; replace qq := qq.trans (q.mono qq.size); (try replace h0' := h0'.on q); (try replace h1' := h1'.on q); (try replace hx' := hx'.on q); (try replace hy' := hy'.on q); (try replace u := u.on q); (try replace fs := fs.on q); (try replace gs := gs.on q); clear q)
      | (go_at_call 18; (with_reducible refine (rtsame_self u (s01.le (by omega)) v).mono ?_); rintro e wz ⟨rfl, q⟩; replace qq := qq.trans (q.mono qq.size); (try replace h0' := h0'.on q); (try replace h1' := h1'.on q); (try replace hx' := hx'.on q); (try replace hy' := hy'.on q); (try replace u := u.on q); (try replace v := v.on q); (try replace fs := fs.on q); (try replace gs := gs.on q); clear q)
      | (go_at_call 26; (with_reducible refine (qsub_N h0' (s0.le (by omega)) h1' (s1.le (by omega))).mono ?_); rintro e wz ⟨bfs, Afs, nfs, cfs, Bfs, mfs, dfs, rfl, fs, q⟩; replace qq := qq.trans (q.mono qq.size); (try replace h0' := h0'.on q); (try replace h1' := h1'.on q); (try replace hx' := hx'.on q); (try replace hy' := hy'.on q); (try replace u := u.on q); (try replace v := v.on q); (try replace gs := gs.on q); clear q)
      | (go_at_call 27; (with_reducible refine (rtsub_N h0' (s0.le (by omega)) h1' (s1.le (by omega))).mono ?_); rintro e wz ⟨bgs, Ags, ngs, cgs, Bgs, mgs, dgs, rfl, gs, q⟩; replace qq := qq.trans (q.mono qq.size); (try replace h0' := h0'.on q); (try replace h1' := h1'.on q); (try replace hx' := hx'.on q); (try replace hy' := hy'.on q); (try replace u := u.on q); (try replace v := v.on q); (try replace fs := fs.on q); clear q)
      | (go_at_call 18; (with_reducible refine (rtsame_self fs (t01.le (by omega)) gs).mono ?_); rintro e wz ⟨rfl, q⟩; replace qq := qq.trans (q.mono qq.size); (try replace h0' := h0'.on q); (try replace h1' := h1'.on q); (try replace hx' := hx'.on q); (try replace hy' := hy'.on q); (try replace u := u.on q); (try replace v := v.on q); (try replace fs := fs.on q); (try replace gs := gs.on q); clear q))
  clear h0
  have h0 := h0'
  clear h0'
  clear h1
  have h1 := h1'
  clear h1'
  clear hx
  have hx := hx'
  clear hx'
  clear hy
  have hy := hy'
  clear hy'
  replace p0 := (qq.cell (p := ⟨w.heap.size, 0, none⟩) pl).trans p0
  replace p1 := (qq.cell (p := ⟨w.heap.size, 1, none⟩) pl).trans p1
  replace p2 := (qq.cell (p := ⟨w.heap.size, 2, none⟩) pl).trans p2
  replace pl := Nat.lt_of_lt_of_le pl qq.size
  replace q0 := (qq.cell (p := ⟨w.heap.size + 1, 0, none⟩) ql).trans q0
  replace q1 := (qq.cell (p := ⟨w.heap.size + 1, 1, none⟩) ql).trans q1
  replace q2 := (qq.cell (p := ⟨w.heap.size + 1, 2, none⟩) ql).trans q2
  replace ql := Nat.lt_of_lt_of_le ql qq.size
  replace x0 := (qq.cell (p := ⟨w4.heap.size, 0, none⟩) xl).trans x0
  replace x1 := (qq.cell (p := ⟨w4.heap.size, 1, none⟩) xl).trans x1
  replace x2 := (qq.cell (p := ⟨w4.heap.size, 2, none⟩) xl).trans x2
  replace xl := Nat.lt_of_lt_of_le xl qq.size
  replace y0 := (qq.cell (p := ⟨w6.heap.size, 0, none⟩) yl).trans y0
  replace y1 := (qq.cell (p := ⟨w6.heap.size, 1, none⟩) yl).trans y1
  replace y2 := (qq.cell (p := ⟨w6.heap.size, 2, none⟩) yl).trans y2
  replace yl := Nat.lt_of_lt_of_le yl qq.size
  replace cc := cc.trans (qq.mono cc.size)
  clear qq
  go_wp2_with fail
  have qq : Below wz.heap.size wz wz.drew := below_drewN (Below.refl _ wz) 1
  have h0' := h0.on qq
  have h1' := h1.on qq
  have hx' := hx.on qq
  have hy' := hy.on qq
  go_region_held3 (fun w' => w'.cell? ⟨w.heap.size, 0, none⟩ = some (.bool b0) ∧ w'.cell? ⟨w.heap.size, 1, none⟩ = some (.slice A0 n0 c0) ∧ w'.cell? ⟨w.heap.size, 2, none⟩ = some (.slice B0 m0 d0) ∧ w'.cell? ⟨w.heap.size + 1, 0, none⟩ = some (.bool b1) ∧ w'.cell? ⟨w.heap.size + 1, 1, none⟩ = some (.slice A1 n1 c1) ∧ w'.cell? ⟨w.heap.size + 1, 2, none⟩ = some (.slice B1 m1 d1) ∧ w'.cell? ⟨w4.heap.size, 0, none⟩ = some (.bool bx) ∧ w'.cell? ⟨w4.heap.size, 1, none⟩ = some (.slice Ax nx cx) ∧ w'.cell? ⟨w4.heap.size, 2, none⟩ = some (.slice Bx mx dx) ∧ w'.cell? ⟨w6.heap.size, 0, none⟩ = some (.bool by_) ∧ w'.cell? ⟨w6.heap.size, 1, none⟩ = some (.slice Ay ny cy) ∧ w'.cell? ⟨w6.heap.size, 2, none⟩ = some (.slice By my dy))
    (first | with_reducible exact ⟨(qq.cell (p := ⟨w.heap.size, 0, none⟩) pl).trans p0, (qq.cell (p := ⟨w.heap.size, 1, none⟩) pl).trans p1, (qq.cell (p := ⟨w.heap.size, 2, none⟩) pl).trans p2, (qq.cell (p := ⟨w.heap.size + 1, 0, none⟩) ql).trans q0, (qq.cell (p := ⟨w.heap.size + 1, 1, none⟩) ql).trans q1, (qq.cell (p := ⟨w.heap.size + 1, 2, none⟩) ql).trans q2, (qq.cell (p := ⟨w4.heap.size, 0, none⟩) xl).trans x0, (qq.cell (p := ⟨w4.heap.size, 1, none⟩) xl).trans x1, (qq.cell (p := ⟨w4.heap.size, 2, none⟩) xl).trans x2, (qq.cell (p := ⟨w6.heap.size, 0, none⟩) yl).trans y0, (qq.cell (p := ⟨w6.heap.size, 1, none⟩) yl).trans y1, (qq.cell (p := ⟨w6.heap.size, 2, none⟩) yl).trans y2⟩ | go_keep)
    (first
      | (go_at_call 12; (with_reducible refine (alive5_any _).mono ?_); rintro e wz ⟨rfl, q⟩; replace qq := qq.trans (q.mono qq.size); (try replace h0' := h0'.on q); (try replace h1' := h1'.on q); (try replace hx' := hx'.on q); (try replace hy' := hy'.on q); (try replace u := u.on q); (try replace v := v.on q); clear q)
      | (go_at_call 28; (with_reducible refine (qmul_N h0' (s0.le (by omega)) h1' (s1.le (by omega))).mono ?_); rintro e wz ⟨bu, Au, nu, cu, Bu, mu, du, rfl, u, q⟩; replace qq := qq.trans (q.mono qq.size); (try replace h0' := h0'.on q); (try replace h1' := h1'.on q); (try replace hx' := hx'.on q); (try replace hy' := hy'.on q); (try replace v := v.on q); clear q)
      | (go_at_call 29; (with_reducible refine (rtmul_N h0' (s0.le (by omega)) h1' (s1.le (by omega))).mono ?_); rintro e wz ⟨bv, Av, nv, cv, Bv, mv, dv, rfl, v, q⟩; replace qq := qq.trans (q.mono qq.size); (try replace h0' := h0'.on q); (try replace h1' := h1'.on q); (try replace hx' := hx'.on q); (try replace hy' := hy'.on q); (try replace u := u.on q); clear q)
      | (go_at_call 18; (with_reducible refine (rtsame_self u (p01.le (by omega)) v).mono ?_); rintro e wz ⟨rfl, q⟩; replace qq := qq.trans (q.mono qq.size); (try replace h0' := h0'.on q); (try replace h1' := h1'.on q); (try replace hx' := hx'.on q); (try replace hy' := hy'.on q); (try replace u := u.on q); (try replace v := v.on q); clear q)
      | (go_at_call 18; (with_reducible refine (rtsame_self hx' (q01.le (by omega)) hy').mono ?_); rintro e wz ⟨rfl, q⟩; replace qq := qq.trans (q.mono qq.size); (try replace h0' := h0'.on q); (try replace h1' := h1'.on q); (try replace hx' := hx'.on q); (try replace hy' := hy'.on q); (try replace u := u.on q); (try replace v := v.on q); clear q)
      | (go_at_call 30; (with_reducible refine (qcmp_v k h0' (s0.le (by omega)) h1' (s1.le (by omega)) HK.out).mono ?_); rintro e wz ⟨rfl, q⟩; replace qq := qq.trans (q.mono qq.size); (try replace h0' := h0'.on q); (try replace h1' := h1'.on q); (try replace hx' := hx'.on q); (try replace hy' := hy'.on q); (try replace u := u.on q); (try replace v := v.on q); clear q)
      | (go_at_call 31; (with_reducible refine (rtcmp_v k h0' (s0.le (by omega)) h1' (s1.le (by omega)) HK.out).mono ?_); rintro e wz ⟨rfl, q⟩; replace qq := qq.trans (q.mono qq.size); (try replace h0' := h0'.on q); (try replace h1' := h1'.on q); (try replace hx' := hx'.on q); (try replace hy' := hy'.on q); (try replace u := u.on q); (try replace v := v.on q); clear q))
  clear h0
  have h0 := h0'
  clear h0'
  clear h1
  have h1 := h1'
  clear h1'
  clear hx
  have hx := hx'
  clear hx'
  clear hy
  have hy := hy'
  clear hy'
  replace p0 := (qq.cell (p := ⟨w.heap.size, 0, none⟩) pl).trans p0
  replace p1 := (qq.cell (p := ⟨w.heap.size, 1, none⟩) pl).trans p1
  replace p2 := (qq.cell (p := ⟨w.heap.size, 2, none⟩) pl).trans p2
  replace pl := Nat.lt_of_lt_of_le pl qq.size
  replace q0 := (qq.cell (p := ⟨w.heap.size + 1, 0, none⟩) ql).trans q0
  replace q1 := (qq.cell (p := ⟨w.heap.size + 1, 1, none⟩) ql).trans q1
  replace q2 := (qq.cell (p := ⟨w.heap.size + 1, 2, none⟩) ql).trans q2
  replace ql := Nat.lt_of_lt_of_le ql qq.size
  replace x0 := (qq.cell (p := ⟨w4.heap.size, 0, none⟩) xl).trans x0
  replace x1 := (qq.cell (p := ⟨w4.heap.size, 1, none⟩) xl).trans x1
  replace x2 := (qq.cell (p := ⟨w4.heap.size, 2, none⟩) xl).trans x2
  replace xl := Nat.lt_of_lt_of_le xl qq.size
  replace y0 := (qq.cell (p := ⟨w6.heap.size, 0, none⟩) yl).trans y0
  replace y1 := (qq.cell (p := ⟨w6.heap.size, 1, none⟩) yl).trans y1
  replace y2 := (qq.cell (p := ⟨w6.heap.size, 2, none⟩) yl).trans y2
  replace yl := Nat.lt_of_lt_of_le yl qq.size
  replace cc := cc.trans (qq.mono cc.size)
  clear qq
  go_wp2_with fail
  go_ret
  exact ⟨rfl, cc⟩

set_option maxRecDepth 100000 in
set_option maxHeartbeats 8000000 in
theorem RatReckons_zero {w : World} {b0 b1 : Bool} {A0 B0 A1 B1 : Option Addr} {n0 c0 m0 d0 n1 c1 m1 d1 : Nat} {x0 : Rat} (h0 : Rt w b0 A0 n0 c0 B0 m0 d0 x0) (s0 : Sz x0 4) {x1 : Rat} (h1 : Rt w b1 A1 n1 c1 B1 m1 d1 x1) (s1 : Sz x1 4) (hn1 : n1 = 0) (G0 : ∀ W : World, Below w.heap.size w W → Calls Try.prog 21 #[.agg #[.bool b0, .slice A0 n0 c0, .slice B0 m0 d0], .int .i64 4] W (GotV W (.bool true))) (G1 : ∀ W : World, Below w.heap.size w W → Calls Try.prog 21 #[.agg #[.bool b1, .slice A1 n1 c1, .slice B1 m1 d1], .int .i64 4] W (GotV W (.bool true))) :
    Calls Try.prog 4 #[.agg #[.bool b0, .slice A0 n0 c0, .slice B0 m0 d0], .agg #[.bool b1, .slice A1 n1 c1, .slice B1 m1 d1]] w fun e w' => e = .returned (.bool true) ∧ Below w.heap.size w w' := by
  have s01 := s0.add s1
  have t01 := s0.sub s1
  have p01 := s0.mul s1
  obtain ⟨k, hk⟩ : ∃ k, cmpQ x0 x1 = k := ⟨_, rfl⟩
  have HK := Lib.hid hk
  clear hk
  subst hn1
  have cc := Below.refl w.heap.size w
  go_enter Try.func4, Try.ntmps4
  go_wp2_with fail
  have bA : Below w.heap.size w ((w.alloc (.cells #[.bool b0, .slice A0 n0 c0, .slice B0 m0 d0] 27)).alloc (.cells #[.bool b1, .slice A1 0 c1, .slice B1 m1 d1] 27)) := (((Below.refl _ w).alloc (by simp) _).alloc (by simp) _)
  replace h0 := h0.on bA
  replace h1 := h1.on bA
  replace cc := cc.trans (bA.mono cc.size)
  clear bA
  have p0 : ((w.alloc (.cells #[.bool b0, .slice A0 n0 c0, .slice B0 m0 d0] 27)).alloc (.cells #[.bool b1, .slice A1 0 c1, .slice B1 m1 d1] 27)).cell? ⟨w.heap.size, 0, none⟩ = some (.bool b0) := by simp [go_sem]
  have p1 : ((w.alloc (.cells #[.bool b0, .slice A0 n0 c0, .slice B0 m0 d0] 27)).alloc (.cells #[.bool b1, .slice A1 0 c1, .slice B1 m1 d1] 27)).cell? ⟨w.heap.size, 1, none⟩ = some (.slice A0 n0 c0) := by simp [go_sem]
  have p2 : ((w.alloc (.cells #[.bool b0, .slice A0 n0 c0, .slice B0 m0 d0] 27)).alloc (.cells #[.bool b1, .slice A1 0 c1, .slice B1 m1 d1] 27)).cell? ⟨w.heap.size, 2, none⟩ = some (.slice B0 m0 d0) := by simp [go_sem]
  have pl : w.heap.size < ((w.alloc (.cells #[.bool b0, .slice A0 n0 c0, .slice B0 m0 d0] 27)).alloc (.cells #[.bool b1, .slice A1 0 c1, .slice B1 m1 d1] 27)).heap.size := by simp <;> omega
  have q0 : ((w.alloc (.cells #[.bool b0, .slice A0 n0 c0, .slice B0 m0 d0] 27)).alloc (.cells #[.bool b1, .slice A1 0 c1, .slice B1 m1 d1] 27)).cell? ⟨w.heap.size + 1, 0, none⟩ = some (.bool b1) := by simp [go_sem]
  have q1 : ((w.alloc (.cells #[.bool b0, .slice A0 n0 c0, .slice B0 m0 d0] 27)).alloc (.cells #[.bool b1, .slice A1 0 c1, .slice B1 m1 d1] 27)).cell? ⟨w.heap.size + 1, 1, none⟩ = some (.slice A1 0 c1) := by simp [go_sem]
  have q2 : ((w.alloc (.cells #[.bool b0, .slice A0 n0 c0, .slice B0 m0 d0] 27)).alloc (.cells #[.bool b1, .slice A1 0 c1, .slice B1 m1 d1] 27)).cell? ⟨w.heap.size + 1, 2, none⟩ = some (.slice B1 m1 d1) := by simp [go_sem]
  have ql : w.heap.size + 1 < ((w.alloc (.cells #[.bool b0, .slice A0 n0 c0, .slice B0 m0 d0] 27)).alloc (.cells #[.bool b1, .slice A1 0 c1, .slice B1 m1 d1] 27)).heap.size := by simp <;> omega
  generalize (w.alloc (.cells #[.bool b0, .slice A0 n0 c0, .slice B0 m0 d0] 27)).alloc (.cells #[.bool b1, .slice A1 0 c1, .slice B1 m1 d1] 27) = v1 at *
  refine (G0 _ cc).mono ?_
  rintro e w2 ⟨rfl, b⟩
  replace h0 := h0.on b
  replace h1 := h1.on b
  replace p0 := (b.cell (p := ⟨w.heap.size, 0, none⟩) pl).trans p0
  replace p1 := (b.cell (p := ⟨w.heap.size, 1, none⟩) pl).trans p1
  replace p2 := (b.cell (p := ⟨w.heap.size, 2, none⟩) pl).trans p2
  replace pl := Nat.lt_of_lt_of_le pl b.size
  replace q0 := (b.cell (p := ⟨w.heap.size + 1, 0, none⟩) ql).trans q0
  replace q1 := (b.cell (p := ⟨w.heap.size + 1, 1, none⟩) ql).trans q1
  replace q2 := (b.cell (p := ⟨w.heap.size + 1, 2, none⟩) ql).trans q2
  replace ql := Nat.lt_of_lt_of_le ql b.size
  replace cc := cc.trans (b.mono cc.size)
  clear b
  go_wp2_with fail
  refine (G1 _ cc).mono ?_
  rintro e w3 ⟨rfl, b⟩
  replace h0 := h0.on b
  replace h1 := h1.on b
  replace p0 := (b.cell (p := ⟨w.heap.size, 0, none⟩) pl).trans p0
  replace p1 := (b.cell (p := ⟨w.heap.size, 1, none⟩) pl).trans p1
  replace p2 := (b.cell (p := ⟨w.heap.size, 2, none⟩) pl).trans p2
  replace pl := Nat.lt_of_lt_of_le pl b.size
  replace q0 := (b.cell (p := ⟨w.heap.size + 1, 0, none⟩) ql).trans q0
  replace q1 := (b.cell (p := ⟨w.heap.size + 1, 1, none⟩) ql).trans q1
  replace q2 := (b.cell (p := ⟨w.heap.size + 1, 2, none⟩) ql).trans q2
  replace ql := Nat.lt_of_lt_of_le ql b.size
  replace cc := cc.trans (b.mono cc.size)
  clear b
  go_wp2_with fail
  refine (qdiv_zero).mono ?_
  rintro e w4 ⟨rfl, b⟩
  replace h0 := h0.on b
  replace h1 := h1.on b
  replace p0 := (b.cell (p := ⟨w.heap.size, 0, none⟩) pl).trans p0
  replace p1 := (b.cell (p := ⟨w.heap.size, 1, none⟩) pl).trans p1
  replace p2 := (b.cell (p := ⟨w.heap.size, 2, none⟩) pl).trans p2
  replace pl := Nat.lt_of_lt_of_le pl b.size
  replace q0 := (b.cell (p := ⟨w.heap.size + 1, 0, none⟩) ql).trans q0
  replace q1 := (b.cell (p := ⟨w.heap.size + 1, 1, none⟩) ql).trans q1
  replace q2 := (b.cell (p := ⟨w.heap.size + 1, 2, none⟩) ql).trans q2
  replace ql := Nat.lt_of_lt_of_le ql b.size
  replace cc := cc.trans (b.mono cc.size)
  clear b
  go_wp2_with fail
  have bA := below_one w4 (.cells #[.bool false, .slice none 0 0, .slice none 0 0] 27)
  replace h0 := h0.on bA
  replace h1 := h1.on bA
  replace p0 := (bA.cell (p := ⟨w.heap.size, 0, none⟩) pl).trans p0
  replace p1 := (bA.cell (p := ⟨w.heap.size, 1, none⟩) pl).trans p1
  replace p2 := (bA.cell (p := ⟨w.heap.size, 2, none⟩) pl).trans p2
  replace pl := Nat.lt_of_lt_of_le pl bA.size
  replace q0 := (bA.cell (p := ⟨w.heap.size + 1, 0, none⟩) ql).trans q0
  replace q1 := (bA.cell (p := ⟨w.heap.size + 1, 1, none⟩) ql).trans q1
  replace q2 := (bA.cell (p := ⟨w.heap.size + 1, 2, none⟩) ql).trans q2
  replace ql := Nat.lt_of_lt_of_le ql bA.size
  replace cc := cc.trans (bA.mono cc.size)
  clear bA
  have x0 : (w4.alloc (.cells #[.bool false, .slice none 0 0, .slice none 0 0] 27)).cell? ⟨w4.heap.size, 0, none⟩ = some (.bool false) := by simp [go_sem]
  have x1 : (w4.alloc (.cells #[.bool false, .slice none 0 0, .slice none 0 0] 27)).cell? ⟨w4.heap.size, 1, none⟩ = some (.slice none 0 0) := by simp [go_sem]
  have x2 : (w4.alloc (.cells #[.bool false, .slice none 0 0, .slice none 0 0] 27)).cell? ⟨w4.heap.size, 2, none⟩ = some (.slice none 0 0) := by simp [go_sem]
  have xl : w4.heap.size < (w4.alloc (.cells #[.bool false, .slice none 0 0, .slice none 0 0] 27)).heap.size := by simp
  generalize w4.alloc (.cells #[.bool false, .slice none 0 0, .slice none 0 0] 27) = v5 at *
  refine (rtdiv_zero).mono ?_
  rintro e w6 ⟨rfl, b⟩
  replace h0 := h0.on b
  replace h1 := h1.on b
  replace p0 := (b.cell (p := ⟨w.heap.size, 0, none⟩) pl).trans p0
  replace p1 := (b.cell (p := ⟨w.heap.size, 1, none⟩) pl).trans p1
  replace p2 := (b.cell (p := ⟨w.heap.size, 2, none⟩) pl).trans p2
  replace pl := Nat.lt_of_lt_of_le pl b.size
  replace q0 := (b.cell (p := ⟨w.heap.size + 1, 0, none⟩) ql).trans q0
  replace q1 := (b.cell (p := ⟨w.heap.size + 1, 1, none⟩) ql).trans q1
  replace q2 := (b.cell (p := ⟨w.heap.size + 1, 2, none⟩) ql).trans q2
  replace ql := Nat.lt_of_lt_of_le ql b.size
  replace x0 := (b.cell (p := ⟨w4.heap.size, 0, none⟩) xl).trans x0
  replace x1 := (b.cell (p := ⟨w4.heap.size, 1, none⟩) xl).trans x1
  replace x2 := (b.cell (p := ⟨w4.heap.size, 2, none⟩) xl).trans x2
  replace xl := Nat.lt_of_lt_of_le xl b.size
  replace cc := cc.trans (b.mono cc.size)
  clear b
  go_wp2_with fail
  have bA := below_one w6 (.cells #[.bool false, .slice none 0 0, .slice none 0 0] 27)
  replace h0 := h0.on bA
  replace h1 := h1.on bA
  replace p0 := (bA.cell (p := ⟨w.heap.size, 0, none⟩) pl).trans p0
  replace p1 := (bA.cell (p := ⟨w.heap.size, 1, none⟩) pl).trans p1
  replace p2 := (bA.cell (p := ⟨w.heap.size, 2, none⟩) pl).trans p2
  replace pl := Nat.lt_of_lt_of_le pl bA.size
  replace q0 := (bA.cell (p := ⟨w.heap.size + 1, 0, none⟩) ql).trans q0
  replace q1 := (bA.cell (p := ⟨w.heap.size + 1, 1, none⟩) ql).trans q1
  replace q2 := (bA.cell (p := ⟨w.heap.size + 1, 2, none⟩) ql).trans q2
  replace ql := Nat.lt_of_lt_of_le ql bA.size
  replace x0 := (bA.cell (p := ⟨w4.heap.size, 0, none⟩) xl).trans x0
  replace x1 := (bA.cell (p := ⟨w4.heap.size, 1, none⟩) xl).trans x1
  replace x2 := (bA.cell (p := ⟨w4.heap.size, 2, none⟩) xl).trans x2
  replace xl := Nat.lt_of_lt_of_le xl bA.size
  replace cc := cc.trans (bA.mono cc.size)
  clear bA
  have y0 : (w6.alloc (.cells #[.bool false, .slice none 0 0, .slice none 0 0] 27)).cell? ⟨w6.heap.size, 0, none⟩ = some (.bool false) := by simp [go_sem]
  have y1 : (w6.alloc (.cells #[.bool false, .slice none 0 0, .slice none 0 0] 27)).cell? ⟨w6.heap.size, 1, none⟩ = some (.slice none 0 0) := by simp [go_sem]
  have y2 : (w6.alloc (.cells #[.bool false, .slice none 0 0, .slice none 0 0] 27)).cell? ⟨w6.heap.size, 2, none⟩ = some (.slice none 0 0) := by simp [go_sem]
  have yl : w6.heap.size < (w6.alloc (.cells #[.bool false, .slice none 0 0, .slice none 0 0] 27)).heap.size := by simp
  generalize w6.alloc (.cells #[.bool false, .slice none 0 0, .slice none 0 0] 27) = v7 at *
  have qq : Below v7.heap.size v7 v7.drew := below_drewN (Below.refl _ v7) 1
  have h0' := h0.on qq
  have h1' := h1.on qq
  go_region_held3 (fun w' => w'.cell? ⟨w.heap.size, 0, none⟩ = some (.bool b0) ∧ w'.cell? ⟨w.heap.size, 1, none⟩ = some (.slice A0 n0 c0) ∧ w'.cell? ⟨w.heap.size, 2, none⟩ = some (.slice B0 m0 d0) ∧ w'.cell? ⟨w.heap.size + 1, 0, none⟩ = some (.bool b1) ∧ w'.cell? ⟨w.heap.size + 1, 1, none⟩ = some (.slice A1 0 c1) ∧ w'.cell? ⟨w.heap.size + 1, 2, none⟩ = some (.slice B1 m1 d1) ∧ w'.cell? ⟨w4.heap.size, 0, none⟩ = some (.bool false) ∧ w'.cell? ⟨w4.heap.size, 1, none⟩ = some (.slice none 0 0) ∧ w'.cell? ⟨w4.heap.size, 2, none⟩ = some (.slice none 0 0) ∧ w'.cell? ⟨w6.heap.size, 0, none⟩ = some (.bool false) ∧ w'.cell? ⟨w6.heap.size, 1, none⟩ = some (.slice none 0 0) ∧ w'.cell? ⟨w6.heap.size, 2, none⟩ = some (.slice none 0 0))
    (first | with_reducible exact ⟨(qq.cell (p := ⟨w.heap.size, 0, none⟩) pl).trans p0, (qq.cell (p := ⟨w.heap.size, 1, none⟩) pl).trans p1, (qq.cell (p := ⟨w.heap.size, 2, none⟩) pl).trans p2, (qq.cell (p := ⟨w.heap.size + 1, 0, none⟩) ql).trans q0, (qq.cell (p := ⟨w.heap.size + 1, 1, none⟩) ql).trans q1, (qq.cell (p := ⟨w.heap.size + 1, 2, none⟩) ql).trans q2, (qq.cell (p := ⟨w4.heap.size, 0, none⟩) xl).trans x0, (qq.cell (p := ⟨w4.heap.size, 1, none⟩) xl).trans x1, (qq.cell (p := ⟨w4.heap.size, 2, none⟩) xl).trans x2, (qq.cell (p := ⟨w6.heap.size, 0, none⟩) yl).trans y0, (qq.cell (p := ⟨w6.heap.size, 1, none⟩) yl).trans y1, (qq.cell (p := ⟨w6.heap.size, 2, none⟩) yl).trans y2⟩ | go_keep)
    (first
      | (go_at_call 24; (with_reducible refine (qadd_N h0' (s0.le (by omega)) h1' (s1.le (by omega))).mono ?_); rintro e wz ⟨bu, Au, nu, cu, Bu, mu, du, rfl, u, q⟩; replace qq := qq.trans (q.mono qq.size); (try replace h0' := h0'.on q); (try replace h1' := h1'.on q); (try replace v := v.on q); (try replace fs := fs.on q); (try replace gs := gs.on q); clear q)
      | (go_at_call 25; (with_reducible refine (rtadd_N h0' (s0.le (by omega)) h1' (s1.le (by omega))).mono ?_); rintro e wz ⟨bv, Av, nv, cv, Bv, mv, dv, rfl, v, q⟩; replace qq := qq.trans (q.mono qq.size); (try replace h0' := h0'.on q); (try replace h1' := h1'.on q); (try replace u := u.on q); (try replace fs := fs.on q); (try replace gs := gs.on q); clear q)
      | (go_at_call 18; (with_reducible refine (rtsame_self u (s01.le (by omega)) v).mono ?_); rintro e wz ⟨rfl, q⟩; replace qq := qq.trans (q.mono qq.size); (try replace h0' := h0'.on q); (try replace h1' := h1'.on q); (try replace u := u.on q); (try replace v := v.on q); (try replace fs := fs.on q); (try replace gs := gs.on q); clear q)
      | (go_at_call 26; (with_reducible refine (qsub_N h0' (s0.le (by omega)) h1' (s1.le (by omega))).mono ?_); rintro e wz ⟨bfs, Afs, nfs, cfs, Bfs, mfs, dfs, rfl, fs, q⟩; replace qq := qq.trans (q.mono qq.size); (try replace h0' := h0'.on q); (try replace h1' := h1'.on q); (try replace u := u.on q); (try replace v := v.on q); (try replace gs := gs.on q); clear q)
      | (go_at_call 27; (with_reducible refine (rtsub_N h0' (s0.le (by omega)) h1' (s1.le (by omega))).mono ?_); rintro e wz ⟨bgs, Ags, ngs, cgs, Bgs, mgs, dgs, rfl, gs, q⟩; replace qq := qq.trans (q.mono qq.size); (try replace h0' := h0'.on q); (try replace h1' := h1'.on q); (try replace u := u.on q); (try replace v := v.on q); (try replace fs := fs.on q); clear q)
      | (go_at_call 18; (with_reducible refine (rtsame_self fs (t01.le (by omega)) gs).mono ?_); rintro e wz ⟨rfl, q⟩; replace qq := qq.trans (q.mono qq.size); (try replace h0' := h0'.on q); (try replace h1' := h1'.on q); (try replace u := u.on q); (try replace v := v.on q); (try replace fs := fs.on q); (try replace gs := gs.on q); clear q))
  clear h0
  have h0 := h0'
  clear h0'
  clear h1
  have h1 := h1'
  clear h1'
  replace p0 := (qq.cell (p := ⟨w.heap.size, 0, none⟩) pl).trans p0
  replace p1 := (qq.cell (p := ⟨w.heap.size, 1, none⟩) pl).trans p1
  replace p2 := (qq.cell (p := ⟨w.heap.size, 2, none⟩) pl).trans p2
  replace pl := Nat.lt_of_lt_of_le pl qq.size
  replace q0 := (qq.cell (p := ⟨w.heap.size + 1, 0, none⟩) ql).trans q0
  replace q1 := (qq.cell (p := ⟨w.heap.size + 1, 1, none⟩) ql).trans q1
  replace q2 := (qq.cell (p := ⟨w.heap.size + 1, 2, none⟩) ql).trans q2
  replace ql := Nat.lt_of_lt_of_le ql qq.size
  replace x0 := (qq.cell (p := ⟨w4.heap.size, 0, none⟩) xl).trans x0
  replace x1 := (qq.cell (p := ⟨w4.heap.size, 1, none⟩) xl).trans x1
  replace x2 := (qq.cell (p := ⟨w4.heap.size, 2, none⟩) xl).trans x2
  replace xl := Nat.lt_of_lt_of_le xl qq.size
  replace y0 := (qq.cell (p := ⟨w6.heap.size, 0, none⟩) yl).trans y0
  replace y1 := (qq.cell (p := ⟨w6.heap.size, 1, none⟩) yl).trans y1
  replace y2 := (qq.cell (p := ⟨w6.heap.size, 2, none⟩) yl).trans y2
  replace yl := Nat.lt_of_lt_of_le yl qq.size
  replace cc := cc.trans (qq.mono cc.size)
  clear qq
  go_wp2_with fail
  have qq : Below wz.heap.size wz wz.drew := below_drewN (Below.refl _ wz) 1
  have h0' := h0.on qq
  have h1' := h1.on qq
  go_region_held3 (fun w' => w'.cell? ⟨w.heap.size, 0, none⟩ = some (.bool b0) ∧ w'.cell? ⟨w.heap.size, 1, none⟩ = some (.slice A0 n0 c0) ∧ w'.cell? ⟨w.heap.size, 2, none⟩ = some (.slice B0 m0 d0) ∧ w'.cell? ⟨w.heap.size + 1, 0, none⟩ = some (.bool b1) ∧ w'.cell? ⟨w.heap.size + 1, 1, none⟩ = some (.slice A1 0 c1) ∧ w'.cell? ⟨w.heap.size + 1, 2, none⟩ = some (.slice B1 m1 d1) ∧ w'.cell? ⟨w4.heap.size, 0, none⟩ = some (.bool false) ∧ w'.cell? ⟨w4.heap.size, 1, none⟩ = some (.slice none 0 0) ∧ w'.cell? ⟨w4.heap.size, 2, none⟩ = some (.slice none 0 0) ∧ w'.cell? ⟨w6.heap.size, 0, none⟩ = some (.bool false) ∧ w'.cell? ⟨w6.heap.size, 1, none⟩ = some (.slice none 0 0) ∧ w'.cell? ⟨w6.heap.size, 2, none⟩ = some (.slice none 0 0))
    (first | with_reducible exact ⟨(qq.cell (p := ⟨w.heap.size, 0, none⟩) pl).trans p0, (qq.cell (p := ⟨w.heap.size, 1, none⟩) pl).trans p1, (qq.cell (p := ⟨w.heap.size, 2, none⟩) pl).trans p2, (qq.cell (p := ⟨w.heap.size + 1, 0, none⟩) ql).trans q0, (qq.cell (p := ⟨w.heap.size + 1, 1, none⟩) ql).trans q1, (qq.cell (p := ⟨w.heap.size + 1, 2, none⟩) ql).trans q2, (qq.cell (p := ⟨w4.heap.size, 0, none⟩) xl).trans x0, (qq.cell (p := ⟨w4.heap.size, 1, none⟩) xl).trans x1, (qq.cell (p := ⟨w4.heap.size, 2, none⟩) xl).trans x2, (qq.cell (p := ⟨w6.heap.size, 0, none⟩) yl).trans y0, (qq.cell (p := ⟨w6.heap.size, 1, none⟩) yl).trans y1, (qq.cell (p := ⟨w6.heap.size, 2, none⟩) yl).trans y2⟩ | go_keep)
    (first
      | (go_at_call 12; (with_reducible refine (alive5_any _).mono ?_); rintro e wz ⟨rfl, q⟩; replace qq := qq.trans (q.mono qq.size); (try replace h0' := h0'.on q); (try replace h1' := h1'.on q); (try replace u := u.on q); (try replace v := v.on q); clear q)
      | (go_at_call 28; (with_reducible refine (qmul_N h0' (s0.le (by omega)) h1' (s1.le (by omega))).mono ?_); rintro e wz ⟨bu, Au, nu, cu, Bu, mu, du, rfl, u, q⟩; replace qq := qq.trans (q.mono qq.size); (try replace h0' := h0'.on q); (try replace h1' := h1'.on q); (try replace v := v.on q); clear q)
      | (go_at_call 29; (with_reducible refine (rtmul_N h0' (s0.le (by omega)) h1' (s1.le (by omega))).mono ?_); rintro e wz ⟨bv, Av, nv, cv, Bv, mv, dv, rfl, v, q⟩; replace qq := qq.trans (q.mono qq.size); (try replace h0' := h0'.on q); (try replace h1' := h1'.on q); (try replace u := u.on q); clear q)
      | (go_at_call 18; (with_reducible refine (rtsame_self u (p01.le (by omega)) v).mono ?_); rintro e wz ⟨rfl, q⟩; replace qq := qq.trans (q.mono qq.size); (try replace h0' := h0'.on q); (try replace h1' := h1'.on q); (try replace u := u.on q); (try replace v := v.on q); clear q)
      | (go_at_call 18; (with_reducible refine (rtsame_none _).mono ?_); rintro e wz ⟨rfl, q⟩; replace qq := qq.trans (q.mono qq.size); (try replace h0' := h0'.on q); (try replace h1' := h1'.on q); (try replace u := u.on q); (try replace v := v.on q); clear q)
      | (go_at_call 30; (with_reducible refine (qcmp_v k h0' (s0.le (by omega)) h1' (s1.le (by omega)) HK.out).mono ?_); rintro e wz ⟨rfl, q⟩; replace qq := qq.trans (q.mono qq.size); (try replace h0' := h0'.on q); (try replace h1' := h1'.on q); (try replace u := u.on q); (try replace v := v.on q); clear q)
      | (go_at_call 31; (with_reducible refine (rtcmp_v k h0' (s0.le (by omega)) h1' (s1.le (by omega)) HK.out).mono ?_); rintro e wz ⟨rfl, q⟩; replace qq := qq.trans (q.mono qq.size); (try replace h0' := h0'.on q); (try replace h1' := h1'.on q); (try replace u := u.on q); (try replace v := v.on q); clear q))
  clear h0
  have h0 := h0'
  clear h0'
  clear h1
  have h1 := h1'
  clear h1'
  replace p0 := (qq.cell (p := ⟨w.heap.size, 0, none⟩) pl).trans p0
  replace p1 := (qq.cell (p := ⟨w.heap.size, 1, none⟩) pl).trans p1
  replace p2 := (qq.cell (p := ⟨w.heap.size, 2, none⟩) pl).trans p2
  replace pl := Nat.lt_of_lt_of_le pl qq.size
  replace q0 := (qq.cell (p := ⟨w.heap.size + 1, 0, none⟩) ql).trans q0
  replace q1 := (qq.cell (p := ⟨w.heap.size + 1, 1, none⟩) ql).trans q1
  replace q2 := (qq.cell (p := ⟨w.heap.size + 1, 2, none⟩) ql).trans q2
  replace ql := Nat.lt_of_lt_of_le ql qq.size
  replace x0 := (qq.cell (p := ⟨w4.heap.size, 0, none⟩) xl).trans x0
  replace x1 := (qq.cell (p := ⟨w4.heap.size, 1, none⟩) xl).trans x1
  replace x2 := (qq.cell (p := ⟨w4.heap.size, 2, none⟩) xl).trans x2
  replace xl := Nat.lt_of_lt_of_le xl qq.size
  replace y0 := (qq.cell (p := ⟨w6.heap.size, 0, none⟩) yl).trans y0
  replace y1 := (qq.cell (p := ⟨w6.heap.size, 1, none⟩) yl).trans y1
  replace y2 := (qq.cell (p := ⟨w6.heap.size, 2, none⟩) yl).trans y2
  replace yl := Nat.lt_of_lt_of_le yl qq.size
  replace cc := cc.trans (qq.mono cc.size)
  clear qq
  go_wp2_with fail
  go_ret
  exact ⟨rfl, cc⟩

set_option maxRecDepth 100000 in
set_option maxHeartbeats 8000000 in
theorem RatReckons_walk {w : World} (b0 : Bool) {A0 : Option Addr} {n0 c0 : Nat} {l0 : List Nat} (hl0 : Lim w.heap.size w A0 n0 c0 l0) (hs0 : n0 ≤ 9223372036854775807) {B0 : Option Addr} {m0 d0 : Nat} {k0 : List Nat} (hk0 : Lim w.heap.size w B0 m0 d0 k0) (ht0 : m0 ≤ 9223372036854775807) (b1 : Bool) {A1 : Option Addr} {n1 c1 : Nat} {l1 : List Nat} (hl1 : Lim w.heap.size w A1 n1 c1 l1) (hs1 : n1 ≤ 9223372036854775807) {B1 : Option Addr} {m1 d1 : Nat} {k1 : List Nat} (hk1 : Lim w.heap.size w B1 m1 d1 k1) (ht1 : m1 ≤ 9223372036854775807) :
    Calls Try.prog 4 #[.agg #[.bool b0, .slice A0 n0 c0, .slice B0 m0 d0], .agg #[.bool b1, .slice A1 n1 c1, .slice B1 m1 d1]] w fun e w' => e = .returned (.bool true) ∧ Below w.heap.size w w' := by
  have G : ∀ {b : Bool} {A B : Option Addr} {n c m d : Nat} {l k : List Nat} (r : Bool), Lim w.heap.size w A n c l → Lim w.heap.size w B m d k → (decide ((n : Int) ≤ 4) && (decide ((m : Int) ≤ 4) && okR b n l m k)) = r → ∀ W : World, Below w.heap.size w W → Calls Try.prog 21 #[.agg #[.bool b, .slice A n c, .slice B m d], .int .i64 4] W (GotV W (.bool r)) := fun r hl hk hr W hW => rtfew_any (hl.on hW) (hk.on hW) 4 (by omega) r hr
  cases e0 : (decide ((n0 : Int) ≤ 4) && (decide ((m0 : Int) ≤ 4) && okR b0 n0 l0 m0 k0)) with
  | false => exact RatReckons_no0  (G false hl0 hk0 e0)
  | true =>
    cases e1 : (decide ((n1 : Int) ≤ 4) && (decide ((m1 : Int) ≤ 4) && okR b1 n1 l1 m1 k1)) with
    | false => exact RatReckons_no1 (G true hl0 hk0 e0) (G false hl1 hk1 e1)
    | true =>
      obtain ⟨x0, h0, s0⟩ := few_rt 4 hl0 hk0 e0
      obtain ⟨x1, h1, s1⟩ := few_rt 4 hl1 hk1 e1
      by_cases hne : x1.num = 0
      · exact RatReckons_zero h0 s0 h1 s1 (rt_zero h1 hne) (G true hl0 hk0 e0) (G true hl1 hk1 e1)
      · exact RatReckons_ok h0 s0 h1 s1 hne (G true hl0 hk0 e0) (G true hl1 hk1 e1)

end Go.Proofs.Ytgnhioffamfakaa
