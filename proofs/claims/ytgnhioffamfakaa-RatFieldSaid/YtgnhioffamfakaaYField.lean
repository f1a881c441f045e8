/-
  The walk of RatField.
-/
import Derived.Test.YtgnhioffamfakaaA9
namespace Go.Proofs.Ytgnhioffamfakaa
open Go.RowKit
set_option linter.unusedVariables false

set_option maxRecDepth 100000 in
set_option maxHeartbeats 8000000 in
theorem RatField_no0 {w : World} {b0 b1 b2 : Bool} {A0 B0 A1 B1 A2 B2 : Option Addr} {n0 c0 m0 d0 n1 c1 m1 d1 n2 c2 m2 d2 : Nat} (G0 : ∀ W : World, Below w.heap.size w W → Calls Try.prog 21 #[.agg #[.bool b0, .slice A0 n0 c0, .slice B0 m0 d0], .int .i64 3] W (GotV W (.bool false))) :
    Calls Try.prog 5 #[.agg #[.bool b0, .slice A0 n0 c0, .slice B0 m0 d0], .agg #[.bool b1, .slice A1 n1 c1, .slice B1 m1 d1], .agg #[.bool b2, .slice A2 n2 c2, .slice B2 m2 d2]] w fun e w' => e = .returned (.bool true) ∧ Below w.heap.size w w' := by
  have cc := Below.refl w.heap.size w
  go_enter Try.func5, Try.ntmps5
  go_wp2_with fail
  have bA : Below w.heap.size w (((w.alloc (.cells #[.bool b0, .slice A0 n0 c0, .slice B0 m0 d0] 27)).alloc (.cells #[.bool b1, .slice A1 n1 c1, .slice B1 m1 d1] 27)).alloc (.cells #[.bool b2, .slice A2 n2 c2, .slice B2 m2 d2] 27)) := ((((Below.refl _ w).alloc (by simp) _).alloc (by simp) _).alloc (by simp <;> omega) _)
  replace cc := cc.trans (bA.mono cc.size)
  clear bA
  have p0 : (((w.alloc (.cells #[.bool b0, .slice A0 n0 c0, .slice B0 m0 d0] 27)).alloc (.cells #[.bool b1, .slice A1 n1 c1, .slice B1 m1 d1] 27)).alloc (.cells #[.bool b2, .slice A2 n2 c2, .slice B2 m2 d2] 27)).cell? ⟨w.heap.size, 0, none⟩ = some (.bool b0) := by simp [go_sem]
  have p1 : (((w.alloc (.cells #[.bool b0, .slice A0 n0 c0, .slice B0 m0 d0] 27)).alloc (.cells #[.bool b1, .slice A1 n1 c1, .slice B1 m1 d1] 27)).alloc (.cells #[.bool b2, .slice A2 n2 c2, .slice B2 m2 d2] 27)).cell? ⟨w.heap.size, 1, none⟩ = some (.slice A0 n0 c0) := by simp [go_sem]
  have p2 : (((w.alloc (.cells #[.bool b0, .slice A0 n0 c0, .slice B0 m0 d0] 27)).alloc (.cells #[.bool b1, .slice A1 n1 c1, .slice B1 m1 d1] 27)).alloc (.cells #[.bool b2, .slice A2 n2 c2, .slice B2 m2 d2] 27)).cell? ⟨w.heap.size, 2, none⟩ = some (.slice B0 m0 d0) := by simp [go_sem]
  have pl : w.heap.size < (((w.alloc (.cells #[.bool b0, .slice A0 n0 c0, .slice B0 m0 d0] 27)).alloc (.cells #[.bool b1, .slice A1 n1 c1, .slice B1 m1 d1] 27)).alloc (.cells #[.bool b2, .slice A2 n2 c2, .slice B2 m2 d2] 27)).heap.size := by simp <;> omega
  have q0 : (((w.alloc (.cells #[.bool b0, .slice A0 n0 c0, .slice B0 m0 d0] 27)).alloc (.cells #[.bool b1, .slice A1 n1 c1, .slice B1 m1 d1] 27)).alloc (.cells #[.bool b2, .slice A2 n2 c2, .slice B2 m2 d2] 27)).cell? ⟨w.heap.size + 1, 0, none⟩ = some (.bool b1) := by simp [go_sem]
  have q1 : (((w.alloc (.cells #[.bool b0, .slice A0 n0 c0, .slice B0 m0 d0] 27)).alloc (.cells #[.bool b1, .slice A1 n1 c1, .slice B1 m1 d1] 27)).alloc (.cells #[.bool b2, .slice A2 n2 c2, .slice B2 m2 d2] 27)).cell? ⟨w.heap.size + 1, 1, none⟩ = some (.slice A1 n1 c1) := by simp [go_sem]
  have q2 : (((w.alloc (.cells #[.bool b0, .slice A0 n0 c0, .slice B0 m0 d0] 27)).alloc (.cells #[.bool b1, .slice A1 n1 c1, .slice B1 m1 d1] 27)).alloc (.cells #[.bool b2, .slice A2 n2 c2, .slice B2 m2 d2] 27)).cell? ⟨w.heap.size + 1, 2, none⟩ = some (.slice B1 m1 d1) := by simp [go_sem]
  have ql : w.heap.size + 1 < (((w.alloc (.cells #[.bool b0, .slice A0 n0 c0, .slice B0 m0 d0] 27)).alloc (.cells #[.bool b1, .slice A1 n1 c1, .slice B1 m1 d1] 27)).alloc (.cells #[.bool b2, .slice A2 n2 c2, .slice B2 m2 d2] 27)).heap.size := by simp <;> omega
  have r0 : (((w.alloc (.cells #[.bool b0, .slice A0 n0 c0, .slice B0 m0 d0] 27)).alloc (.cells #[.bool b1, .slice A1 n1 c1, .slice B1 m1 d1] 27)).alloc (.cells #[.bool b2, .slice A2 n2 c2, .slice B2 m2 d2] 27)).cell? ⟨w.heap.size + 1 + 1, 0, none⟩ = some (.bool b2) := by simp [go_sem]
  have r1 : (((w.alloc (.cells #[.bool b0, .slice A0 n0 c0, .slice B0 m0 d0] 27)).alloc (.cells #[.bool b1, .slice A1 n1 c1, .slice B1 m1 d1] 27)).alloc (.cells #[.bool b2, .slice A2 n2 c2, .slice B2 m2 d2] 27)).cell? ⟨w.heap.size + 1 + 1, 1, none⟩ = some (.slice A2 n2 c2) := by simp [go_sem]
  have r2 : (((w.alloc (.cells #[.bool b0, .slice A0 n0 c0, .slice B0 m0 d0] 27)).alloc (.cells #[.bool b1, .slice A1 n1 c1, .slice B1 m1 d1] 27)).alloc (.cells #[.bool b2, .slice A2 n2 c2, .slice B2 m2 d2] 27)).cell? ⟨w.heap.size + 1 + 1, 2, none⟩ = some (.slice B2 m2 d2) := by simp [go_sem]
  have rl : w.heap.size + 1 + 1 < (((w.alloc (.cells #[.bool b0, .slice A0 n0 c0, .slice B0 m0 d0] 27)).alloc (.cells #[.bool b1, .slice A1 n1 c1, .slice B1 m1 d1] 27)).alloc (.cells #[.bool b2, .slice A2 n2 c2, .slice B2 m2 d2] 27)).heap.size := by simp <;> omega
  generalize ((w.alloc (.cells #[.bool b0, .slice A0 n0 c0, .slice B0 m0 d0] 27)).alloc (.cells #[.bool b1, .slice A1 n1 c1, .slice B1 m1 d1] 27)).alloc (.cells #[.bool b2, .slice A2 n2 c2, .slice B2 m2 d2] 27) = v1 at *
  refine (G0 _ cc).mono ?_
  rintro e w2 ⟨rfl, b⟩
  replace p0 := (b.cell (p := ⟨w.heap.size, 0, none⟩) pl).trans p0
  replace p1 := (b.cell (p := ⟨w.heap.size, 1, none⟩) pl).trans p1
  replace p2 := (b.cell (p := ⟨w.heap.size, 2, none⟩) pl).trans p2
  replace pl := Nat.lt_of_lt_of_le pl b.size
  replace q0 := (b.cell (p := ⟨w.heap.size + 1, 0, none⟩) ql).trans q0
  replace q1 := (b.cell (p := ⟨w.heap.size + 1, 1, none⟩) ql).trans q1
  replace q2 := (b.cell (p := ⟨w.heap.size + 1, 2, none⟩) ql).trans q2
  replace ql := Nat.lt_of_lt_of_le ql b.size
  replace r0 := (b.cell (p := ⟨w.heap.size + 1 + 1, 0, none⟩) rl).trans r0
  replace r1 := (b.cell (p := ⟨w.heap.size + 1 + 1, 1, none⟩) rl).trans r1
  replace r2 := (b.cell (p := ⟨w.heap.size + 1 + 1, 2, none⟩) rl).trans r2
  replace rl := Nat.lt_of_lt_of_le rl b.size
  replace cc := cc.trans (b.mono cc.size)
  clear b
  go_wp2_with fail
  refine (alive5_any _).mono ?_
  rintro e w3 ⟨rfl, b⟩
  replace p0 := (b.cell (p := ⟨w.heap.size, 0, none⟩) pl).trans p0
  replace p1 := (b.cell (p := ⟨w.heap.size, 1, none⟩) pl).trans p1
  replace p2 := (b.cell (p := ⟨w.heap.size, 2, none⟩) pl).trans p2
  replace pl := Nat.lt_of_lt_of_le pl b.size
  replace q0 := (b.cell (p := ⟨w.heap.size + 1, 0, none⟩) ql).trans q0
  replace q1 := (b.cell (p := ⟨w.heap.size + 1, 1, none⟩) ql).trans q1
  replace q2 := (b.cell (p := ⟨w.heap.size + 1, 2, none⟩) ql).trans q2
  replace ql := Nat.lt_of_lt_of_le ql b.size
  replace r0 := (b.cell (p := ⟨w.heap.size + 1 + 1, 0, none⟩) rl).trans r0
  replace r1 := (b.cell (p := ⟨w.heap.size + 1 + 1, 1, none⟩) rl).trans r1
  replace r2 := (b.cell (p := ⟨w.heap.size + 1 + 1, 2, none⟩) rl).trans r2
  replace rl := Nat.lt_of_lt_of_le rl b.size
  replace cc := cc.trans (b.mono cc.size)
  clear b
  go_wp2_with fail
  go_ret
  exact ⟨rfl, cc⟩

set_option maxRecDepth 100000 in
set_option maxHeartbeats 8000000 in
theorem RatField_no1 {w : World} {b0 b1 b2 : Bool} {A0 B0 A1 B1 A2 B2 : Option Addr} {n0 c0 m0 d0 n1 c1 m1 d1 n2 c2 m2 d2 : Nat} (G0 : ∀ W : World, Below w.heap.size w W → Calls Try.prog 21 #[.agg #[.bool b0, .slice A0 n0 c0, .slice B0 m0 d0], .int .i64 3] W (GotV W (.bool true))) (G1 : ∀ W : World, Below w.heap.size w W → Calls Try.prog 21 #[.agg #[.bool b1, .slice A1 n1 c1, .slice B1 m1 d1], .int .i64 3] W (GotV W (.bool false))) :
    Calls Try.prog 5 #[.agg #[.bool b0, .slice A0 n0 c0, .slice B0 m0 d0], .agg #[.bool b1, .slice A1 n1 c1, .slice B1 m1 d1], .agg #[.bool b2, .slice A2 n2 c2, .slice B2 m2 d2]] w fun e w' => e = .returned (.bool true) ∧ Below w.heap.size w w' := by
  have cc := Below.refl w.heap.size w
  go_enter Try.func5, Try.ntmps5
  go_wp2_with fail
  have bA : Below w.heap.size w (((w.alloc (.cells #[.bool b0, .slice A0 n0 c0, .slice B0 m0 d0] 27)).alloc (.cells #[.bool b1, .slice A1 n1 c1, .slice B1 m1 d1] 27)).alloc (.cells #[.bool b2, .slice A2 n2 c2, .slice B2 m2 d2] 27)) := ((((Below.refl _ w).alloc (by simp) _).alloc (by simp) _).alloc (by simp <;> omega) _)
  replace cc := cc.trans (bA.mono cc.size)
  clear bA
  have p0 : (((w.alloc (.cells #[.bool b0, .slice A0 n0 c0, .slice B0 m0 d0] 27)).alloc (.cells #[.bool b1, .slice A1 n1 c1, .slice B1 m1 d1] 27)).alloc (.cells #[.bool b2, .slice A2 n2 c2, .slice B2 m2 d2] 27)).cell? ⟨w.heap.size, 0, none⟩ = some (.bool b0) := by simp [go_sem]
  have p1 : (((w.alloc (.cells #[.bool b0, .slice A0 n0 c0, .slice B0 m0 d0] 27)).alloc (.cells #[.bool b1, .slice A1 n1 c1, .slice B1 m1 d1] 27)).alloc (.cells #[.bool b2, .slice A2 n2 c2, .slice B2 m2 d2] 27)).cell? ⟨w.heap.size, 1, none⟩ = some (.slice A0 n0 c0) := by simp [go_sem]
  have p2 : (((w.alloc (.cells #[.bool b0, .slice A0 n0 c0, .slice B0 m0 d0] 27)).alloc (.cells #[.bool b1, .slice A1 n1 c1, .slice B1 m1 d1] 27)).alloc (.cells #[.bool b2, .slice A2 n2 c2, .slice B2 m2 d2] 27)).cell? ⟨w.heap.size, 2, none⟩ = some (.slice B0 m0 d0) := by simp [go_sem]
  have pl : w.heap.size < (((w.alloc (.cells #[.bool b0, .slice A0 n0 c0, .slice B0 m0 d0] 27)).alloc (.cells #[.bool b1, .slice A1 n1 c1, .slice B1 m1 d1] 27)).alloc (.cells #[.bool b2, .slice A2 n2 c2, .slice B2 m2 d2] 27)).heap.size := by simp <;> omega
  have q0 : (((w.alloc (.cells #[.bool b0, .slice A0 n0 c0, .slice B0 m0 d0] 27)).alloc (.cells #[.bool b1, .slice A1 n1 c1, .slice B1 m1 d1] 27)).alloc (.cells #[.bool b2, .slice A2 n2 c2, .slice B2 m2 d2] 27)).cell? ⟨w.heap.size + 1, 0, none⟩ = some (.bool b1) := by simp [go_sem]
  have q1 : (((w.alloc (.cells #[.bool b0, .slice A0 n0 c0, .slice B0 m0 d0] 27)).alloc (.cells #[.bool b1, .slice A1 n1 c1, .slice B1 m1 d1] 27)).alloc (.cells #[.bool b2, .slice A2 n2 c2, .slice B2 m2 d2] 27)).cell? ⟨w.heap.size + 1, 1, none⟩ = some (.slice A1 n1 c1) := by simp [go_sem]
  have q2 : (((w.alloc (.cells #[.bool b0, .slice A0 n0 c0, .slice B0 m0 d0] 27)).alloc (.cells #[.bool b1, .slice A1 n1 c1, .slice B1 m1 d1] 27)).alloc (.cells #[.bool b2, .slice A2 n2 c2, .slice B2 m2 d2] 27)).cell? ⟨w.heap.size + 1, 2, none⟩ = some (.slice B1 m1 d1) := by simp [go_sem]
  have ql : w.heap.size + 1 < (((w.alloc (.cells #[.bool b0, .slice A0 n0 c0, .slice B0 m0 d0] 27)).alloc (.cells #[.bool b1, .slice A1 n1 c1, .slice B1 m1 d1] 27)).alloc (.cells #[.bool b2, .slice A2 n2 c2, .slice B2 m2 d2] 27)).heap.size := by simp <;> omega
  have r0 : (((w.alloc (.cells #[.bool b0, .slice A0 n0 c0, .slice B0 m0 d0] 27)).alloc (.cells #[.bool b1, .slice A1 n1 c1, .slice B1 m1 d1] 27)).alloc (.cells #[.bool b2, .slice A2 n2 c2, .slice B2 m2 d2] 27)).cell? ⟨w.heap.size + 1 + 1, 0, none⟩ = some (.bool b2) := by simp [go_sem]
  have r1 : (((w.alloc (.cells #[.bool b0, .slice A0 n0 c0, .slice B0 m0 d0] 27)).alloc (.cells #[.bool b1, .slice A1 n1 c1, .slice B1 m1 d1] 27)).alloc (.cells #[.bool b2, .slice A2 n2 c2, .slice B2 m2 d2] 27)).cell? ⟨w.heap.size + 1 + 1, 1, none⟩ = some (.slice A2 n2 c2) := by simp [go_sem]
  have r2 : (((w.alloc (.cells #[.bool b0, .slice A0 n0 c0, .slice B0 m0 d0] 27)).alloc (.cells #[.bool b1, .slice A1 n1 c1, .slice B1 m1 d1] 27)).alloc (.cells #[.bool b2, .slice A2 n2 c2, .slice B2 m2 d2] 27)).cell? ⟨w.heap.size + 1 + 1, 2, none⟩ = some (.slice B2 m2 d2) := by simp [go_sem]
  have rl : w.heap.size + 1 + 1 < (((w.alloc (.cells #[.bool b0, .slice A0 n0 c0, .slice B0 m0 d0] 27)).alloc (.cells #[.bool b1, .slice A1 n1 c1, .slice B1 m1 d1] 27)).alloc (.cells #[.bool b2, .slice A2 n2 c2, .slice B2 m2 d2] 27)).heap.size := by simp <;> omega
  generalize ((w.alloc (.cells #[.bool b0, .slice A0 n0 c0, .slice B0 m0 d0] 27)).alloc (.cells #[.bool b1, .slice A1 n1 c1, .slice B1 m1 d1] 27)).alloc (.cells #[.bool b2, .slice A2 n2 c2, .slice B2 m2 d2] 27) = v1 at *
  refine (G0 _ cc).mono ?_
  rintro e w2 ⟨rfl, b⟩
  replace p0 := (b.cell (p := ⟨w.heap.size, 0, none⟩) pl).trans p0
  replace p1 := (b.cell (p := ⟨w.heap.size, 1, none⟩) pl).trans p1
  replace p2 := (b.cell (p := ⟨w.heap.size, 2, none⟩) pl).trans p2
  replace pl := Nat.lt_of_lt_of_le pl b.size
  replace q0 := (b.cell (p := ⟨w.heap.size + 1, 0, none⟩) ql).trans q0
  replace q1 := (b.cell (p := ⟨w.heap.size + 1, 1, none⟩) ql).trans q1
  replace q2 := (b.cell (p := ⟨w.heap.size + 1, 2, none⟩) ql).trans q2
  replace ql := Nat.lt_of_lt_of_le ql b.size
  replace r0 := (b.cell (p := ⟨w.heap.size + 1 + 1, 0, none⟩) rl).trans r0
  replace r1 := (b.cell (p := ⟨w.heap.size + 1 + 1, 1, none⟩) rl).trans r1
  replace r2 := (b.cell (p := ⟨w.heap.size + 1 + 1, 2, none⟩) rl).trans r2
  replace rl := Nat.lt_of_lt_of_le rl b.size
  replace cc := cc.trans (b.mono cc.size)
  clear b
  go_wp2_with fail
  refine (G1 _ cc).mono ?_
  rintro e w3 ⟨rfl, b⟩
  replace p0 := (b.cell (p := ⟨w.heap.size, 0, none⟩) pl).trans p0
  replace p1 := (b.cell (p := ⟨w.heap.size, 1, none⟩) pl).trans p1
  replace p2 := (b.cell (p := ⟨w.heap.size, 2, none⟩) pl).trans p2
  replace pl := Nat.lt_of_lt_of_le pl b.size
  replace q0 := (b.cell (p := ⟨w.heap.size + 1, 0, none⟩) ql).trans q0
  replace q1 := (b.cell (p := ⟨w.heap.size + 1, 1, none⟩) ql).trans q1
  replace q2 := (b.cell (p := ⟨w.heap.size + 1, 2, none⟩) ql).trans q2
  replace ql := Nat.lt_of_lt_of_le ql b.size
  replace r0 := (b.cell (p := ⟨w.heap.size + 1 + 1, 0, none⟩) rl).trans r0
  replace r1 := (b.cell (p := ⟨w.heap.size + 1 + 1, 1, none⟩) rl).trans r1
  replace r2 := (b.cell (p := ⟨w.heap.size + 1 + 1, 2, none⟩) rl).trans r2
  replace rl := Nat.lt_of_lt_of_le rl b.size
  replace cc := cc.trans (b.mono cc.size)
  clear b
  go_wp2_with fail
  refine (alive5_any _).mono ?_
  rintro e w4 ⟨rfl, b⟩
  replace p0 := (b.cell (p := ⟨w.heap.size, 0, none⟩) pl).trans p0
  replace p1 := (b.cell (p := ⟨w.heap.size, 1, none⟩) pl).trans p1
  replace p2 := (b.cell (p := ⟨w.heap.size, 2, none⟩) pl).trans p2
  replace pl := Nat.lt_of_lt_of_le pl b.size
  replace q0 := (b.cell (p := ⟨w.heap.size + 1, 0, none⟩) ql).trans q0
  replace q1 := (b.cell (p := ⟨w.heap.size + 1, 1, none⟩) ql).trans q1
  replace q2 := (b.cell (p := ⟨w.heap.size + 1, 2, none⟩) ql).trans q2
  replace ql := Nat.lt_of_lt_of_le ql b.size
  replace r0 := (b.cell (p := ⟨w.heap.size + 1 + 1, 0, none⟩) rl).trans r0
  replace r1 := (b.cell (p := ⟨w.heap.size + 1 + 1, 1, none⟩) rl).trans r1
  replace r2 := (b.cell (p := ⟨w.heap.size + 1 + 1, 2, none⟩) rl).trans r2
  replace rl := Nat.lt_of_lt_of_le rl b.size
  replace cc := cc.trans (b.mono cc.size)
  clear b
  go_wp2_with fail
  go_ret
  exact ⟨rfl, cc⟩

set_option maxRecDepth 100000 in
set_option maxHeartbeats 8000000 in
theorem RatField_no2 {w : World} {b0 b1 b2 : Bool} {A0 B0 A1 B1 A2 B2 : Option Addr} {n0 c0 m0 d0 n1 c1 m1 d1 n2 c2 m2 d2 : Nat} (G0 : ∀ W : World, Below w.heap.size w W → Calls Try.prog 21 #[.agg #[.bool b0, .slice A0 n0 c0, .slice B0 m0 d0], .int .i64 3] W (GotV W (.bool true))) (G1 : ∀ W : World, Below w.heap.size w W → Calls Try.prog 21 #[.agg #[.bool b1, .slice A1 n1 c1, .slice B1 m1 d1], .int .i64 3] W (GotV W (.bool true))) (G2 : ∀ W : World, Below w.heap.size w W → Calls Try.prog 21 #[.agg #[.bool b2, .slice A2 n2 c2, .slice B2 m2 d2], .int .i64 3] W (GotV W (.bool false))) :
    Calls Try.prog 5 #[.agg #[.bool b0, .slice A0 n0 c0, .slice B0 m0 d0], .agg #[.bool b1, .slice A1 n1 c1, .slice B1 m1 d1], .agg #[.bool b2, .slice A2 n2 c2, .slice B2 m2 d2]] w fun e w' => e = .returned (.bool true) ∧ Below w.heap.size w w' := by
  have cc := Below.refl w.heap.size w
  go_enter Try.func5, Try.ntmps5
  go_wp2_with fail
  have bA : Below w.heap.size w (((w.alloc (.cells #[.bool b0, .slice A0 n0 c0, .slice B0 m0 d0] 27)).alloc (.cells #[.bool b1, .slice A1 n1 c1, .slice B1 m1 d1] 27)).alloc (.cells #[.bool b2, .slice A2 n2 c2, .slice B2 m2 d2] 27)) := ((((Below.refl _ w).alloc (by simp) _).alloc (by simp) _).alloc (by simp <;> omega) _)
  replace cc := cc.trans (bA.mono cc.size)
  clear bA
  have p0 : (((w.alloc (.cells #[.bool b0, .slice A0 n0 c0, .slice B0 m0 d0] 27)).alloc (.cells #[.bool b1, .slice A1 n1 c1, .slice B1 m1 d1] 27)).alloc (.cells #[.bool b2, .slice A2 n2 c2, .slice B2 m2 d2] 27)).cell? ⟨w.heap.size, 0, none⟩ = some (.bool b0) := by simp [go_sem]
  have p1 : (((w.alloc (.cells #[.bool b0, .slice A0 n0 c0, .slice B0 m0 d0] 27)).alloc (.cells #[.bool b1, .slice A1 n1 c1, .slice B1 m1 d1] 27)).alloc (.cells #[.bool b2, .slice A2 n2 c2, .slice B2 m2 d2] 27)).cell? ⟨w.heap.size, 1, none⟩ = some (.slice A0 n0 c0) := by simp [go_sem]
  have p2 : (((w.alloc (.cells #[.bool b0, .slice A0 n0 c0, .slice B0 m0 d0] 27)).alloc (.cells #[.bool b1, .slice A1 n1 c1, .slice B1 m1 d1] 27)).alloc (.cells #[.bool b2, .slice A2 n2 c2, .slice B2 m2 d2] 27)).cell? ⟨w.heap.size, 2, none⟩ = some (.slice B0 m0 d0) := by simp [go_sem]
  have pl : w.heap.size < (((w.alloc (.cells #[.bool b0, .slice A0 n0 c0, .slice B0 m0 d0] 27)).alloc (.cells #[.bool b1, .slice A1 n1 c1, .slice B1 m1 d1] 27)).alloc (.cells #[.bool b2, .slice A2 n2 c2, .slice B2 m2 d2] 27)).heap.size := by simp <;> omega
  have q0 : (((w.alloc (.cells #[.bool b0, .slice A0 n0 c0, .slice B0 m0 d0] 27)).alloc (.cells #[.bool b1, .slice A1 n1 c1, .slice B1 m1 d1] 27)).alloc (.cells #[.bool b2, .slice A2 n2 c2, .slice B2 m2 d2] 27)).cell? ⟨w.heap.size + 1, 0, none⟩ = some (.bool b1) := by simp [go_sem]
  have q1 : (((w.alloc (.cells #[.bool b0, .slice A0 n0 c0, .slice B0 m0 d0] 27)).alloc (.cells #[.bool b1, .slice A1 n1 c1, .slice B1 m1 d1] 27)).alloc (.cells #[.bool b2, .slice A2 n2 c2, .slice B2 m2 d2] 27)).cell? ⟨w.heap.size + 1, 1, none⟩ = some (.slice A1 n1 c1) := by simp [go_sem]
  have q2 : (((w.alloc (.cells #[.bool b0, .slice A0 n0 c0, .slice B0 m0 d0] 27)).alloc (.cells #[.bool b1, .slice A1 n1 c1, .slice B1 m1 d1] 27)).alloc (.cells #[.bool b2, .slice A2 n2 c2, .slice B2 m2 d2] 27)).cell? ⟨w.heap.size + 1, 2, none⟩ = some (.slice B1 m1 d1) := by simp [go_sem]
  have ql : w.heap.size + 1 < (((w.alloc (.cells #[.bool b0, .slice A0 n0 c0, .slice B0 m0 d0] 27)).alloc (.cells #[.bool b1, .slice A1 n1 c1, .slice B1 m1 d1] 27)).alloc (.cells #[.bool b2, .slice A2 n2 c2, .slice B2 m2 d2] 27)).heap.size := by simp <;> omega
  have r0 : (((w.alloc (.cells #[.bool b0, .slice A0 n0 c0, .slice B0 m0 d0] 27)).alloc (.cells #[.bool b1, .slice A1 n1 c1, .slice B1 m1 d1] 27)).alloc (.cells #[.bool b2, .slice A2 n2 c2, .slice B2 m2 d2] 27)).cell? ⟨w.heap.size + 1 + 1, 0, none⟩ = some (.bool b2) := by simp [go_sem]
  have r1 : (((w.alloc (.cells #[.bool b0, .slice A0 n0 c0, .slice B0 m0 d0] 27)).alloc (.cells #[.bool b1, .slice A1 n1 c1, .slice B1 m1 d1] 27)).alloc (.cells #[.bool b2, .slice A2 n2 c2, .slice B2 m2 d2] 27)).cell? ⟨w.heap.size + 1 + 1, 1, none⟩ = some (.slice A2 n2 c2) := by simp [go_sem]
  have r2 : (((w.alloc (.cells #[.bool b0, .slice A0 n0 c0, .slice B0 m0 d0] 27)).alloc (.cells #[.bool b1, .slice A1 n1 c1, .slice B1 m1 d1] 27)).alloc (.cells #[.bool b2, .slice A2 n2 c2, .slice B2 m2 d2] 27)).cell? ⟨w.heap.size + 1 + 1, 2, none⟩ = some (.slice B2 m2 d2) := by simp [go_sem]
  have rl : w.heap.size + 1 + 1 < (((w.alloc (.cells #[.bool b0, .slice A0 n0 c0, .slice B0 m0 d0] 27)).alloc (.cells #[.bool b1, .slice A1 n1 c1, .slice B1 m1 d1] 27)).alloc (.cells #[.bool b2, .slice A2 n2 c2, .slice B2 m2 d2] 27)).heap.size := by simp <;> omega
  generalize ((w.alloc (.cells #[.bool b0, .slice A0 n0 c0, .slice B0 m0 d0] 27)).alloc (.cells #[.bool b1, .slice A1 n1 c1, .slice B1 m1 d1] 27)).alloc (.cells #[.bool b2, .slice A2 n2 c2, .slice B2 m2 d2] 27) = v1 at *
  refine (G0 _ cc).mono ?_
  rintro e w2 ⟨rfl, b⟩
  replace p0 := (b.cell (p := ⟨w.heap.size, 0, none⟩) pl).trans p0
  replace p1 := (b.cell (p := ⟨w.heap.size, 1, none⟩) pl).trans p1
  replace p2 := (b.cell (p := ⟨w.heap.size, 2, none⟩) pl).trans p2
  replace pl := Nat.lt_of_lt_of_le pl b.size
  replace q0 := (b.cell (p := ⟨w.heap.size + 1, 0, none⟩) ql).trans q0
  replace q1 := (b.cell (p := ⟨w.heap.size + 1, 1, none⟩) ql).trans q1
  replace q2 := (b.cell (p := ⟨w.heap.size + 1, 2, none⟩) ql).trans q2
  replace ql := Nat.lt_of_lt_of_le ql b.size
  replace r0 := (b.cell (p := ⟨w.heap.size + 1 + 1, 0, none⟩) rl).trans r0
  replace r1 := (b.cell (p := ⟨w.heap.size + 1 + 1, 1, none⟩) rl).trans r1
  replace r2 := (b.cell (p := ⟨w.heap.size + 1 + 1, 2, none⟩) rl).trans r2
  replace rl := Nat.lt_of_lt_of_le rl b.size
  replace cc := cc.trans (b.mono cc.size)
  clear b
  go_wp2_with fail
  refine (G1 _ cc).mono ?_
  rintro e w3 ⟨rfl, b⟩
  replace p0 := (b.cell (p := ⟨w.heap.size, 0, none⟩) pl).trans p0
  replace p1 := (b.cell (p := ⟨w.heap.size, 1, none⟩) pl).trans p1
  replace p2 := (b.cell (p := ⟨w.heap.size, 2, none⟩) pl).trans p2
  replace pl := Nat.lt_of_lt_of_le pl b.size
  replace q0 := (b.cell (p := ⟨w.heap.size + 1, 0, none⟩) ql).trans q0
  replace q1 := (b.cell (p := ⟨w.heap.size + 1, 1, none⟩) ql).trans q1
  replace q2 := (b.cell (p := ⟨w.heap.size + 1, 2, none⟩) ql).trans q2
  replace ql := Nat.lt_of_lt_of_le ql b.size
  replace r0 := (b.cell (p := ⟨w.heap.size + 1 + 1, 0, none⟩) rl).trans r0
  replace r1 := (b.cell (p := ⟨w.heap.size + 1 + 1, 1, none⟩) rl).trans r1
  replace r2 := (b.cell (p := ⟨w.heap.size + 1 + 1, 2, none⟩) rl).trans r2
  replace rl := Nat.lt_of_lt_of_le rl b.size
  replace cc := cc.trans (b.mono cc.size)
  clear b
  go_wp2_with fail
  refine (G2 _ cc).mono ?_
  rintro e w4 ⟨rfl, b⟩
  replace p0 := (b.cell (p := ⟨w.heap.size, 0, none⟩) pl).trans p0
  replace p1 := (b.cell (p := ⟨w.heap.size, 1, none⟩) pl).trans p1
  replace p2 := (b.cell (p := ⟨w.heap.size, 2, none⟩) pl).trans p2
  replace pl := Nat.lt_of_lt_of_le pl b.size
  replace q0 := (b.cell (p := ⟨w.heap.size + 1, 0, none⟩) ql).trans q0
  replace q1 := (b.cell (p := ⟨w.heap.size + 1, 1, none⟩) ql).trans q1
  replace q2 := (b.cell (p := ⟨w.heap.size + 1, 2, none⟩) ql).trans q2
  replace ql := Nat.lt_of_lt_of_le ql b.size
  replace r0 := (b.cell (p := ⟨w.heap.size + 1 + 1, 0, none⟩) rl).trans r0
  replace r1 := (b.cell (p := ⟨w.heap.size + 1 + 1, 1, none⟩) rl).trans r1
  replace r2 := (b.cell (p := ⟨w.heap.size + 1 + 1, 2, none⟩) rl).trans r2
  replace rl := Nat.lt_of_lt_of_le rl b.size
  replace cc := cc.trans (b.mono cc.size)
  clear b
  go_wp2_with fail
  refine (alive5_any _).mono ?_
  rintro e w5 ⟨rfl, b⟩
  replace p0 := (b.cell (p := ⟨w.heap.size, 0, none⟩) pl).trans p0
  replace p1 := (b.cell (p := ⟨w.heap.size, 1, none⟩) pl).trans p1
  replace p2 := (b.cell (p := ⟨w.heap.size, 2, none⟩) pl).trans p2
  replace pl := Nat.lt_of_lt_of_le pl b.size
  replace q0 := (b.cell (p := ⟨w.heap.size + 1, 0, none⟩) ql).trans q0
  replace q1 := (b.cell (p := ⟨w.heap.size + 1, 1, none⟩) ql).trans q1
  replace q2 := (b.cell (p := ⟨w.heap.size + 1, 2, none⟩) ql).trans q2
  replace ql := Nat.lt_of_lt_of_le ql b.size
  replace r0 := (b.cell (p := ⟨w.heap.size + 1 + 1, 0, none⟩) rl).trans r0
  replace r1 := (b.cell (p := ⟨w.heap.size + 1 + 1, 1, none⟩) rl).trans r1
  replace r2 := (b.cell (p := ⟨w.heap.size + 1 + 1, 2, none⟩) rl).trans r2
  replace rl := Nat.lt_of_lt_of_le rl b.size
  replace cc := cc.trans (b.mono cc.size)
  clear b
  go_wp2_with fail
  go_ret
  exact ⟨rfl, cc⟩

set_option maxRecDepth 100000 in
set_option maxHeartbeats 8000000 in
theorem RatField_ok {w : World} {b0 b1 b2 : Bool} {A0 B0 A1 B1 A2 B2 : Option Addr} {n0 c0 m0 d0 n1 c1 m1 d1 n2 c2 m2 d2 : Nat} {x0 : Rat} (h0 : Rt w b0 A0 n0 c0 B0 m0 d0 x0) (s0 : Sz x0 3) {x1 : Rat} (h1 : Rt w b1 A1 n1 c1 B1 m1 d1 x1) (s1 : Sz x1 3) {x2 : Rat} (h2 : Rt w b2 A2 n2 c2 B2 m2 d2 x2) (s2 : Sz x2 3) (G0 : ∀ W : World, Below w.heap.size w W → Calls Try.prog 21 #[.agg #[.bool b0, .slice A0 n0 c0, .slice B0 m0 d0], .int .i64 3] W (GotV W (.bool true))) (G1 : ∀ W : World, Below w.heap.size w W → Calls Try.prog 21 #[.agg #[.bool b1, .slice A1 n1 c1, .slice B1 m1 d1], .int .i64 3] W (GotV W (.bool true))) (G2 : ∀ W : World, Below w.heap.size w W → Calls Try.prog 21 #[.agg #[.bool b2, .slice A2 n2 c2, .slice B2 m2 d2], .int .i64 3] W (GotV W (.bool true))) :
    Calls Try.prog 5 #[.agg #[.bool b0, .slice A0 n0 c0, .slice B0 m0 d0], .agg #[.bool b1, .slice A1 n1 c1, .slice B1 m1 d1], .agg #[.bool b2, .slice A2 n2 c2, .slice B2 m2 d2]] w fun e w' => e = .returned (.bool true) ∧ Below w.heap.size w w' := by
  have sa := s0.add s1
  have sb := s0.mul s1
  have sa2 := s1.add s0
  have sb2 := s1.mul s0
  have s12 := s1.add s2
  have p12 := s1.mul s2
  have p02 := s0.mul s2
  have t1 := sa.add s2
  have t2 := s0.add s12
  have t3 := sb.mul s2
  have t4 := s0.mul p12
  have t5 := sa.mul s2
  have t6 := p02.add p12
  have e1 : Hid (x0 + x1 = x1 + x0) := Lib.hid (by grind)
  have e2 : Hid (x0 * x1 = x1 * x0) := Lib.hid (by grind)
  have e3 : Hid (x0 + x1 + x2 = x0 + (x1 + x2)) := Lib.hid (by grind)
  have e4 : Hid (x0 * x1 * x2 = x0 * (x1 * x2)) := Lib.hid (by grind)
  have e5 : Hid ((x0 + x1) * x2 = x0 * x2 + x1 * x2) := Lib.hid (by grind)
  have cc := Below.refl w.heap.size w
  go_enter Try.func5, Try.ntmps5
  go_wp2_with fail
  have bA : Below w.heap.size w (((w.alloc (.cells #[.bool b0, .slice A0 n0 c0, .slice B0 m0 d0] 27)).alloc (.cells #[.bool b1, .slice A1 n1 c1, .slice B1 m1 d1] 27)).alloc (.cells #[.bool b2, .slice A2 n2 c2, .slice B2 m2 d2] 27)) := ((((Below.refl _ w).alloc (by simp) _).alloc (by simp) _).alloc (by simp <;> omega) _)
  replace h0 := h0.on bA
  replace h1 := h1.on bA
  replace h2 := h2.on bA
  replace cc := cc.trans (bA.mono cc.size)
  clear bA
  have p0 : (((w.alloc (.cells #[.bool b0, .slice A0 n0 c0, .slice B0 m0 d0] 27)).alloc (.cells #[.bool b1, .slice A1 n1 c1, .slice B1 m1 d1] 27)).alloc (.cells #[.bool b2, .slice A2 n2 c2, .slice B2 m2 d2] 27)).cell? ⟨w.heap.size, 0, none⟩ = some (.bool b0) := by simp [go_sem]
  have p1 : (((w.alloc (.cells #[.bool b0, .slice A0 n0 c0, .slice B0 m0 d0] 27)).alloc (.cells #[.bool b1, .slice A1 n1 c1, .slice B1 m1 d1] 27)).alloc (.cells #[.bool b2, .slice A2 n2 c2, .slice B2 m2 d2] 27)).cell? ⟨w.heap.size, 1, none⟩ = some (.slice A0 n0 c0) := by simp [go_sem]
  have p2 : (((w.alloc (.cells #[.bool b0, .slice A0 n0 c0, .slice B0 m0 d0] 27)).alloc (.cells #[.bool b1, .slice A1 n1 c1, .slice B1 m1 d1] 27)).alloc (.cells #[.bool b2, .slice A2 n2 c2, .slice B2 m2 d2] 27)).cell? ⟨w.heap.size, 2, none⟩ = some (.slice B0 m0 d0) := by simp [go_sem]
  have pl : w.heap.size < (((w.alloc (.cells #[.bool b0, .slice A0 n0 c0, .slice B0 m0 d0] 27)).alloc (.cells #[.bool b1, .slice A1 n1 c1, .slice B1 m1 d1] 27)).alloc (.cells #[.bool b2, .slice A2 n2 c2, .slice B2 m2 d2] 27)).heap.size := by simp <;> omega
  have q0 : (((w.alloc (.cells #[.bool b0, .slice A0 n0 c0, .slice B0 m0 d0] 27)).alloc (.cells #[.bool b1, .slice A1 n1 c1, .slice B1 m1 d1] 27)).alloc (.cells #[.bool b2, .slice A2 n2 c2, .slice B2 m2 d2] 27)).cell? ⟨w.heap.size + 1, 0, none⟩ = some (.bool b1) := by simp [go_sem]
  have q1 : (((w.alloc (.cells #[.bool b0, .slice A0 n0 c0, .slice B0 m0 d0] 27)).alloc (.cells #[.bool b1, .slice A1 n1 c1, .slice B1 m1 d1] 27)).alloc (.cells #[.bool b2, .slice A2 n2 c2, .slice B2 m2 d2] 27)).cell? ⟨w.heap.size + 1, 1, none⟩ = some (.slice A1 n1 c1) := by simp [go_sem]
  have q2 : (((w.alloc (.cells #[.bool b0, .slice A0 n0 c0, .slice B0 m0 d0] 27)).alloc (.cells #[.bool b1, .slice A1 n1 c1, .slice B1 m1 d1] 27)).alloc (.cells #[.bool b2, .slice A2 n2 c2, .slice B2 m2 d2] 27)).cell? ⟨w.heap.size + 1, 2, none⟩ = some (.slice B1 m1 d1) := by simp [go_sem]
  have ql : w.heap.size + 1 < (((w.alloc (.cells #[.bool b0, .slice A0 n0 c0, .slice B0 m0 d0] 27)).alloc (.cells #[.bool b1, .slice A1 n1 c1, .slice B1 m1 d1] 27)).alloc (.cells #[.bool b2, .slice A2 n2 c2, .slice B2 m2 d2] 27)).heap.size := by simp <;> omega
  have r0 : (((w.alloc (.cells #[.bool b0, .slice A0 n0 c0, .slice B0 m0 d0] 27)).alloc (.cells #[.bool b1, .slice A1 n1 c1, .slice B1 m1 d1] 27)).alloc (.cells #[.bool b2, .slice A2 n2 c2, .slice B2 m2 d2] 27)).cell? ⟨w.heap.size + 1 + 1, 0, none⟩ = some (.bool b2) := by simp [go_sem]
  have r1 : (((w.alloc (.cells #[.bool b0, .slice A0 n0 c0, .slice B0 m0 d0] 27)).alloc (.cells #[.bool b1, .slice A1 n1 c1, .slice B1 m1 d1] 27)).alloc (.cells #[.bool b2, .slice A2 n2 c2, .slice B2 m2 d2] 27)).cell? ⟨w.heap.size + 1 + 1, 1, none⟩ = some (.slice A2 n2 c2) := by simp [go_sem]
  have r2 : (((w.alloc (.cells #[.bool b0, .slice A0 n0 c0, .slice B0 m0 d0] 27)).alloc (.cells #[.bool b1, .slice A1 n1 c1, .slice B1 m1 d1] 27)).alloc (.cells #[.bool b2, .slice A2 n2 c2, .slice B2 m2 d2] 27)).cell? ⟨w.heap.size + 1 + 1, 2, none⟩ = some (.slice B2 m2 d2) := by simp [go_sem]
  have rl : w.heap.size + 1 + 1 < (((w.alloc (.cells #[.bool b0, .slice A0 n0 c0, .slice B0 m0 d0] 27)).alloc (.cells #[.bool b1, .slice A1 n1 c1, .slice B1 m1 d1] 27)).alloc (.cells #[.bool b2, .slice A2 n2 c2, .slice B2 m2 d2] 27)).heap.size := by simp <;> omega
  generalize ((w.alloc (.cells #[.bool b0, .slice A0 n0 c0, .slice B0 m0 d0] 27)).alloc (.cells #[.bool b1, .slice A1 n1 c1, .slice B1 m1 d1] 27)).alloc (.cells #[.bool b2, .slice A2 n2 c2, .slice B2 m2 d2] 27) = v1 at *
  refine (G0 _ cc).mono ?_
  rintro e w2 ⟨rfl, b⟩
  replace h0 := h0.on b
  replace h1 := h1.on b
  replace h2 := h2.on b
  replace p0 := (b.cell (p := ⟨w.heap.size, 0, none⟩) pl).trans p0
  replace p1 := (b.cell (p := ⟨w.heap.size, 1, none⟩) pl).trans p1
  replace p2 := (b.cell (p := ⟨w.heap.size, 2, none⟩) pl).trans p2
  replace pl := Nat.lt_of_lt_of_le pl b.size
  replace q0 := (b.cell (p := ⟨w.heap.size + 1, 0, none⟩) ql).trans q0
  replace q1 := (b.cell (p := ⟨w.heap.size + 1, 1, none⟩) ql).trans q1
  replace q2 := (b.cell (p := ⟨w.heap.size + 1, 2, none⟩) ql).trans q2
  replace ql := Nat.lt_of_lt_of_le ql b.size
  replace r0 := (b.cell (p := ⟨w.heap.size + 1 + 1, 0, none⟩) rl).trans r0
  replace r1 := (b.cell (p := ⟨w.heap.size + 1 + 1, 1, none⟩) rl).trans r1
  replace r2 := (b.cell (p := ⟨w.heap.size + 1 + 1, 2, none⟩) rl).trans r2
  replace rl := Nat.lt_of_lt_of_le rl b.size
  replace cc := cc.trans (b.mono cc.size)
  clear b
  go_wp2_with fail
  refine (G1 _ cc).mono ?_
  rintro e w3 ⟨rfl, b⟩
  replace h0 := h0.on b
  replace h1 := h1.on b
  replace h2 := h2.on b
  replace p0 := (b.cell (p := ⟨w.heap.size, 0, none⟩) pl).trans p0
  replace p1 := (b.cell (p := ⟨w.heap.size, 1, none⟩) pl).trans p1
  replace p2 := (b.cell (p := ⟨w.heap.size, 2, none⟩) pl).trans p2
  replace pl := Nat.lt_of_lt_of_le pl b.size
  replace q0 := (b.cell (p := ⟨w.heap.size + 1, 0, none⟩) ql).trans q0
  replace q1 := (b.cell (p := ⟨w.heap.size + 1, 1, none⟩) ql).trans q1
  replace q2 := (b.cell (p := ⟨w.heap.size + 1, 2, none⟩) ql).trans q2
  replace ql := Nat.lt_of_lt_of_le ql b.size
  replace r0 := (b.cell (p := ⟨w.heap.size + 1 + 1, 0, none⟩) rl).trans r0
  replace r1 := (b.cell (p := ⟨w.heap.size + 1 + 1, 1, none⟩) rl).trans r1
  replace r2 := (b.cell (p := ⟨w.heap.size + 1 + 1, 2, none⟩) rl).trans r2
  replace rl := Nat.lt_of_lt_of_le rl b.size
  replace cc := cc.trans (b.mono cc.size)
  clear b
  go_wp2_with fail
  refine (G2 _ cc).mono ?_
  rintro e w4 ⟨rfl, b⟩
  replace h0 := h0.on b
  replace h1 := h1.on b
  replace h2 := h2.on b
  replace p0 := (b.cell (p := ⟨w.heap.size, 0, none⟩) pl).trans p0
  replace p1 := (b.cell (p := ⟨w.heap.size, 1, none⟩) pl).trans p1
  replace p2 := (b.cell (p := ⟨w.heap.size, 2, none⟩) pl).trans p2
  replace pl := Nat.lt_of_lt_of_le pl b.size
  replace q0 := (b.cell (p := ⟨w.heap.size + 1, 0, none⟩) ql).trans q0
  replace q1 := (b.cell (p := ⟨w.heap.size + 1, 1, none⟩) ql).trans q1
  replace q2 := (b.cell (p := ⟨w.heap.size + 1, 2, none⟩) ql).trans q2
  replace ql := Nat.lt_of_lt_of_le ql b.size
  replace r0 := (b.cell (p := ⟨w.heap.size + 1 + 1, 0, none⟩) rl).trans r0
  replace r1 := (b.cell (p := ⟨w.heap.size + 1 + 1, 1, none⟩) rl).trans r1
  replace r2 := (b.cell (p := ⟨w.heap.size + 1 + 1, 2, none⟩) rl).trans r2
  replace rl := Nat.lt_of_lt_of_le rl b.size
  replace cc := cc.trans (b.mono cc.size)
  clear b
  go_upto_region 3 with fail
  go_cut [7, 8] (fun ux uy wx => ∃ (gx gy : Nat) (bx : Bool) (Ax : Option Addr) (nx kx : Nat) (Cx : Option Addr) (mx dx : Nat) (bY : Bool) (Ay : Option Addr) (ny ky : Nat) (Cy : Option Addr) (my dy : Nat), ux = .pointer (some ⟨gx, 0, none⟩) ∧ uy = .pointer (some ⟨gy, 0, none⟩) ∧ BothR w4 wx gx gy bx Ax nx kx Cx mx dx bY Ay ny ky Cy my dy (x0 + x1) (x0 * x1))
  case first =>
    have BB0 : Below w4.heap.size w4 w4.drew := below_drewN (Below.refl _ w4) 1
    have BB1 : Below w4.heap.size w4 (w4.alloc (.cells #[.bool false, .slice none 0 0, .slice none 0 0] 27)).drew := below_drewN (below_one _ _) 1
    have BB2 : Below w4.heap.size w4 ((w4.alloc (.cells #[.bool false, .slice none 0 0, .slice none 0 0] 27)).alloc (.cells #[.bool false, .slice none 0 0, .slice none 0 0] 27)).drew := below_drewN (below_two _ _ _) 1
    go_region_held3 (fun w' => w'.cell? ⟨w.heap.size, 0, none⟩ = some (.bool b0) ∧ w'.cell? ⟨w.heap.size, 1, none⟩ = some (.slice A0 n0 c0) ∧ w'.cell? ⟨w.heap.size, 2, none⟩ = some (.slice B0 m0 d0) ∧ w'.cell? ⟨w.heap.size + 1, 0, none⟩ = some (.bool b1) ∧ w'.cell? ⟨w.heap.size + 1, 1, none⟩ = some (.slice A1 n1 c1) ∧ w'.cell? ⟨w.heap.size + 1, 2, none⟩ = some (.slice B1 m1 d1) ∧ w'.cell? ⟨w.heap.size + 1 + 1, 0, none⟩ = some (.bool b2) ∧ w'.cell? ⟨w.heap.size + 1 + 1, 1, none⟩ = some (.slice A2 n2 c2) ∧ w'.cell? ⟨w.heap.size + 1 + 1, 2, none⟩ = some (.slice B2 m2 d2))
      (first | with_reducible exact ⟨p0, p1, p2, q0, q1, q2, r0, r1, r2⟩ | with_reducible exact ⟨keep_alloc (p0), keep_alloc (p1), keep_alloc (p2), keep_alloc (q0), keep_alloc (q1), keep_alloc (q2), keep_alloc (r0), keep_alloc (r1), keep_alloc (r2)⟩ | with_reducible exact ⟨keep_alloc (keep_alloc (p0)), keep_alloc (keep_alloc (p1)), keep_alloc (keep_alloc (p2)), keep_alloc (keep_alloc (q0)), keep_alloc (keep_alloc (q1)), keep_alloc (keep_alloc (q2)), keep_alloc (keep_alloc (r0)), keep_alloc (keep_alloc (r1)), keep_alloc (keep_alloc (r2))⟩ | with_reducible exact ⟨((qq.cell (p := ⟨w.heap.size, 0, none⟩) pl).trans p0), ((qq.cell (p := ⟨w.heap.size, 1, none⟩) pl).trans p1), ((qq.cell (p := ⟨w.heap.size, 2, none⟩) pl).trans p2), ((qq.cell (p := ⟨w.heap.size + 1, 0, none⟩) ql).trans q0), ((qq.cell (p := ⟨w.heap.size + 1, 1, none⟩) ql).trans q1), ((qq.cell (p := ⟨w.heap.size + 1, 2, none⟩) ql).trans q2), ((qq.cell (p := ⟨w.heap.size + 1 + 1, 0, none⟩) rl).trans r0), ((qq.cell (p := ⟨w.heap.size + 1 + 1, 1, none⟩) rl).trans r1), ((qq.cell (p := ⟨w.heap.size + 1 + 1, 2, none⟩) rl).trans r2)⟩ | with_reducible exact ⟨keep_alloc (((qq.cell (p := ⟨w.heap.size, 0, none⟩) pl).trans p0)), keep_alloc (((qq.cell (p := ⟨w.heap.size, 1, none⟩) pl).trans p1)), keep_alloc (((qq.cell (p := ⟨w.heap.size, 2, none⟩) pl).trans p2)), keep_alloc (((qq.cell (p := ⟨w.heap.size + 1, 0, none⟩) ql).trans q0)), keep_alloc (((qq.cell (p := ⟨w.heap.size + 1, 1, none⟩) ql).trans q1)), keep_alloc (((qq.cell (p := ⟨w.heap.size + 1, 2, none⟩) ql).trans q2)), keep_alloc (((qq.cell (p := ⟨w.heap.size + 1 + 1, 0, none⟩) rl).trans r0)), keep_alloc (((qq.cell (p := ⟨w.heap.size + 1 + 1, 1, none⟩) rl).trans r1)), keep_alloc (((qq.cell (p := ⟨w.heap.size + 1 + 1, 2, none⟩) rl).trans r2))⟩ | with_reducible exact ⟨keep_alloc (keep_alloc (((qq.cell (p := ⟨w.heap.size, 0, none⟩) pl).trans p0))), keep_alloc (keep_alloc (((qq.cell (p := ⟨w.heap.size, 1, none⟩) pl).trans p1))), keep_alloc (keep_alloc (((qq.cell (p := ⟨w.heap.size, 2, none⟩) pl).trans p2))), keep_alloc (keep_alloc (((qq.cell (p := ⟨w.heap.size + 1, 0, none⟩) ql).trans q0))), keep_alloc (keep_alloc (((qq.cell (p := ⟨w.heap.size + 1, 1, none⟩) ql).trans q1))), keep_alloc (keep_alloc (((qq.cell (p := ⟨w.heap.size + 1, 2, none⟩) ql).trans q2))), keep_alloc (keep_alloc (((qq.cell (p := ⟨w.heap.size + 1 + 1, 0, none⟩) rl).trans r0))), keep_alloc (keep_alloc (((qq.cell (p := ⟨w.heap.size + 1 + 1, 1, none⟩) rl).trans r1))), keep_alloc (keep_alloc (((qq.cell (p := ⟨w.heap.size + 1 + 1, 2, none⟩) rl).trans r2)))⟩ | with_reducible exact ⟨((cell_putR (by omega)).trans ((qq.cell (p := ⟨w.heap.size, 0, none⟩) pl).trans p0)), ((cell_putR (by omega)).trans ((qq.cell (p := ⟨w.heap.size, 1, none⟩) pl).trans p1)), ((cell_putR (by omega)).trans ((qq.cell (p := ⟨w.heap.size, 2, none⟩) pl).trans p2)), ((cell_putR (by omega)).trans ((qq.cell (p := ⟨w.heap.size + 1, 0, none⟩) ql).trans q0)), ((cell_putR (by omega)).trans ((qq.cell (p := ⟨w.heap.size + 1, 1, none⟩) ql).trans q1)), ((cell_putR (by omega)).trans ((qq.cell (p := ⟨w.heap.size + 1, 2, none⟩) ql).trans q2)), ((cell_putR (by omega)).trans ((qq.cell (p := ⟨w.heap.size + 1 + 1, 0, none⟩) rl).trans r0)), ((cell_putR (by omega)).trans ((qq.cell (p := ⟨w.heap.size + 1 + 1, 1, none⟩) rl).trans r1)), ((cell_putR (by omega)).trans ((qq.cell (p := ⟨w.heap.size + 1 + 1, 2, none⟩) rl).trans r2))⟩ | with_reducible exact ⟨((cell_store (by omega)).trans ((qq.cell (p := ⟨w.heap.size, 0, none⟩) pl).trans p0)), ((cell_store (by omega)).trans ((qq.cell (p := ⟨w.heap.size, 1, none⟩) pl).trans p1)), ((cell_store (by omega)).trans ((qq.cell (p := ⟨w.heap.size, 2, none⟩) pl).trans p2)), ((cell_store (by omega)).trans ((qq.cell (p := ⟨w.heap.size + 1, 0, none⟩) ql).trans q0)), ((cell_store (by omega)).trans ((qq.cell (p := ⟨w.heap.size + 1, 1, none⟩) ql).trans q1)), ((cell_store (by omega)).trans ((qq.cell (p := ⟨w.heap.size + 1, 2, none⟩) ql).trans q2)), ((cell_store (by omega)).trans ((qq.cell (p := ⟨w.heap.size + 1 + 1, 0, none⟩) rl).trans r0)), ((cell_store (by omega)).trans ((qq.cell (p := ⟨w.heap.size + 1 + 1, 1, none⟩) rl).trans r1)), ((cell_store (by omega)).trans ((qq.cell (p := ⟨w.heap.size + 1 + 1, 2, none⟩) rl).trans r2))⟩ | with_reducible exact ⟨keep_alloc (((cell_putR (by omega)).trans ((qq.cell (p := ⟨w.heap.size, 0, none⟩) pl).trans p0))), keep_alloc (((cell_putR (by omega)).trans ((qq.cell (p := ⟨w.heap.size, 1, none⟩) pl).trans p1))), keep_alloc (((cell_putR (by omega)).trans ((qq.cell (p := ⟨w.heap.size, 2, none⟩) pl).trans p2))), keep_alloc (((cell_putR (by omega)).trans ((qq.cell (p := ⟨w.heap.size + 1, 0, none⟩) ql).trans q0))), keep_alloc (((cell_putR (by omega)).trans ((qq.cell (p := ⟨w.heap.size + 1, 1, none⟩) ql).trans q1))), keep_alloc (((cell_putR (by omega)).trans ((qq.cell (p := ⟨w.heap.size + 1, 2, none⟩) ql).trans q2))), keep_alloc (((cell_putR (by omega)).trans ((qq.cell (p := ⟨w.heap.size + 1 + 1, 0, none⟩) rl).trans r0))), keep_alloc (((cell_putR (by omega)).trans ((qq.cell (p := ⟨w.heap.size + 1 + 1, 1, none⟩) rl).trans r1))), keep_alloc (((cell_putR (by omega)).trans ((qq.cell (p := ⟨w.heap.size + 1 + 1, 2, none⟩) rl).trans r2)))⟩ | with_reducible exact ⟨keep_alloc (((cell_store (by omega)).trans ((qq.cell (p := ⟨w.heap.size, 0, none⟩) pl).trans p0))), keep_alloc (((cell_store (by omega)).trans ((qq.cell (p := ⟨w.heap.size, 1, none⟩) pl).trans p1))), keep_alloc (((cell_store (by omega)).trans ((qq.cell (p := ⟨w.heap.size, 2, none⟩) pl).trans p2))), keep_alloc (((cell_store (by omega)).trans ((qq.cell (p := ⟨w.heap.size + 1, 0, none⟩) ql).trans q0))), keep_alloc (((cell_store (by omega)).trans ((qq.cell (p := ⟨w.heap.size + 1, 1, none⟩) ql).trans q1))), keep_alloc (((cell_store (by omega)).trans ((qq.cell (p := ⟨w.heap.size + 1, 2, none⟩) ql).trans q2))), keep_alloc (((cell_store (by omega)).trans ((qq.cell (p := ⟨w.heap.size + 1 + 1, 0, none⟩) rl).trans r0))), keep_alloc (((cell_store (by omega)).trans ((qq.cell (p := ⟨w.heap.size + 1 + 1, 1, none⟩) rl).trans r1))), keep_alloc (((cell_store (by omega)).trans ((qq.cell (p := ⟨w.heap.size + 1 + 1, 2, none⟩) rl).trans r2)))⟩ | with_reducible exact ⟨keep_alloc (keep_alloc (((cell_putR (by omega)).trans ((qq.cell (p := ⟨w.heap.size, 0, none⟩) pl).trans p0)))), keep_alloc (keep_alloc (((cell_putR (by omega)).trans ((qq.cell (p := ⟨w.heap.size, 1, none⟩) pl).trans p1)))), keep_alloc (keep_alloc (((cell_putR (by omega)).trans ((qq.cell (p := ⟨w.heap.size, 2, none⟩) pl).trans p2)))), keep_alloc (keep_alloc (((cell_putR (by omega)).trans ((qq.cell (p := ⟨w.heap.size + 1, 0, none⟩) ql).trans q0)))), keep_alloc (keep_alloc (((cell_putR (by omega)).trans ((qq.cell (p := ⟨w.heap.size + 1, 1, none⟩) ql).trans q1)))), keep_alloc (keep_alloc (((cell_putR (by omega)).trans ((qq.cell (p := ⟨w.heap.size + 1, 2, none⟩) ql).trans q2)))), keep_alloc (keep_alloc (((cell_putR (by omega)).trans ((qq.cell (p := ⟨w.heap.size + 1 + 1, 0, none⟩) rl).trans r0)))), keep_alloc (keep_alloc (((cell_putR (by omega)).trans ((qq.cell (p := ⟨w.heap.size + 1 + 1, 1, none⟩) rl).trans r1)))), keep_alloc (keep_alloc (((cell_putR (by omega)).trans ((qq.cell (p := ⟨w.heap.size + 1 + 1, 2, none⟩) rl).trans r2))))⟩ | with_reducible exact ⟨keep_alloc (keep_alloc (((cell_store (by omega)).trans ((qq.cell (p := ⟨w.heap.size, 0, none⟩) pl).trans p0)))), keep_alloc (keep_alloc (((cell_store (by omega)).trans ((qq.cell (p := ⟨w.heap.size, 1, none⟩) pl).trans p1)))), keep_alloc (keep_alloc (((cell_store (by omega)).trans ((qq.cell (p := ⟨w.heap.size, 2, none⟩) pl).trans p2)))), keep_alloc (keep_alloc (((cell_store (by omega)).trans ((qq.cell (p := ⟨w.heap.size + 1, 0, none⟩) ql).trans q0)))), keep_alloc (keep_alloc (((cell_store (by omega)).trans ((qq.cell (p := ⟨w.heap.size + 1, 1, none⟩) ql).trans q1)))), keep_alloc (keep_alloc (((cell_store (by omega)).trans ((qq.cell (p := ⟨w.heap.size + 1, 2, none⟩) ql).trans q2)))), keep_alloc (keep_alloc (((cell_store (by omega)).trans ((qq.cell (p := ⟨w.heap.size + 1 + 1, 0, none⟩) rl).trans r0)))), keep_alloc (keep_alloc (((cell_store (by omega)).trans ((qq.cell (p := ⟨w.heap.size + 1 + 1, 1, none⟩) rl).trans r1)))), keep_alloc (keep_alloc (((cell_store (by omega)).trans ((qq.cell (p := ⟨w.heap.size + 1 + 1, 2, none⟩) rl).trans r2))))⟩ | with_reducible exact ⟨((cell_putR (by omega)).trans ((cell_putR (by omega)).trans ((qq.cell (p := ⟨w.heap.size, 0, none⟩) pl).trans p0))), ((cell_putR (by omega)).trans ((cell_putR (by omega)).trans ((qq.cell (p := ⟨w.heap.size, 1, none⟩) pl).trans p1))), ((cell_putR (by omega)).trans ((cell_putR (by omega)).trans ((qq.cell (p := ⟨w.heap.size, 2, none⟩) pl).trans p2))), ((cell_putR (by omega)).trans ((cell_putR (by omega)).trans ((qq.cell (p := ⟨w.heap.size + 1, 0, none⟩) ql).trans q0))), ((cell_putR (by omega)).trans ((cell_putR (by omega)).trans ((qq.cell (p := ⟨w.heap.size + 1, 1, none⟩) ql).trans q1))), ((cell_putR (by omega)).trans ((cell_putR (by omega)).trans ((qq.cell (p := ⟨w.heap.size + 1, 2, none⟩) ql).trans q2))), ((cell_putR (by omega)).trans ((cell_putR (by omega)).trans ((qq.cell (p := ⟨w.heap.size + 1 + 1, 0, none⟩) rl).trans r0))), ((cell_putR (by omega)).trans ((cell_putR (by omega)).trans ((qq.cell (p := ⟨w.heap.size + 1 + 1, 1, none⟩) rl).trans r1))), ((cell_putR (by omega)).trans ((cell_putR (by omega)).trans ((qq.cell (p := ⟨w.heap.size + 1 + 1, 2, none⟩) rl).trans r2)))⟩ | with_reducible exact ⟨((cell_store (by omega)).trans ((cell_store (by omega)).trans ((qq.cell (p := ⟨w.heap.size, 0, none⟩) pl).trans p0))), ((cell_store (by omega)).trans ((cell_store (by omega)).trans ((qq.cell (p := ⟨w.heap.size, 1, none⟩) pl).trans p1))), ((cell_store (by omega)).trans ((cell_store (by omega)).trans ((qq.cell (p := ⟨w.heap.size, 2, none⟩) pl).trans p2))), ((cell_store (by omega)).trans ((cell_store (by omega)).trans ((qq.cell (p := ⟨w.heap.size + 1, 0, none⟩) ql).trans q0))), ((cell_store (by omega)).trans ((cell_store (by omega)).trans ((qq.cell (p := ⟨w.heap.size + 1, 1, none⟩) ql).trans q1))), ((cell_store (by omega)).trans ((cell_store (by omega)).trans ((qq.cell (p := ⟨w.heap.size + 1, 2, none⟩) ql).trans q2))), ((cell_store (by omega)).trans ((cell_store (by omega)).trans ((qq.cell (p := ⟨w.heap.size + 1 + 1, 0, none⟩) rl).trans r0))), ((cell_store (by omega)).trans ((cell_store (by omega)).trans ((qq.cell (p := ⟨w.heap.size + 1 + 1, 1, none⟩) rl).trans r1))), ((cell_store (by omega)).trans ((cell_store (by omega)).trans ((qq.cell (p := ⟨w.heap.size + 1 + 1, 2, none⟩) rl).trans r2)))⟩ | with_reducible exact ⟨keep_alloc (((cell_putR (by omega)).trans ((cell_putR (by omega)).trans ((qq.cell (p := ⟨w.heap.size, 0, none⟩) pl).trans p0)))), keep_alloc (((cell_putR (by omega)).trans ((cell_putR (by omega)).trans ((qq.cell (p := ⟨w.heap.size, 1, none⟩) pl).trans p1)))), keep_alloc (((cell_putR (by omega)).trans ((cell_putR (by omega)).trans ((qq.cell (p := ⟨w.heap.size, 2, none⟩) pl).trans p2)))), keep_alloc (((cell_putR (by omega)).trans ((cell_putR (by omega)).trans ((qq.cell (p := ⟨w.heap.size + 1, 0, none⟩) ql).trans q0)))), keep_alloc (((cell_putR (by omega)).trans ((cell_putR (by omega)).trans ((qq.cell (p := ⟨w.heap.size + 1, 1, none⟩) ql).trans q1)))), keep_alloc (((cell_putR (by omega)).trans ((cell_putR (by omega)).trans ((qq.cell (p := ⟨w.heap.size + 1, 2, none⟩) ql).trans q2)))), keep_alloc (((cell_putR (by omega)).trans ((cell_putR (by omega)).trans ((qq.cell (p := ⟨w.heap.size + 1 + 1, 0, none⟩) rl).trans r0)))), keep_alloc (((cell_putR (by omega)).trans ((cell_putR (by omega)).trans ((qq.cell (p := ⟨w.heap.size + 1 + 1, 1, none⟩) rl).trans r1)))), keep_alloc (((cell_putR (by omega)).trans ((cell_putR (by omega)).trans ((qq.cell (p := ⟨w.heap.size + 1 + 1, 2, none⟩) rl).trans r2))))⟩ | with_reducible exact ⟨keep_alloc (((cell_store (by omega)).trans ((cell_store (by omega)).trans ((qq.cell (p := ⟨w.heap.size, 0, none⟩) pl).trans p0)))), keep_alloc (((cell_store (by omega)).trans ((cell_store (by omega)).trans ((qq.cell (p := ⟨w.heap.size, 1, none⟩) pl).trans p1)))), keep_alloc (((cell_store (by omega)).trans ((cell_store (by omega)).trans ((qq.cell (p := ⟨w.heap.size, 2, none⟩) pl).trans p2)))), keep_alloc (((cell_store (by omega)).trans ((cell_store (by omega)).trans ((qq.cell (p := ⟨w.heap.size + 1, 0, none⟩) ql).trans q0)))), keep_alloc (((cell_store (by omega)).trans ((cell_store (by omega)).trans ((qq.cell (p := ⟨w.heap.size + 1, 1, none⟩) ql).trans q1)))), keep_alloc (((cell_store (by omega)).trans ((cell_store (by omega)).trans ((qq.cell (p := ⟨w.heap.size + 1, 2, none⟩) ql).trans q2)))), keep_alloc (((cell_store (by omega)).trans ((cell_store (by omega)).trans ((qq.cell (p := ⟨w.heap.size + 1 + 1, 0, none⟩) rl).trans r0)))), keep_alloc (((cell_store (by omega)).trans ((cell_store (by omega)).trans ((qq.cell (p := ⟨w.heap.size + 1 + 1, 1, none⟩) rl).trans r1)))), keep_alloc (((cell_store (by omega)).trans ((cell_store (by omega)).trans ((qq.cell (p := ⟨w.heap.size + 1 + 1, 2, none⟩) rl).trans r2))))⟩ | with_reducible exact ⟨keep_alloc (keep_alloc (((cell_putR (by omega)).trans ((cell_putR (by omega)).trans ((qq.cell (p := ⟨w.heap.size, 0, none⟩) pl).trans p0))))), keep_alloc (keep_alloc (((cell_putR (by omega)).trans ((cell_putR (by omega)).trans ((qq.cell (p := ⟨w.heap.size, 1, none⟩) pl).trans p1))))), keep_alloc (keep_alloc (((cell_putR (by omega)).trans ((cell_putR (by omega)).trans ((qq.cell (p := ⟨w.heap.size, 2, none⟩) pl).trans p2))))), keep_alloc (keep_alloc (((cell_putR (by omega)).trans ((cell_putR (by omega)).trans ((qq.cell (p := ⟨w.heap.size + 1, 0, none⟩) ql).trans q0))))), keep_alloc (keep_alloc (((cell_putR (by omega)).trans ((cell_putR (by omega)).trans ((qq.cell (p := ⟨w.heap.size + 1, 1, none⟩) ql).trans q1))))), keep_alloc (keep_alloc (((cell_putR (by omega)).trans ((cell_putR (by omega)).trans ((qq.cell (p := ⟨w.heap.size + 1, 2, none⟩) ql).trans q2))))), keep_alloc (keep_alloc (((cell_putR (by omega)).trans ((cell_putR (by omega)).trans ((qq.cell (p := ⟨w.heap.size + 1 + 1, 0, none⟩) rl).trans r0))))), keep_alloc (keep_alloc (((cell_putR (by omega)).trans ((cell_putR (by omega)).trans ((qq.cell (p := ⟨w.heap.size + 1 + 1, 1, none⟩) rl).trans r1))))), keep_alloc (keep_alloc (((cell_putR (by omega)).trans ((cell_putR (by omega)).trans ((qq.cell (p := ⟨w.heap.size + 1 + 1, 2, none⟩) rl).trans r2)))))⟩ | with_reducible exact ⟨keep_alloc (keep_alloc (((cell_store (by omega)).trans ((cell_store (by omega)).trans ((qq.cell (p := ⟨w.heap.size, 0, none⟩) pl).trans p0))))), keep_alloc (keep_alloc (((cell_store (by omega)).trans ((cell_store (by omega)).trans ((qq.cell (p := ⟨w.heap.size, 1, none⟩) pl).trans p1))))), keep_alloc (keep_alloc (((cell_store (by omega)).trans ((cell_store (by omega)).trans ((qq.cell (p := ⟨w.heap.size, 2, none⟩) pl).trans p2))))), keep_alloc (keep_alloc (((cell_store (by omega)).trans ((cell_store (by omega)).trans ((qq.cell (p := ⟨w.heap.size + 1, 0, none⟩) ql).trans q0))))), keep_alloc (keep_alloc (((cell_store (by omega)).trans ((cell_store (by omega)).trans ((qq.cell (p := ⟨w.heap.size + 1, 1, none⟩) ql).trans q1))))), keep_alloc (keep_alloc (((cell_store (by omega)).trans ((cell_store (by omega)).trans ((qq.cell (p := ⟨w.heap.size + 1, 2, none⟩) ql).trans q2))))), keep_alloc (keep_alloc (((cell_store (by omega)).trans ((cell_store (by omega)).trans ((qq.cell (p := ⟨w.heap.size + 1 + 1, 0, none⟩) rl).trans r0))))), keep_alloc (keep_alloc (((cell_store (by omega)).trans ((cell_store (by omega)).trans ((qq.cell (p := ⟨w.heap.size + 1 + 1, 1, none⟩) rl).trans r1))))), keep_alloc (keep_alloc (((cell_store (by omega)).trans ((cell_store (by omega)).trans ((qq.cell (p := ⟨w.heap.size + 1 + 1, 2, none⟩) rl).trans r2)))))⟩ | go_keep)
      (first
        | (go_at_call 24; (with_reducible refine (qadd_N (h0.on BB0) (s0.le (by omega)) (h1.on BB0) (s1.le (by omega))).mono ?_); rintro e wy ⟨bx, Ax, nx, kx, Cx, mx, dx, rfl, hx, q⟩; have qq := BB0.trans (q.mono BB0.size); have qs := qq.size; clear q)
        | (go_at_call 24; (with_reducible refine (qadd_N (h0.on BB1) (s0.le (by omega)) (h1.on BB1) (s1.le (by omega))).mono ?_); rintro e wy ⟨bx, Ax, nx, kx, Cx, mx, dx, rfl, hx, q⟩; have qq := BB1.trans (q.mono BB1.size); have qs := qq.size; have c00 := (q.cell (p := ⟨w4.heap.size, 0, none⟩) (by simp <;> omega)).trans (show _ = some (.bool false) by simp [go_sem]); have d00 := (q.frozen (p := ⟨w4.heap.size, 0, none⟩) (by simp <;> omega)).trans (show _ = false by simp [go_sem]); have c01 := (q.cell (p := ⟨w4.heap.size, 1, none⟩) (by simp <;> omega)).trans (show _ = some (.slice none 0 0) by simp [go_sem]); have d01 := (q.frozen (p := ⟨w4.heap.size, 1, none⟩) (by simp <;> omega)).trans (show _ = false by simp [go_sem]); have c02 := (q.cell (p := ⟨w4.heap.size, 2, none⟩) (by simp <;> omega)).trans (show _ = some (.slice none 0 0) by simp [go_sem]); have d02 := (q.frozen (p := ⟨w4.heap.size, 2, none⟩) (by simp <;> omega)).trans (show _ = false by simp [go_sem]); have l0 : w4.heap.size < wy.heap.size := Nat.lt_of_lt_of_le (by simp <;> omega) q.size; clear q)
        | (go_at_call 24; (with_reducible refine (qadd_N (h0.on BB2) (s0.le (by omega)) (h1.on BB2) (s1.le (by omega))).mono ?_); rintro e wy ⟨bx, Ax, nx, kx, Cx, mx, dx, rfl, hx, q⟩; have qq := BB2.trans (q.mono BB2.size); have qs := qq.size; have c00 := (q.cell (p := ⟨w4.heap.size, 0, none⟩) (by simp <;> omega)).trans (show _ = some (.bool false) by simp [go_sem]); have d00 := (q.frozen (p := ⟨w4.heap.size, 0, none⟩) (by simp <;> omega)).trans (show _ = false by simp [go_sem]); have c01 := (q.cell (p := ⟨w4.heap.size, 1, none⟩) (by simp <;> omega)).trans (show _ = some (.slice none 0 0) by simp [go_sem]); have d01 := (q.frozen (p := ⟨w4.heap.size, 1, none⟩) (by simp <;> omega)).trans (show _ = false by simp [go_sem]); have c02 := (q.cell (p := ⟨w4.heap.size, 2, none⟩) (by simp <;> omega)).trans (show _ = some (.slice none 0 0) by simp [go_sem]); have d02 := (q.frozen (p := ⟨w4.heap.size, 2, none⟩) (by simp <;> omega)).trans (show _ = false by simp [go_sem]); have l0 : w4.heap.size < wy.heap.size := Nat.lt_of_lt_of_le (by simp <;> omega) q.size; have c10 := (q.cell (p := ⟨w4.heap.size + 1, 0, none⟩) (by simp <;> omega)).trans (show _ = some (.bool false) by simp [go_sem]); have d10 := (q.frozen (p := ⟨w4.heap.size + 1, 0, none⟩) (by simp <;> omega)).trans (show _ = false by simp [go_sem]); have c11 := (q.cell (p := ⟨w4.heap.size + 1, 1, none⟩) (by simp <;> omega)).trans (show _ = some (.slice none 0 0) by simp [go_sem]); have d11 := (q.frozen (p := ⟨w4.heap.size + 1, 1, none⟩) (by simp <;> omega)).trans (show _ = false by simp [go_sem]); have c12 := (q.cell (p := ⟨w4.heap.size + 1, 2, none⟩) (by simp <;> omega)).trans (show _ = some (.slice none 0 0) by simp [go_sem]); have d12 := (q.frozen (p := ⟨w4.heap.size + 1, 2, none⟩) (by simp <;> omega)).trans (show _ = false by simp [go_sem]); have l1 : w4.heap.size + 1 < wy.heap.size := Nat.lt_of_lt_of_le (by simp <;> omega) q.size; clear q)
        | (go_at_call 28; have up := Below.refl wy.heap.size wy; (with_reducible refine (qmul_N ((h0.on qq).on up) (s0.le (by omega)) ((h1.on qq).on up) (s1.le (by omega))).mono ?_); rintro e wz ⟨bY, Ay, ny, ky, Cy, my, dy, rfl, hy, q⟩; (try have c00' := (q.cell (Nat.lt_of_lt_of_le l0 up.size)).trans ((up.cell l0).trans c00)); (try have d00' := (q.frozen (Nat.lt_of_lt_of_le l0 up.size)).trans ((up.frozen l0).trans d00)); (try have c01' := (q.cell (Nat.lt_of_lt_of_le l0 up.size)).trans ((up.cell l0).trans c01)); (try have d01' := (q.frozen (Nat.lt_of_lt_of_le l0 up.size)).trans ((up.frozen l0).trans d01)); (try have c02' := (q.cell (Nat.lt_of_lt_of_le l0 up.size)).trans ((up.cell l0).trans c02)); (try have d02' := (q.frozen (Nat.lt_of_lt_of_le l0 up.size)).trans ((up.frozen l0).trans d02)); (try have l0' := Nat.lt_of_lt_of_le l0 (Nat.le_trans up.size q.size)); (try have c10' := (q.cell (Nat.lt_of_lt_of_le l1 up.size)).trans ((up.cell l1).trans c10)); (try have d10' := (q.frozen (Nat.lt_of_lt_of_le l1 up.size)).trans ((up.frozen l1).trans d10)); (try have c11' := (q.cell (Nat.lt_of_lt_of_le l1 up.size)).trans ((up.cell l1).trans c11)); (try have d11' := (q.frozen (Nat.lt_of_lt_of_le l1 up.size)).trans ((up.frozen l1).trans d11)); (try have c12' := (q.cell (Nat.lt_of_lt_of_le l1 up.size)).trans ((up.cell l1).trans c12)); (try have d12' := (q.frozen (Nat.lt_of_lt_of_le l1 up.size)).trans ((up.frozen l1).trans d12)); (try have l1' := Nat.lt_of_lt_of_le l1 (Nat.le_trans up.size q.size)); replace hx := (hx.on up).on q; replace qq := (qq.trans (up.mono qq.size)).trans (q.mono (Nat.le_trans qq.size up.size)); have qs2 := qq.size; clear q up)
        | (go_at_call 28; have up := below_one wy (.cells #[.bool false, .slice none 0 0, .slice none 0 0] 27); (with_reducible refine (qmul_N ((h0.on qq).on up) (s0.le (by omega)) ((h1.on qq).on up) (s1.le (by omega))).mono ?_); rintro e wz ⟨bY, Ay, ny, ky, Cy, my, dy, rfl, hy, q⟩; (try have c00' := (q.cell (Nat.lt_of_lt_of_le l0 up.size)).trans ((up.cell l0).trans c00)); (try have d00' := (q.frozen (Nat.lt_of_lt_of_le l0 up.size)).trans ((up.frozen l0).trans d00)); (try have c01' := (q.cell (Nat.lt_of_lt_of_le l0 up.size)).trans ((up.cell l0).trans c01)); (try have d01' := (q.frozen (Nat.lt_of_lt_of_le l0 up.size)).trans ((up.frozen l0).trans d01)); (try have c02' := (q.cell (Nat.lt_of_lt_of_le l0 up.size)).trans ((up.cell l0).trans c02)); (try have d02' := (q.frozen (Nat.lt_of_lt_of_le l0 up.size)).trans ((up.frozen l0).trans d02)); (try have l0' := Nat.lt_of_lt_of_le l0 (Nat.le_trans up.size q.size)); (try have c10' := (q.cell (Nat.lt_of_lt_of_le l1 up.size)).trans ((up.cell l1).trans c10)); (try have d10' := (q.frozen (Nat.lt_of_lt_of_le l1 up.size)).trans ((up.frozen l1).trans d10)); (try have c11' := (q.cell (Nat.lt_of_lt_of_le l1 up.size)).trans ((up.cell l1).trans c11)); (try have d11' := (q.frozen (Nat.lt_of_lt_of_le l1 up.size)).trans ((up.frozen l1).trans d11)); (try have c12' := (q.cell (Nat.lt_of_lt_of_le l1 up.size)).trans ((up.cell l1).trans c12)); (try have d12' := (q.frozen (Nat.lt_of_lt_of_le l1 up.size)).trans ((up.frozen l1).trans d12)); (try have l1' := Nat.lt_of_lt_of_le l1 (Nat.le_trans up.size q.size)); have e00 := (q.cell (p := ⟨wy.heap.size, 0, none⟩) (by simp <;> omega)).trans (show _ = some (.bool false) by simp [go_sem]); have f00 := (q.frozen (p := ⟨wy.heap.size, 0, none⟩) (by simp <;> omega)).trans (show _ = false by simp [go_sem]); have e01 := (q.cell (p := ⟨wy.heap.size, 1, none⟩) (by simp <;> omega)).trans (show _ = some (.slice none 0 0) by simp [go_sem]); have f01 := (q.frozen (p := ⟨wy.heap.size, 1, none⟩) (by simp <;> omega)).trans (show _ = false by simp [go_sem]); have e02 := (q.cell (p := ⟨wy.heap.size, 2, none⟩) (by simp <;> omega)).trans (show _ = some (.slice none 0 0) by simp [go_sem]); have f02 := (q.frozen (p := ⟨wy.heap.size, 2, none⟩) (by simp <;> omega)).trans (show _ = false by simp [go_sem]); have n0 : wy.heap.size < wz.heap.size := Nat.lt_of_lt_of_le (by simp <;> omega) q.size; replace hx := (hx.on up).on q; replace qq := (qq.trans (up.mono qq.size)).trans (q.mono (Nat.le_trans qq.size up.size)); have qs2 := qq.size; clear q up)
        | (go_at_call 28; have up := below_two wy (.cells #[.bool false, .slice none 0 0, .slice none 0 0] 27) (.cells #[.bool false, .slice none 0 0, .slice none 0 0] 27); (with_reducible refine (qmul_N ((h0.on qq).on up) (s0.le (by omega)) ((h1.on qq).on up) (s1.le (by omega))).mono ?_); rintro e wz ⟨bY, Ay, ny, ky, Cy, my, dy, rfl, hy, q⟩; (try have c00' := (q.cell (Nat.lt_of_lt_of_le l0 up.size)).trans ((up.cell l0).trans c00)); (try have d00' := (q.frozen (Nat.lt_of_lt_of_le l0 up.size)).trans ((up.frozen l0).trans d00)); (try have c01' := (q.cell (Nat.lt_of_lt_of_le l0 up.size)).trans ((up.cell l0).trans c01)); (try have d01' := (q.frozen (Nat.lt_of_lt_of_le l0 up.size)).trans ((up.frozen l0).trans d01)); (try have c02' := (q.cell (Nat.lt_of_lt_of_le l0 up.size)).trans ((up.cell l0).trans c02)); (try have d02' := (q.frozen (Nat.lt_of_lt_of_le l0 up.size)).trans ((up.frozen l0).trans d02)); (try have l0' := Nat.lt_of_lt_of_le l0 (Nat.le_trans up.size q.size)); (try have c10' := (q.cell (Nat.lt_of_lt_of_le l1 up.size)).trans ((up.cell l1).trans c10)); (try have d10' := (q.frozen (Nat.lt_of_lt_of_le l1 up.size)).trans ((up.frozen l1).trans d10)); (try have c11' := (q.cell (Nat.lt_of_lt_of_le l1 up.size)).trans ((up.cell l1).trans c11)); (try have d11' := (q.frozen (Nat.lt_of_lt_of_le l1 up.size)).trans ((up.frozen l1).trans d11)); (try have c12' := (q.cell (Nat.lt_of_lt_of_le l1 up.size)).trans ((up.cell l1).trans c12)); (try have d12' := (q.frozen (Nat.lt_of_lt_of_le l1 up.size)).trans ((up.frozen l1).trans d12)); (try have l1' := Nat.lt_of_lt_of_le l1 (Nat.le_trans up.size q.size)); have e00 := (q.cell (p := ⟨wy.heap.size, 0, none⟩) (by simp <;> omega)).trans (show _ = some (.bool false) by simp [go_sem]); have f00 := (q.frozen (p := ⟨wy.heap.size, 0, none⟩) (by simp <;> omega)).trans (show _ = false by simp [go_sem]); have e01 := (q.cell (p := ⟨wy.heap.size, 1, none⟩) (by simp <;> omega)).trans (show _ = some (.slice none 0 0) by simp [go_sem]); have f01 := (q.frozen (p := ⟨wy.heap.size, 1, none⟩) (by simp <;> omega)).trans (show _ = false by simp [go_sem]); have e02 := (q.cell (p := ⟨wy.heap.size, 2, none⟩) (by simp <;> omega)).trans (show _ = some (.slice none 0 0) by simp [go_sem]); have f02 := (q.frozen (p := ⟨wy.heap.size, 2, none⟩) (by simp <;> omega)).trans (show _ = false by simp [go_sem]); have n0 : wy.heap.size < wz.heap.size := Nat.lt_of_lt_of_le (by simp <;> omega) q.size; have e10 := (q.cell (p := ⟨wy.heap.size + 1, 0, none⟩) (by simp <;> omega)).trans (show _ = some (.bool false) by simp [go_sem]); have f10 := (q.frozen (p := ⟨wy.heap.size + 1, 0, none⟩) (by simp <;> omega)).trans (show _ = false by simp [go_sem]); have e11 := (q.cell (p := ⟨wy.heap.size + 1, 1, none⟩) (by simp <;> omega)).trans (show _ = some (.slice none 0 0) by simp [go_sem]); have f11 := (q.frozen (p := ⟨wy.heap.size + 1, 1, none⟩) (by simp <;> omega)).trans (show _ = false by simp [go_sem]); have e12 := (q.cell (p := ⟨wy.heap.size + 1, 2, none⟩) (by simp <;> omega)).trans (show _ = some (.slice none 0 0) by simp [go_sem]); have f12 := (q.frozen (p := ⟨wy.heap.size + 1, 2, none⟩) (by simp <;> omega)).trans (show _ = false by simp [go_sem]); have n1 : wy.heap.size + 1 < wz.heap.size := Nat.lt_of_lt_of_le (by simp <;> omega) q.size; replace hx := (hx.on up).on q; replace qq := (qq.trans (up.mono qq.size)).trans (q.mono (Nat.le_trans qq.size up.size)); have qs2 := qq.size; clear q up))
    all_goals (go_wp2_with fail; go_meet)
    all_goals refine ⟨_, _, bx, Ax, nx, kx, Cx, mx, dx, bY, Ay, ny, ky, Cy, my, dy, rfl, rfl, ?_⟩
    all_goals first
      | with_reducible exact pairRA hx hy qq _
      | with_reducible exact pairRA' hx hy qq _
      | with_reducible exact pairRB (by assumption) (by assumption) (by assumption) hx hy qq (by omega) _
      | with_reducible exact pairRB' (by assumption) (by assumption) (by assumption) hx hy qq (by omega) _
      | with_reducible exact pairRC (by assumption) (by assumption) (by assumption) (by assumption) (by assumption) (by assumption) hx hy qq (by omega) (by omega) (by omega)
  case rest =>
    obtain ⟨gu, gv, bu, Au, nu, ku, Cu, mu, du, bv, Av, nv, kv, Cv, mv, dv, rfl, rfl, ⟨u0, u1, u2⟩, ⟨v0, v1, v2⟩, hu, hv, b, uge, vge, uqv⟩ := hcut
    have ul := cell_lt u0
    have vl := cell_lt v0
    simp only at ul vl
    have uqp : w.heap.size < gu := Nat.lt_of_lt_of_le pl uge
    have uqq : w.heap.size + 1 < gu := Nat.lt_of_lt_of_le ql uge
    have uqr : w.heap.size + 1 + 1 < gu := Nat.lt_of_lt_of_le rl uge
    have vqp : w.heap.size < gv := Nat.lt_of_lt_of_le pl vge
    have vqq : w.heap.size + 1 < gv := Nat.lt_of_lt_of_le ql vge
    have vqr : w.heap.size + 1 + 1 < gv := Nat.lt_of_lt_of_le rl vge
    replace h0 := h0.on b
    replace h1 := h1.on b
    replace h2 := h2.on b
    replace p0 := (b.cell (p := ⟨w.heap.size, 0, none⟩) pl).trans p0
    replace p1 := (b.cell (p := ⟨w.heap.size, 1, none⟩) pl).trans p1
    replace p2 := (b.cell (p := ⟨w.heap.size, 2, none⟩) pl).trans p2
    replace pl := Nat.lt_of_lt_of_le pl b.size
    replace q0 := (b.cell (p := ⟨w.heap.size + 1, 0, none⟩) ql).trans q0
    replace q1 := (b.cell (p := ⟨w.heap.size + 1, 1, none⟩) ql).trans q1
    replace q2 := (b.cell (p := ⟨w.heap.size + 1, 2, none⟩) ql).trans q2
    replace ql := Nat.lt_of_lt_of_le ql b.size
    replace r0 := (b.cell (p := ⟨w.heap.size + 1 + 1, 0, none⟩) rl).trans r0
    replace r1 := (b.cell (p := ⟨w.heap.size + 1 + 1, 1, none⟩) rl).trans r1
    replace r2 := (b.cell (p := ⟨w.heap.size + 1 + 1, 2, none⟩) rl).trans r2
    replace rl := Nat.lt_of_lt_of_le rl b.size
    replace cc := cc.trans (b.mono cc.size)
    clear b
    go_wp2_with fail
    have qq : Below wc.heap.size wc wc.drew := below_drewN (Below.refl _ wc) 1
    have h0' := h0.on qq
    have h1' := h1.on qq
    have h2' := h2.on qq
    have hu' := hu.on qq
    have hv' := hv.on qq
    go_region_held3 (fun w' => w'.cell? ⟨w.heap.size, 0, none⟩ = some (.bool b0) ∧ w'.cell? ⟨w.heap.size, 1, none⟩ = some (.slice A0 n0 c0) ∧ w'.cell? ⟨w.heap.size, 2, none⟩ = some (.slice B0 m0 d0) ∧ w'.cell? ⟨w.heap.size + 1, 0, none⟩ = some (.bool b1) ∧ w'.cell? ⟨w.heap.size + 1, 1, none⟩ = some (.slice A1 n1 c1) ∧ w'.cell? ⟨w.heap.size + 1, 2, none⟩ = some (.slice B1 m1 d1) ∧ w'.cell? ⟨w.heap.size + 1 + 1, 0, none⟩ = some (.bool b2) ∧ w'.cell? ⟨w.heap.size + 1 + 1, 1, none⟩ = some (.slice A2 n2 c2) ∧ w'.cell? ⟨w.heap.size + 1 + 1, 2, none⟩ = some (.slice B2 m2 d2) ∧ w'.cell? ⟨gu, 0, none⟩ = some (.bool bu) ∧ w'.cell? ⟨gu, 1, none⟩ = some (.slice Au nu ku) ∧ w'.cell? ⟨gu, 2, none⟩ = some (.slice Cu mu du) ∧ w'.cell? ⟨gv, 0, none⟩ = some (.bool bv) ∧ w'.cell? ⟨gv, 1, none⟩ = some (.slice Av nv kv) ∧ w'.cell? ⟨gv, 2, none⟩ = some (.slice Cv mv dv))
      (first | with_reducible exact ⟨(qq.cell (p := ⟨w.heap.size, 0, none⟩) pl).trans p0, (qq.cell (p := ⟨w.heap.size, 1, none⟩) pl).trans p1, (qq.cell (p := ⟨w.heap.size, 2, none⟩) pl).trans p2, (qq.cell (p := ⟨w.heap.size + 1, 0, none⟩) ql).trans q0, (qq.cell (p := ⟨w.heap.size + 1, 1, none⟩) ql).trans q1, (qq.cell (p := ⟨w.heap.size + 1, 2, none⟩) ql).trans q2, (qq.cell (p := ⟨w.heap.size + 1 + 1, 0, none⟩) rl).trans r0, (qq.cell (p := ⟨w.heap.size + 1 + 1, 1, none⟩) rl).trans r1, (qq.cell (p := ⟨w.heap.size + 1 + 1, 2, none⟩) rl).trans r2, (qq.cell (p := ⟨gu, 0, none⟩) ul).trans u0, (qq.cell (p := ⟨gu, 1, none⟩) ul).trans u1, (qq.cell (p := ⟨gu, 2, none⟩) ul).trans u2, (qq.cell (p := ⟨gv, 0, none⟩) vl).trans v0, (qq.cell (p := ⟨gv, 1, none⟩) vl).trans v1, (qq.cell (p := ⟨gv, 2, none⟩) vl).trans v2⟩ | go_keep)
      (first
        | (go_at_call 17; (with_reducible refine (rtright_N hu' (sa.le (by omega))).mono ?_); rintro e wz ⟨rfl, q⟩; replace qq := qq.trans (q.mono qq.size); (try replace h0' := h0'.on q); (try replace h1' := h1'.on q); (try replace h2' := h2'.on q); (try replace hu' := hu'.on q); (try replace hv' := hv'.on q); (try replace fa := fa.on q); (try replace fm := fm.on q); clear q)
        | (go_at_call 17; (with_reducible refine (rtright_N hv' (sb.le (by omega))).mono ?_); rintro e wz ⟨rfl, q⟩; replace qq := qq.trans (q.mono qq.size); (try replace h0' := h0'.on q); (try replace h1' := h1'.on q); (try replace h2' := h2'.on q); (try replace hu' := hu'.on q); (try replace hv' := hv'.on q); (try replace fa := fa.on q); (try replace fm := fm.on q); clear q)
        | (go_at_call 24; (with_reducible refine (qadd_N h1' (s1.le (by omega)) h0' (s0.le (by omega))).mono ?_); rintro e wz ⟨bfa, Afa, nfa, cfa, Bfa, mfa, dfa, rfl, fa, q⟩; replace qq := qq.trans (q.mono qq.size); (try replace h0' := h0'.on q); (try replace h1' := h1'.on q); (try replace h2' := h2'.on q); (try replace hu' := hu'.on q); (try replace hv' := hv'.on q); (try replace fm := fm.on q); clear q)
        | (go_at_call 18; (with_reducible refine (rtsame_eq hu' (sa.le (by omega)) fa (sa2.le (by omega)) e1).mono ?_); rintro e wz ⟨rfl, q⟩; replace qq := qq.trans (q.mono qq.size); (try replace h0' := h0'.on q); (try replace h1' := h1'.on q); (try replace h2' := h2'.on q); (try replace hu' := hu'.on q); (try replace hv' := hv'.on q); (try replace fa := fa.on q); (try replace fm := fm.on q); clear q)
        | (go_at_call 28; (with_reducible refine (qmul_N h1' (s1.le (by omega)) h0' (s0.le (by omega))).mono ?_); rintro e wz ⟨bfm, Afm, nfm, cfm, Bfm, mfm, dfm, rfl, fm, q⟩; replace qq := qq.trans (q.mono qq.size); (try replace h0' := h0'.on q); (try replace h1' := h1'.on q); (try replace h2' := h2'.on q); (try replace hu' := hu'.on q); (try replace hv' := hv'.on q); (try replace fa := fa.on q); clear q)
        | (go_at_call 18; (with_reducible refine (rtsame_eq hv' (sb.le (by omega)) fm (sb2.le (by omega)) e2).mono ?_); rintro e wz ⟨rfl, q⟩; replace qq := qq.trans (q.mono qq.size); (try replace h0' := h0'.on q); (try replace h1' := h1'.on q); (try replace h2' := h2'.on q); (try replace hu' := hu'.on q); (try replace hv' := hv'.on q); (try replace fa := fa.on q); (try replace fm := fm.on q); clear q))
    clear h0
    have h0 := h0'
    clear h0'
    clear h1
    have h1 := h1'
    clear h1'
    clear h2
    have h2 := h2'
    clear h2'
    clear hu
    have hu := hu'
    clear hu'
    clear hv
    have hv := hv'
    clear hv'
    replace p0 := (qq.cell (p := ⟨w.heap.size, 0, none⟩) pl).trans p0
    replace p1 := (qq.cell (p := ⟨w.heap.size, 1, none⟩) pl).trans p1
    replace p2 := (qq.cell (p := ⟨w.heap.size, 2, none⟩) pl).trans p2
    replace pl := Nat.lt_of_lt_of_le pl qq.size
    replace q0 := (qq.cell (p := ⟨w.heap.size + 1, 0, none⟩) ql).trans q0
    replace q1 := (qq.cell (p := ⟨w.heap.size + 1, 1, none⟩) ql).trans q1
    replace q2 := (qq.cell (p := ⟨w.heap.size + 1, 2, none⟩) ql).trans q2
    replace ql := Nat.lt_of_lt_of_le ql qq.size
    replace r0 := (qq.cell (p := ⟨w.heap.size + 1 + 1, 0, none⟩) rl).trans r0
    replace r1 := (qq.cell (p := ⟨w.heap.size + 1 + 1, 1, none⟩) rl).trans r1
    replace r2 := (qq.cell (p := ⟨w.heap.size + 1 + 1, 2, none⟩) rl).trans r2
    replace rl := Nat.lt_of_lt_of_le rl qq.size
    replace u0 := (qq.cell (p := ⟨gu, 0, none⟩) ul).trans u0
    replace u1 := (qq.cell (p := ⟨gu, 1, none⟩) ul).trans u1
    replace u2 := (qq.cell (p := ⟨gu, 2, none⟩) ul).trans u2
    replace ul := Nat.lt_of_lt_of_le ul qq.size
    replace v0 := (qq.cell (p := ⟨gv, 0, none⟩) vl).trans v0
    replace v1 := (qq.cell (p := ⟨gv, 1, none⟩) vl).trans v1
    replace v2 := (qq.cell (p := ⟨gv, 2, none⟩) vl).trans v2
    replace vl := Nat.lt_of_lt_of_le vl qq.size
    replace cc := cc.trans (qq.mono cc.size)
    clear qq
    go_wp2_with fail
    have qq : Below wz.heap.size wz wz.drew := below_drewN (Below.refl _ wz) 1
    have h0' := h0.on qq
    have h1' := h1.on qq
    have h2' := h2.on qq
    have hu' := hu.on qq
    have hv' := hv.on qq
    go_region_held3 (fun w' => w'.cell? ⟨w.heap.size, 0, none⟩ = some (.bool b0) ∧ w'.cell? ⟨w.heap.size, 1, none⟩ = some (.slice A0 n0 c0) ∧ w'.cell? ⟨w.heap.size, 2, none⟩ = some (.slice B0 m0 d0) ∧ w'.cell? ⟨w.heap.size + 1, 0, none⟩ = some (.bool b1) ∧ w'.cell? ⟨w.heap.size + 1, 1, none⟩ = some (.slice A1 n1 c1) ∧ w'.cell? ⟨w.heap.size + 1, 2, none⟩ = some (.slice B1 m1 d1) ∧ w'.cell? ⟨w.heap.size + 1 + 1, 0, none⟩ = some (.bool b2) ∧ w'.cell? ⟨w.heap.size + 1 + 1, 1, none⟩ = some (.slice A2 n2 c2) ∧ w'.cell? ⟨w.heap.size + 1 + 1, 2, none⟩ = some (.slice B2 m2 d2) ∧ w'.cell? ⟨gu, 0, none⟩ = some (.bool bu) ∧ w'.cell? ⟨gu, 1, none⟩ = some (.slice Au nu ku) ∧ w'.cell? ⟨gu, 2, none⟩ = some (.slice Cu mu du) ∧ w'.cell? ⟨gv, 0, none⟩ = some (.bool bv) ∧ w'.cell? ⟨gv, 1, none⟩ = some (.slice Av nv kv) ∧ w'.cell? ⟨gv, 2, none⟩ = some (.slice Cv mv dv))
      (first | with_reducible exact ⟨(qq.cell (p := ⟨w.heap.size, 0, none⟩) pl).trans p0, (qq.cell (p := ⟨w.heap.size, 1, none⟩) pl).trans p1, (qq.cell (p := ⟨w.heap.size, 2, none⟩) pl).trans p2, (qq.cell (p := ⟨w.heap.size + 1, 0, none⟩) ql).trans q0, (qq.cell (p := ⟨w.heap.size + 1, 1, none⟩) ql).trans q1, (qq.cell (p := ⟨w.heap.size + 1, 2, none⟩) ql).trans q2, (qq.cell (p := ⟨w.heap.size + 1 + 1, 0, none⟩) rl).trans r0, (qq.cell (p := ⟨w.heap.size + 1 + 1, 1, none⟩) rl).trans r1, (qq.cell (p := ⟨w.heap.size + 1 + 1, 2, none⟩) rl).trans r2, (qq.cell (p := ⟨gu, 0, none⟩) ul).trans u0, (qq.cell (p := ⟨gu, 1, none⟩) ul).trans u1, (qq.cell (p := ⟨gu, 2, none⟩) ul).trans u2, (qq.cell (p := ⟨gv, 0, none⟩) vl).trans v0, (qq.cell (p := ⟨gv, 1, none⟩) vl).trans v1, (qq.cell (p := ⟨gv, 2, none⟩) vl).trans v2⟩ | go_keep)
      (first
        | (go_at_call 24; (with_reducible refine (qadd_N hu' (sa.le (by omega)) h2' (s2.le (by omega))).mono ?_); rintro e wz ⟨bfa, Afa, nfa, cfa, Bfa, mfa, dfa, rfl, fa, q⟩; replace qq := qq.trans (q.mono qq.size); (try replace h0' := h0'.on q); (try replace h1' := h1'.on q); (try replace h2' := h2'.on q); (try replace hu' := hu'.on q); (try replace hv' := hv'.on q); (try replace fb := fb.on q); (try replace fc := fc.on q); clear q)
        | (go_at_call 24; (with_reducible refine (qadd_N h1' (s1.le (by omega)) h2' (s2.le (by omega))).mono ?_); rintro e wz ⟨bfb, Afb, nfb, cfb, Bfb, mfb, dfb, rfl, fb, q⟩; replace qq := qq.trans (q.mono qq.size); (try replace h0' := h0'.on q); (try replace h1' := h1'.on q); (try replace h2' := h2'.on q); (try replace hu' := hu'.on q); (try replace hv' := hv'.on q); (try replace fa := fa.on q); (try replace fc := fc.on q); clear q)
        | (go_at_call 24; (with_reducible refine (qadd_N h0' (s0.le (by omega)) fb (s12.le (by omega))).mono ?_); rintro e wz ⟨bfc, Afc, nfc, cfc, Bfc, mfc, dfc, rfl, fc, q⟩; replace qq := qq.trans (q.mono qq.size); (try replace h0' := h0'.on q); (try replace h1' := h1'.on q); (try replace h2' := h2'.on q); (try replace hu' := hu'.on q); (try replace hv' := hv'.on q); (try replace fa := fa.on q); (try replace fb := fb.on q); clear q)
        | (go_at_call 18; (with_reducible refine (rtsame_eq fa (t1.le (by omega)) fc (t2.le (by omega)) e3).mono ?_); rintro e wz ⟨rfl, q⟩; replace qq := qq.trans (q.mono qq.size); (try replace h0' := h0'.on q); (try replace h1' := h1'.on q); (try replace h2' := h2'.on q); (try replace hu' := hu'.on q); (try replace hv' := hv'.on q); (try replace fa := fa.on q); (try replace fb := fb.on q); (try replace fc := fc.on q); clear q))
    clear h0
    have h0 := h0'
    clear h0'
    clear h1
    have h1 := h1'
    clear h1'
    clear h2
    have h2 := h2'
    clear h2'
    clear hu
    have hu := hu'
    clear hu'
    clear hv
    have hv := hv'
    clear hv'
    replace p0 := (qq.cell (p := ⟨w.heap.size, 0, none⟩) pl).trans p0
    replace p1 := (qq.cell (p := ⟨w.heap.size, 1, none⟩) pl).trans p1
    replace p2 := (qq.cell (p := ⟨w.heap.size, 2, none⟩) pl).trans p2
    replace pl := Nat.lt_of_lt_of_le pl qq.size
    replace q0 := (qq.cell (p := ⟨w.heap.size + 1, 0, none⟩) ql).trans q0
    replace q1 := (qq.cell (p := ⟨w.heap.size + 1, 1, none⟩) ql).trans q1
    replace q2 := (qq.cell (p := ⟨w.heap.size + 1, 2, none⟩) ql).trans q2
    replace ql := Nat.lt_of_lt_of_le ql qq.size
    replace r0 := (qq.cell (p := ⟨w.heap.size + 1 + 1, 0, none⟩) rl).trans r0
    replace r1 := (qq.cell (p := ⟨w.heap.size + 1 + 1, 1, none⟩) rl).trans r1
    replace r2 := (qq.cell (p := ⟨w.heap.size + 1 + 1, 2, none⟩) rl).trans r2
    replace rl := Nat.lt_of_lt_of_le rl qq.size
    replace u0 := (qq.cell (p := ⟨gu, 0, none⟩) ul).trans u0
    replace u1 := (qq.cell (p := ⟨gu, 1, none⟩) ul).trans u1
    replace u2 := (qq.cell (p := ⟨gu, 2, none⟩) ul).trans u2
    replace ul := Nat.lt_of_lt_of_le ul qq.size
    replace v0 := (qq.cell (p := ⟨gv, 0, none⟩) vl).trans v0
    replace v1 := (qq.cell (p := ⟨gv, 1, none⟩) vl).trans v1
    replace v2 := (qq.cell (p := ⟨gv, 2, none⟩) vl).trans v2
    replace vl := Nat.lt_of_lt_of_le vl qq.size
    replace cc := cc.trans (qq.mono cc.size)
    clear qq
    go_wp2_with fail
    have qq : Below wz.heap.size wz wz.drew := below_drewN (Below.refl _ wz) 1
    have h0' := h0.on qq
    have h1' := h1.on qq
    have h2' := h2.on qq
    have hu' := hu.on qq
    have hv' := hv.on qq
    go_region_held3 (fun w' => w'.cell? ⟨w.heap.size, 0, none⟩ = some (.bool b0) ∧ w'.cell? ⟨w.heap.size, 1, none⟩ = some (.slice A0 n0 c0) ∧ w'.cell? ⟨w.heap.size, 2, none⟩ = some (.slice B0 m0 d0) ∧ w'.cell? ⟨w.heap.size + 1, 0, none⟩ = some (.bool b1) ∧ w'.cell? ⟨w.heap.size + 1, 1, none⟩ = some (.slice A1 n1 c1) ∧ w'.cell? ⟨w.heap.size + 1, 2, none⟩ = some (.slice B1 m1 d1) ∧ w'.cell? ⟨w.heap.size + 1 + 1, 0, none⟩ = some (.bool b2) ∧ w'.cell? ⟨w.heap.size + 1 + 1, 1, none⟩ = some (.slice A2 n2 c2) ∧ w'.cell? ⟨w.heap.size + 1 + 1, 2, none⟩ = some (.slice B2 m2 d2) ∧ w'.cell? ⟨gu, 0, none⟩ = some (.bool bu) ∧ w'.cell? ⟨gu, 1, none⟩ = some (.slice Au nu ku) ∧ w'.cell? ⟨gu, 2, none⟩ = some (.slice Cu mu du) ∧ w'.cell? ⟨gv, 0, none⟩ = some (.bool bv) ∧ w'.cell? ⟨gv, 1, none⟩ = some (.slice Av nv kv) ∧ w'.cell? ⟨gv, 2, none⟩ = some (.slice Cv mv dv))
      (first | with_reducible exact ⟨(qq.cell (p := ⟨w.heap.size, 0, none⟩) pl).trans p0, (qq.cell (p := ⟨w.heap.size, 1, none⟩) pl).trans p1, (qq.cell (p := ⟨w.heap.size, 2, none⟩) pl).trans p2, (qq.cell (p := ⟨w.heap.size + 1, 0, none⟩) ql).trans q0, (qq.cell (p := ⟨w.heap.size + 1, 1, none⟩) ql).trans q1, (qq.cell (p := ⟨w.heap.size + 1, 2, none⟩) ql).trans q2, (qq.cell (p := ⟨w.heap.size + 1 + 1, 0, none⟩) rl).trans r0, (qq.cell (p := ⟨w.heap.size + 1 + 1, 1, none⟩) rl).trans r1, (qq.cell (p := ⟨w.heap.size + 1 + 1, 2, none⟩) rl).trans r2, (qq.cell (p := ⟨gu, 0, none⟩) ul).trans u0, (qq.cell (p := ⟨gu, 1, none⟩) ul).trans u1, (qq.cell (p := ⟨gu, 2, none⟩) ul).trans u2, (qq.cell (p := ⟨gv, 0, none⟩) vl).trans v0, (qq.cell (p := ⟨gv, 1, none⟩) vl).trans v1, (qq.cell (p := ⟨gv, 2, none⟩) vl).trans v2⟩ | go_keep)
      (first
        | (go_at_call 28; (with_reducible refine (qmul_N hv' (sb.le (by omega)) h2' (s2.le (by omega))).mono ?_); rintro e wz ⟨bfa, Afa, nfa, cfa, Bfa, mfa, dfa, rfl, fa, q⟩; replace qq := qq.trans (q.mono qq.size); (try replace h0' := h0'.on q); (try replace h1' := h1'.on q); (try replace h2' := h2'.on q); (try replace hu' := hu'.on q); (try replace hv' := hv'.on q); (try replace fb := fb.on q); (try replace fc := fc.on q); clear q)
        | (go_at_call 28; (with_reducible refine (qmul_N h1' (s1.le (by omega)) h2' (s2.le (by omega))).mono ?_); rintro e wz ⟨bfb, Afb, nfb, cfb, Bfb, mfb, dfb, rfl, fb, q⟩; replace qq := qq.trans (q.mono qq.size); (try replace h0' := h0'.on q); (try replace h1' := h1'.on q); (try replace h2' := h2'.on q); (try replace hu' := hu'.on q); (try replace hv' := hv'.on q); (try replace fa := fa.on q); (try replace fc := fc.on q); clear q)
        | (go_at_call 28; (with_reducible refine (qmul_N h0' (s0.le (by omega)) fb (p12.le (by omega))).mono ?_); rintro e wz ⟨bfc, Afc, nfc, cfc, Bfc, mfc, dfc, rfl, fc, q⟩; replace qq := qq.trans (q.mono qq.size); (try replace h0' := h0'.on q); (try replace h1' := h1'.on q); (try replace h2' := h2'.on q); (try replace hu' := hu'.on q); (try replace hv' := hv'.on q); (try replace fa := fa.on q); (try replace fb := fb.on q); clear q)
        | (go_at_call 18; (with_reducible refine (rtsame_eq fa (t3.le (by omega)) fc (t4.le (by omega)) e4).mono ?_); rintro e wz ⟨rfl, q⟩; replace qq := qq.trans (q.mono qq.size); (try replace h0' := h0'.on q); (try replace h1' := h1'.on q); (try replace h2' := h2'.on q); (try replace hu' := hu'.on q); (try replace hv' := hv'.on q); (try replace fa := fa.on q); (try replace fb := fb.on q); (try replace fc := fc.on q); clear q))
    clear h0
    have h0 := h0'
    clear h0'
    clear h1
    have h1 := h1'
    clear h1'
    clear h2
    have h2 := h2'
    clear h2'
    clear hu
    have hu := hu'
    clear hu'
    clear hv
    have hv := hv'
    clear hv'
    replace p0 := (qq.cell (p := ⟨w.heap.size, 0, none⟩) pl).trans p0
    replace p1 := (qq.cell (p := ⟨w.heap.size, 1, none⟩) pl).trans p1
    replace p2 := (qq.cell (p := ⟨w.heap.size, 2, none⟩) pl).trans p2
    replace pl := Nat.lt_of_lt_of_le pl qq.size
    replace q0 := (qq.cell (p := ⟨w.heap.size + 1, 0, none⟩) ql).trans q0
    replace q1 := (qq.cell (p := ⟨w.heap.size + 1, 1, none⟩) ql).trans q1
    replace q2 := (qq.cell (p := ⟨w.heap.size + 1, 2, none⟩) ql).trans q2
    replace ql := Nat.lt_of_lt_of_le ql qq.size
    replace r0 := (qq.cell (p := ⟨w.heap.size + 1 + 1, 0, none⟩) rl).trans r0
    replace r1 := (qq.cell (p := ⟨w.heap.size + 1 + 1, 1, none⟩) rl).trans r1
    replace r2 := (qq.cell (p := ⟨w.heap.size + 1 + 1, 2, none⟩) rl).trans r2
    replace rl := Nat.lt_of_lt_of_le rl qq.size
    replace u0 := (qq.cell (p := ⟨gu, 0, none⟩) ul).trans u0
    replace u1 := (qq.cell (p := ⟨gu, 1, none⟩) ul).trans u1
    replace u2 := (qq.cell (p := ⟨gu, 2, none⟩) ul).trans u2
    replace ul := Nat.lt_of_lt_of_le ul qq.size
    replace v0 := (qq.cell (p := ⟨gv, 0, none⟩) vl).trans v0
    replace v1 := (qq.cell (p := ⟨gv, 1, none⟩) vl).trans v1
    replace v2 := (qq.cell (p := ⟨gv, 2, none⟩) vl).trans v2
    replace vl := Nat.lt_of_lt_of_le vl qq.size
    replace cc := cc.trans (qq.mono cc.size)
    clear qq
    go_wp2_with fail
    have qq : Below wz.heap.size wz wz.drew := below_drewN (Below.refl _ wz) 1
    have h0' := h0.on qq
    have h1' := h1.on qq
    have h2' := h2.on qq
    have hu' := hu.on qq
    have hv' := hv.on qq
    go_region_held3 (fun w' => w'.cell? ⟨w.heap.size, 0, none⟩ = some (.bool b0) ∧ w'.cell? ⟨w.heap.size, 1, none⟩ = some (.slice A0 n0 c0) ∧ w'.cell? ⟨w.heap.size, 2, none⟩ = some (.slice B0 m0 d0) ∧ w'.cell? ⟨w.heap.size + 1, 0, none⟩ = some (.bool b1) ∧ w'.cell? ⟨w.heap.size + 1, 1, none⟩ = some (.slice A1 n1 c1) ∧ w'.cell? ⟨w.heap.size + 1, 2, none⟩ = some (.slice B1 m1 d1) ∧ w'.cell? ⟨w.heap.size + 1 + 1, 0, none⟩ = some (.bool b2) ∧ w'.cell? ⟨w.heap.size + 1 + 1, 1, none⟩ = some (.slice A2 n2 c2) ∧ w'.cell? ⟨w.heap.size + 1 + 1, 2, none⟩ = some (.slice B2 m2 d2) ∧ w'.cell? ⟨gu, 0, none⟩ = some (.bool bu) ∧ w'.cell? ⟨gu, 1, none⟩ = some (.slice Au nu ku) ∧ w'.cell? ⟨gu, 2, none⟩ = some (.slice Cu mu du) ∧ w'.cell? ⟨gv, 0, none⟩ = some (.bool bv) ∧ w'.cell? ⟨gv, 1, none⟩ = some (.slice Av nv kv) ∧ w'.cell? ⟨gv, 2, none⟩ = some (.slice Cv mv dv))
      (first | with_reducible exact ⟨(qq.cell (p := ⟨w.heap.size, 0, none⟩) pl).trans p0, (qq.cell (p := ⟨w.heap.size, 1, none⟩) pl).trans p1, (qq.cell (p := ⟨w.heap.size, 2, none⟩) pl).trans p2, (qq.cell (p := ⟨w.heap.size + 1, 0, none⟩) ql).trans q0, (qq.cell (p := ⟨w.heap.size + 1, 1, none⟩) ql).trans q1, (qq.cell (p := ⟨w.heap.size + 1, 2, none⟩) ql).trans q2, (qq.cell (p := ⟨w.heap.size + 1 + 1, 0, none⟩) rl).trans r0, (qq.cell (p := ⟨w.heap.size + 1 + 1, 1, none⟩) rl).trans r1, (qq.cell (p := ⟨w.heap.size + 1 + 1, 2, none⟩) rl).trans r2, (qq.cell (p := ⟨gu, 0, none⟩) ul).trans u0, (qq.cell (p := ⟨gu, 1, none⟩) ul).trans u1, (qq.cell (p := ⟨gu, 2, none⟩) ul).trans u2, (qq.cell (p := ⟨gv, 0, none⟩) vl).trans v0, (qq.cell (p := ⟨gv, 1, none⟩) vl).trans v1, (qq.cell (p := ⟨gv, 2, none⟩) vl).trans v2⟩ | go_keep)
      (first
        | (go_at_call 12; (with_reducible refine (alive5_any _).mono ?_); rintro e wz ⟨rfl, q⟩; replace qq := qq.trans (q.mono qq.size); (try replace h0' := h0'.on q); (try replace h1' := h1'.on q); (try replace h2' := h2'.on q); (try replace hu' := hu'.on q); (try replace hv' := hv'.on q); (try replace fa := fa.on q); (try replace fb := fb.on q); (try replace fc := fc.on q); (try replace fd := fd.on q); clear q)
        | (go_at_call 28; (with_reducible refine (qmul_N hu' (sa.le (by omega)) h2' (s2.le (by omega))).mono ?_); rintro e wz ⟨bfa, Afa, nfa, cfa, Bfa, mfa, dfa, rfl, fa, q⟩; replace qq := qq.trans (q.mono qq.size); (try replace h0' := h0'.on q); (try replace h1' := h1'.on q); (try replace h2' := h2'.on q); (try replace hu' := hu'.on q); (try replace hv' := hv'.on q); (try replace fb := fb.on q); (try replace fc := fc.on q); (try replace fd := fd.on q); clear q)
        | (go_at_call 28; (with_reducible refine (qmul_N h0' (s0.le (by omega)) h2' (s2.le (by omega))).mono ?_); rintro e wz ⟨bfb, Afb, nfb, cfb, Bfb, mfb, dfb, rfl, fb, q⟩; replace qq := qq.trans (q.mono qq.size); (try replace h0' := h0'.on q); (try replace h1' := h1'.on q); (try replace h2' := h2'.on q); (try replace hu' := hu'.on q); (try replace hv' := hv'.on q); (try replace fa := fa.on q); (try replace fc := fc.on q); (try replace fd := fd.on q); clear q)
        | (go_at_call 28; (with_reducible refine (qmul_N h1' (s1.le (by omega)) h2' (s2.le (by omega))).mono ?_); rintro e wz ⟨bfc, Afc, nfc, cfc, Bfc, mfc, dfc, rfl, fc, q⟩; replace qq := qq.trans (q.mono qq.size); (try replace h0' := h0'.on q); (try replace h1' := h1'.on q); (try replace h2' := h2'.on q); (try replace hu' := hu'.on q); (try replace hv' := hv'.on q); (try replace fa := fa.on q); (try replace fb := fb.on q); (try replace fd := fd.on q); clear q)
        | (go_at_call 24; (with_reducible refine (qadd_N fb (p02.le (by omega)) fc (p12.le (by omega))).mono ?_); rintro e wz ⟨bfd, Afd, nfd, cfd, Bfd, mfd, dfd, rfl, fd, q⟩; replace qq := qq.trans (q.mono qq.size); (try replace h0' := h0'.on q); (try replace h1' := h1'.on q); (try replace h2' := h2'.on q); (try replace hu' := hu'.on q); (try replace hv' := hv'.on q); (try replace fa := fa.on q); (try replace fb := fb.on q); (try replace fc := fc.on q); clear q)
        | (go_at_call 18; (with_reducible refine (rtsame_eq fa (t5.le (by omega)) fd (t6.le (by omega)) e5).mono ?_); rintro e wz ⟨rfl, q⟩; replace qq := qq.trans (q.mono qq.size); (try replace h0' := h0'.on q); (try replace h1' := h1'.on q); (try replace h2' := h2'.on q); (try replace hu' := hu'.on q); (try replace hv' := hv'.on q); (try replace fa := fa.on q); (try replace fb := fb.on q); (try replace fc := fc.on q); (try replace fd := fd.on q); clear q))
    clear h0
    have h0 := h0'
    clear h0'
    clear h1
    have h1 := h1'
    clear h1'
    clear h2
    have h2 := h2'
    clear h2'
    clear hu
    have hu := hu'
    clear hu'
    clear hv
    have hv := hv'
    clear hv'
    replace p0 := (qq.cell (p := ⟨w.heap.size, 0, none⟩) pl).trans p0
    replace p1 := (qq.cell (p := ⟨w.heap.size, 1, none⟩) pl).trans p1
    replace p2 := (qq.cell (p := ⟨w.heap.size, 2, none⟩) pl).trans p2
    replace pl := Nat.lt_of_lt_of_le pl qq.size
    replace q0 := (qq.cell (p := ⟨w.heap.size + 1, 0, none⟩) ql).trans q0
    replace q1 := (qq.cell (p := ⟨w.heap.size + 1, 1, none⟩) ql).trans q1
    replace q2 := (qq.cell (p := ⟨w.heap.size + 1, 2, none⟩) ql).trans q2
    replace ql := Nat.lt_of_lt_of_le ql qq.size
    replace r0 := (qq.cell (p := ⟨w.heap.size + 1 + 1, 0, none⟩) rl).trans r0
    replace r1 := (qq.cell (p := ⟨w.heap.size + 1 + 1, 1, none⟩) rl).trans r1
    replace r2 := (qq.cell (p := ⟨w.heap.size + 1 + 1, 2, none⟩) rl).trans r2
    replace rl := Nat.lt_of_lt_of_le rl qq.size
    replace u0 := (qq.cell (p := ⟨gu, 0, none⟩) ul).trans u0
    replace u1 := (qq.cell (p := ⟨gu, 1, none⟩) ul).trans u1
    replace u2 := (qq.cell (p := ⟨gu, 2, none⟩) ul).trans u2
    replace ul := Nat.lt_of_lt_of_le ul qq.size
    replace v0 := (qq.cell (p := ⟨gv, 0, none⟩) vl).trans v0
    replace v1 := (qq.cell (p := ⟨gv, 1, none⟩) vl).trans v1
    replace v2 := (qq.cell (p := ⟨gv, 2, none⟩) vl).trans v2
    replace vl := Nat.lt_of_lt_of_le vl qq.size
    replace cc := cc.trans (qq.mono cc.size)
    clear qq
    go_wp2_with fail
    go_ret
    exact ⟨rfl, cc⟩

set_option maxRecDepth 100000 in
set_option maxHeartbeats 8000000 in
theorem RatField_walk {w : World} (b0 : Bool) {A0 : Option Addr} {n0 c0 : Nat} {l0 : List Nat} (hl0 : Lim w.heap.size w A0 n0 c0 l0) (hs0 : n0 ≤ 9223372036854775807) {B0 : Option Addr} {m0 d0 : Nat} {k0 : List Nat} (hk0 : Lim w.heap.size w B0 m0 d0 k0) (ht0 : m0 ≤ 9223372036854775807) (b1 : Bool) {A1 : Option Addr} {n1 c1 : Nat} {l1 : List Nat} (hl1 : Lim w.heap.size w A1 n1 c1 l1) (hs1 : n1 ≤ 9223372036854775807) {B1 : Option Addr} {m1 d1 : Nat} {k1 : List Nat} (hk1 : Lim w.heap.size w B1 m1 d1 k1) (ht1 : m1 ≤ 9223372036854775807) (b2 : Bool) {A2 : Option Addr} {n2 c2 : Nat} {l2 : List Nat} (hl2 : Lim w.heap.size w A2 n2 c2 l2) (hs2 : n2 ≤ 9223372036854775807) {B2 : Option Addr} {m2 d2 : Nat} {k2 : List Nat} (hk2 : Lim w.heap.size w B2 m2 d2 k2) (ht2 : m2 ≤ 9223372036854775807) :
    Calls Try.prog 5 #[.agg #[.bool b0, .slice A0 n0 c0, .slice B0 m0 d0], .agg #[.bool b1, .slice A1 n1 c1, .slice B1 m1 d1], .agg #[.bool b2, .slice A2 n2 c2, .slice B2 m2 d2]] w fun e w' => e = .returned (.bool true) ∧ Below w.heap.size w w' := by
  have G : ∀ {b : Bool} {A B : Option Addr} {n c m d : Nat} {l k : List Nat} (r : Bool), Lim w.heap.size w A n c l → Lim w.heap.size w B m d k → (decide ((n : Int) ≤ 3) && (decide ((m : Int) ≤ 3) && okR b n l m k)) = r → ∀ W : World, Below w.heap.size w W → Calls Try.prog 21 #[.agg #[.bool b, .slice A n c, .slice B m d], .int .i64 3] W (GotV W (.bool r)) := fun r hl hk hr W hW => rtfew_any (hl.on hW) (hk.on hW) 3 (by omega) r hr
  cases e0 : (decide ((n0 : Int) ≤ 3) && (decide ((m0 : Int) ≤ 3) && okR b0 n0 l0 m0 k0)) with
  | false => exact RatField_no0  (G false hl0 hk0 e0)
  | true =>
    cases e1 : (decide ((n1 : Int) ≤ 3) && (decide ((m1 : Int) ≤ 3) && okR b1 n1 l1 m1 k1)) with
    | false => exact RatField_no1 (G true hl0 hk0 e0) (G false hl1 hk1 e1)
    | true =>
      cases e2 : (decide ((n2 : Int) ≤ 3) && (decide ((m2 : Int) ≤ 3) && okR b2 n2 l2 m2 k2)) with
      | false => exact RatField_no2 (G true hl0 hk0 e0) (G true hl1 hk1 e1) (G false hl2 hk2 e2)
      | true =>
        obtain ⟨x0, h0, s0⟩ := few_rt 3 hl0 hk0 e0
        obtain ⟨x1, h1, s1⟩ := few_rt 3 hl1 hk1 e1
        obtain ⟨x2, h2, s2⟩ := few_rt 3 hl2 hk2 e2
        exact RatField_ok h0 s0 h1 s1 h2 s2 (G true hl0 hk0 e0) (G true hl1 hk1 e1) (G true hl2 hk2 e2)

end Go.Proofs.Ytgnhioffamfakaa
