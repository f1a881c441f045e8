/-
  The walk of RatOrder.
-/
import Derived.Test.YtgnhioffamfakaaYOrdA
import Derived.Test.YtgnhioffamfakaaYOrdB
import Derived.Test.YtgnhioffamfakaaYOrdC
namespace Go.Proofs.Ytgnhioffamfakaa
open Go.RowKit
set_option linter.unusedVariables false
set_option linter.unusedSimpArgs false

set_option maxRecDepth 100000 in
set_option maxHeartbeats 8000000 in
theorem RatOrder_no0 {w : World} {b0 b1 b2 : Bool} {A0 B0 A1 B1 A2 B2 : Option Addr} {n0 c0 m0 d0 n1 c1 m1 d1 n2 c2 m2 d2 : Nat} (G0 : ∀ W : World, Below w.heap.size w W → Calls Try.prog 21 #[.agg #[.bool b0, .slice A0 n0 c0, .slice B0 m0 d0], .int .i64 3] W (GotV W (.bool false))) :
    Calls Try.prog 7 #[.agg #[.bool b0, .slice A0 n0 c0, .slice B0 m0 d0], .agg #[.bool b1, .slice A1 n1 c1, .slice B1 m1 d1], .agg #[.bool b2, .slice A2 n2 c2, .slice B2 m2 d2]] w fun e w' => e = .returned (.bool true) ∧ Below w.heap.size w w' := by
  have cc := Below.refl w.heap.size w
  go_enter Try.func7, Try.ntmps7
  go_wp2_with fail
  have bA : Below w.heap.size w (((w.alloc (.cells #[.bool b0, .slice A0 n0 c0, .slice B0 m0 d0] 27)).alloc (.cells #[.bool b1, .slice A1 n1 c1, .slice B1 m1 d1] 27)).alloc (.cells #[.bool b2, .slice A2 n2 c2, .slice B2 m2 d2] 27)) := ((((Below.refl _ w).alloc (by simp) _).alloc (by simp) _).alloc (by simp <;> omega) _)
  replace cc := cc.trans (bA.mono cc.size)
  clear bA
  have p0 : (((w.alloc (.cells #[.bool b0, .slice A0 n0 c0, .slice B0 m0 d0] 27)).alloc (.cells #[.bool b1, .slice A1 n1 c1, .slice B1 m1 d1] 27)).alloc (.cells #[.bool b2, .slice A2 n2 c2, .slice B2 m2 d2] 27)).cell? ⟨w.heap.size, 0, none⟩ = some (.bool b0) := by simp [go_sem]
  have p1 : (((w.alloc (.cells #[.bool b0, .slice A0 n0 c0, .slice B0 m0 d0] 27)).alloc (.cells #[.bool b1, .slice A1 n1 c1, .slice B1 m1 d1] 27)).alloc (.cells #[.bool b2, .slice A2 n2 c2, .slice B2 m2 d2] 27)).cell? ⟨w.heap.size, 1, none⟩ = some (.slice A0 n0 c0) := by simp [go_sem]
  have p2 : (((w.alloc (.cells #[.bool b0, .slice A0 n0 c0, .slice B0 m0 d0] 27)).alloc (.cells #[.bool b1, .slice A1 n1 c1, .slice B1 m1 d1] 27)).alloc (.cells #[.bool b2, .slice A2 n2 c2, .slice B2 m2 d2] 27)).cell? ⟨w.heap.size, 2, none⟩ = some (.slice B0 m0 d0) := by simp [go_sem]
  have pl : w.heap.size < (((w.alloc (.cells #[.bool b0, .slice A0 n0 c0, .slice B0 m0 d0] 27)).alloc (.cells #[.bool b1, .slice A1 n1 c1, .slice B1 m1 d1] 27)).alloc (.cells #[.bool b2, .slice A2 n2 c2, .slice B2 m2 d2] 27)).heap.size := by simp <;> omega
  have q0 : (((w.alloc (.cells #[.bool b0, .slice A0 n0 c0, .slice B0 m0 d0] 27)).alloc (.cells #[.bool b1, .slice A1 n1 c1, .slice B1 m1 d1] 27)).alloc (.cells #[.bool b2, .slice A2 n2 c2, .slice B2 m2 d2] 27)).cell? ⟨w.heap.size + 1, 0, none⟩ = some (.bool b1) := by simp [go_sem]
  have q1 : (((w.alloc (.cells #[.bool b0, .slice A0 n0 c0, .slice B0 m0 d0] 27)).alloc (.cells #[.bool b1, .slice A1 n1 c1, .slice B1 m1 d1] 27)).alloc (.cells #[.bool b2, .slice A2 n2 c2, .slice B2 m2 d2] 27)).cell? ⟨w.heap.size + 1, 1, none⟩ = some (.slice A1 n1 c1) := by simp [go_sem]
  have q2 : (((w.alloc (.cells #[.bool b0, .slice A0 n0 c0, .slice B0 m0 d0] 27)).alloc (.cells #[.bool b1, .slice A1 n1 c1, .slice B1 m1 d1] 27)).alloc (.cells #[.bool b2, .slice A2 n2 c2, .slice B2 m2 d2] 27)).cell? ⟨w.heap.size + 1, 2, none⟩ = some (.slice B1 m1 d1) := by simp [go_sem]
  have ql : w.heap.size + 1 < (((w.alloc (.cells #[.bool b0, .slice A0 n0 c0, .slice B0 m0 d0] 27)).alloc (.cells #[.bool b1, .slice A1 n1 c1, .slice B1 m1 d1] 27)).alloc (.cells #[.bool b2, .slice A2 n2 c2, .slice B2 m2 d2] 27)).heap.size := by simp <;> omega
  have r0 : (((w.alloc (.cells #[.bool b0, .slice A0 n0 c0, .slice B0 m0 d0] 27)).alloc (.cells #[.bool b1, .slice A1 n1 c1, .slice B1 m1 d1] 27)).alloc (.cells #[.bool b2, .slice A2 n2 c2, .slice B2 m2 d2] 27)).cell? ⟨w.heap.size + 1 + 1, 0, none⟩ = some (.bool b2) := by simp [go_sem]
  have r1 : (((w.alloc (.cells #[.bool b0, .slice A0 n0 c0, .slice B0 m0 d0] 27)).alloc (.cells #[.bool b1, .slice A1 n1 c1, .slice B1 m1 d1] 27)).alloc (.cells #[.bool b2, .slice A2 n2 c2, .slice B2 m2 d2] 27)).cell? ⟨w.heap.size + 1 + 1, 1, none⟩ = some (.slice A2 n2 c2) := by simp [go_sem]
  have r2 : (((w.alloc (.cells #[.bool b0, .slice A0 n0 c0, .slice B0 m0 d0] 27)).alloc (.cells #[.bool b1, .slice A1 n1 c1, .slice B1 m1 d1] 27)).alloc (.cells #[.bool b2, .slice A2 n2 c2, .slice B2 m2 d2] 27)).cell? ⟨w.heap.size + 1 + 1, 2, none⟩ = some (.slice B2 m2 d2) := by simp [go_sem]
  have rl : w.heap.size + 1 + 1 < (((w.alloc (.cells #[.bool b0, .slice A0 n0 c0, .slice B0 m0 d0] 27)).alloc (.cells #[.bool b1, .slice A1 n1 c1, .slice B1 m1 d1] 27)).alloc (.cells #[.bool b2, .slice A2 n2 c2, .slice B2 m2 d2] 27)).heap.size := by simp <;> omega
  generalize ((w.alloc (.cells #[.bool b0, .slice A0 n0 c0, .slice B0 m0 d0] 27)).alloc (.cells #[.bool b1, .slice A1 n1 c1, .slice B1 m1 d1] 27)).alloc (.cells #[.bool b2, .slice A2 n2 c2, .slice B2 m2 d2] 27) = v1 at *
  refine (G0 _ cc).mono ?_
  rintro e w2 ⟨rfl, b⟩
  replace p0 := (b.cell (p := ⟨w.heap.size, 0, none⟩) pl).trans p0
  replace p1 := (b.cell (p := ⟨w.heap.size, 1, none⟩) pl).trans p1
  replace p2 := (b.cell (p := ⟨w.heap.size, 2, none⟩) pl).trans p2
  replace pl := Nat.lt_of_lt_of_le pl b.size
  replace q0 := (b.cell (p := ⟨w.heap.size + 1, 0, none⟩) ql).trans q0
  replace q1 := (b.cell (p := ⟨w.heap.size + 1, 1, none⟩) ql).trans q1
  replace q2 := (b.cell (p := ⟨w.heap.size + 1, 2, none⟩) ql).trans q2
  replace ql := Nat.lt_of_lt_of_le ql b.size
  replace r0 := (b.cell (p := ⟨w.heap.size + 1 + 1, 0, none⟩) rl).trans r0
  replace r1 := (b.cell (p := ⟨w.heap.size + 1 + 1, 1, none⟩) rl).trans r1
  replace r2 := (b.cell (p := ⟨w.heap.size + 1 + 1, 2, none⟩) rl).trans r2
  replace rl := Nat.lt_of_lt_of_le rl b.size
  replace cc := cc.trans (b.mono cc.size)
  clear b
  go_wp2_with fail
  refine (alive5_any _).mono ?_
  rintro e w3 ⟨rfl, b⟩
  replace p0 := (b.cell (p := ⟨w.heap.size, 0, none⟩) pl).trans p0
  replace p1 := (b.cell (p := ⟨w.heap.size, 1, none⟩) pl).trans p1
  replace p2 := (b.cell (p := ⟨w.heap.size, 2, none⟩) pl).trans p2
  replace pl := Nat.lt_of_lt_of_le pl b.size
  replace q0 := (b.cell (p := ⟨w.heap.size + 1, 0, none⟩) ql).trans q0
  replace q1 := (b.cell (p := ⟨w.heap.size + 1, 1, none⟩) ql).trans q1
  replace q2 := (b.cell (p := ⟨w.heap.size + 1, 2, none⟩) ql).trans q2
  replace ql := Nat.lt_of_lt_of_le ql b.size
  replace r0 := (b.cell (p := ⟨w.heap.size + 1 + 1, 0, none⟩) rl).trans r0
  replace r1 := (b.cell (p := ⟨w.heap.size + 1 + 1, 1, none⟩) rl).trans r1
  replace r2 := (b.cell (p := ⟨w.heap.size + 1 + 1, 2, none⟩) rl).trans r2
  replace rl := Nat.lt_of_lt_of_le rl b.size
  replace cc := cc.trans (b.mono cc.size)
  clear b
  go_wp2_with fail
  go_ret
  exact ⟨rfl, cc⟩

set_option maxRecDepth 100000 in
set_option maxHeartbeats 8000000 in
theorem RatOrder_no1 {w : World} {b0 b1 b2 : Bool} {A0 B0 A1 B1 A2 B2 : Option Addr} {n0 c0 m0 d0 n1 c1 m1 d1 n2 c2 m2 d2 : Nat} (G0 : ∀ W : World, Below w.heap.size w W → Calls Try.prog 21 #[.agg #[.bool b0, .slice A0 n0 c0, .slice B0 m0 d0], .int .i64 3] W (GotV W (.bool true))) (G1 : ∀ W : World, Below w.heap.size w W → Calls Try.prog 21 #[.agg #[.bool b1, .slice A1 n1 c1, .slice B1 m1 d1], .int .i64 3] W (GotV W (.bool false))) :
    Calls Try.prog 7 #[.agg #[.bool b0, .slice A0 n0 c0, .slice B0 m0 d0], .agg #[.bool b1, .slice A1 n1 c1, .slice B1 m1 d1], .agg #[.bool b2, .slice A2 n2 c2, .slice B2 m2 d2]] w fun e w' => e = .returned (.bool true) ∧ Below w.heap.size w w' := by
  have cc := Below.refl w.heap.size w
  go_enter Try.func7, Try.ntmps7
  go_wp2_with fail
  have bA : Below w.heap.size w (((w.alloc (.cells #[.bool b0, .slice A0 n0 c0, .slice B0 m0 d0] 27)).alloc (.cells #[.bool b1, .slice A1 n1 c1, .slice B1 m1 d1] 27)).alloc (.cells #[.bool b2, .slice A2 n2 c2, .slice B2 m2 d2] 27)) := ((((Below.refl _ w).alloc (by simp) _).alloc (by simp) _).alloc (by simp <;> omega) _)
  replace cc := cc.trans (bA.mono cc.size)
  clear bA
  have p0 : (((w.alloc (.cells #[.bool b0, .slice A0 n0 c0, .slice B0 m0 d0] 27)).alloc (.cells #[.bool b1, .slice A1 n1 c1, .slice B1 m1 d1] 27)).alloc (.cells #[.bool b2, .slice A2 n2 c2, .slice B2 m2 d2] 27)).cell? ⟨w.heap.size, 0, none⟩ = some (.bool b0) := by simp [go_sem]
  have p1 : (((w.alloc (.cells #[.bool b0, .slice A0 n0 c0, .slice B0 m0 d0] 27)).alloc (.cells #[.bool b1, .slice A1 n1 c1, .slice B1 m1 d1] 27)).alloc (.cells #[.bool b2, .slice A2 n2 c2, .slice B2 m2 d2] 27)).cell? ⟨w.heap.size, 1, none⟩ = some (.slice A0 n0 c0) := by simp [go_sem]
  have p2 : (((w.alloc (.cells #[.bool b0, .slice A0 n0 c0, .slice B0 m0 d0] 27)).alloc (.cells #[.bool b1, .slice A1 n1 c1, .slice B1 m1 d1] 27)).alloc (.cells #[.bool b2, .slice A2 n2 c2, .slice B2 m2 d2] 27)).cell? ⟨w.heap.size, 2, none⟩ = some (.slice B0 m0 d0) := by simp [go_sem]
  have pl : w.heap.size < (((w.alloc (.cells #[.bool b0, .slice A0 n0 c0, .slice B0 m0 d0] 27)).alloc (.cells #[.bool b1, .slice A1 n1 c1, .slice B1 m1 d1] 27)).alloc (.cells #[.bool b2, .slice A2 n2 c2, .slice B2 m2 d2] 27)).heap.size := by simp <;> omega
  have q0 : (((w.alloc (.cells #[.bool b0, .slice A0 n0 c0, .slice B0 m0 d0] 27)).alloc (.cells #[.bool b1, .slice A1 n1 c1, .slice B1 m1 d1] 27)).alloc (.cells #[.bool b2, .slice A2 n2 c2, .slice B2 m2 d2] 27)).cell? ⟨w.heap.size + 1, 0, none⟩ = some (.bool b1) := by simp [go_sem]
  have q1 : (((w.alloc (.cells #[.bool b0, .slice A0 n0 c0, .slice B0 m0 d0] 27)).alloc (.cells #[.bool b1, .slice A1 n1 c1, .slice B1 m1 d1] 27)).alloc (.cells #[.bool b2, .slice A2 n2 c2, .slice B2 m2 d2] 27)).cell? ⟨w.heap.size + 1, 1, none⟩ = some (.slice A1 n1 c1) := by simp [go_sem]
  have q2 : (((w.alloc (.cells #[.bool b0, .slice A0 n0 c0, .slice B0 m0 d0] 27)).alloc (.cells #[.bool b1, .slice A1 n1 c1, .slice B1 m1 d1] 27)).alloc (.cells #[.bool b2, .slice A2 n2 c2, .slice B2 m2 d2] 27)).cell? ⟨w.heap.size + 1, 2, none⟩ = some (.slice B1 m1 d1) := by simp [go_sem]
  have ql : w.heap.size + 1 < (((w.alloc (.cells #[.bool b0, .slice A0 n0 c0, .slice B0 m0 d0] 27)).alloc (.cells #[.bool b1, .slice A1 n1 c1, .slice B1 m1 d1] 27)).alloc (.cells #[.bool b2, .slice A2 n2 c2, .slice B2 m2 d2] 27)).heap.size := by simp <;> omega
  have r0 : (((w.alloc (.cells #[.bool b0, .slice A0 n0 c0, .slice B0 m0 d0] 27)).alloc (.cells #[.bool b1, .slice A1 n1 c1, .slice B1 m1 d1] 27)).alloc (.cells #[.bool b2, .slice A2 n2 c2, .slice B2 m2 d2] 27)).cell? ⟨w.heap.size + 1 + 1, 0, none⟩ = some (.bool b2) := by simp [go_sem]
  have r1 : (((w.alloc (.cells #[.bool b0, .slice A0 n0 c0, .slice B0 m0 d0] 27)).alloc (.cells #[.bool b1, .slice A1 n1 c1, .slice B1 m1 d1] 27)).alloc (.cells #[.bool b2, .slice A2 n2 c2, .slice B2 m2 d2] 27)).cell? ⟨w.heap.size + 1 + 1, 1, none⟩ = some (.slice A2 n2 c2) := by simp [go_sem]
  have r2 : (((w.alloc (.cells #[.bool b0, .slice A0 n0 c0, .slice B0 m0 d0] 27)).alloc (.cells #[.bool b1, .slice A1 n1 c1, .slice B1 m1 d1] 27)).alloc (.cells #[.bool b2, .slice A2 n2 c2, .slice B2 m2 d2] 27)).cell? ⟨w.heap.size + 1 + 1, 2, none⟩ = some (.slice B2 m2 d2) := by simp [go_sem]
  have rl : w.heap.size + 1 + 1 < (((w.alloc (.cells #[.bool b0, .slice A0 n0 c0, .slice B0 m0 d0] 27)).alloc (.cells #[.bool b1, .slice A1 n1 c1, .slice B1 m1 d1] 27)).alloc (.cells #[.bool b2, .slice A2 n2 c2, .slice B2 m2 d2] 27)).heap.size := by simp <;> omega
  generalize ((w.alloc (.cells #[.bool b0, .slice A0 n0 c0, .slice B0 m0 d0] 27)).alloc (.cells #[.bool b1, .slice A1 n1 c1, .slice B1 m1 d1] 27)).alloc (.cells #[.bool b2, .slice A2 n2 c2, .slice B2 m2 d2] 27) = v1 at *
  refine (G0 _ cc).mono ?_
  rintro e w2 ⟨rfl, b⟩
  replace p0 := (b.cell (p := ⟨w.heap.size, 0, none⟩) pl).trans p0
  replace p1 := (b.cell (p := ⟨w.heap.size, 1, none⟩) pl).trans p1
  replace p2 := (b.cell (p := ⟨w.heap.size, 2, none⟩) pl).trans p2
  replace pl := Nat.lt_of_lt_of_le pl b.size
  replace q0 := (b.cell (p := ⟨w.heap.size + 1, 0, none⟩) ql).trans q0
  replace q1 := (b.cell (p := ⟨w.heap.size + 1, 1, none⟩) ql).trans q1
  replace q2 := (b.cell (p := ⟨w.heap.size + 1, 2, none⟩) ql).trans q2
  replace ql := Nat.lt_of_lt_of_le ql b.size
  replace r0 := (b.cell (p := ⟨w.heap.size + 1 + 1, 0, none⟩) rl).trans r0
  replace r1 := (b.cell (p := ⟨w.heap.size + 1 + 1, 1, none⟩) rl).trans r1
  replace r2 := (b.cell (p := ⟨w.heap.size + 1 + 1, 2, none⟩) rl).trans r2
  replace rl := Nat.lt_of_lt_of_le rl b.size
  replace cc := cc.trans (b.mono cc.size)
  clear b
  go_wp2_with fail
  refine (G1 _ cc).mono ?_
  rintro e w3 ⟨rfl, b⟩
  replace p0 := (b.cell (p := ⟨w.heap.size, 0, none⟩) pl).trans p0
  replace p1 := (b.cell (p := ⟨w.heap.size, 1, none⟩) pl).trans p1
  replace p2 := (b.cell (p := ⟨w.heap.size, 2, none⟩) pl).trans p2
  replace pl := Nat.lt_of_lt_of_le pl b.size
  replace q0 := (b.cell (p := ⟨w.heap.size + 1, 0, none⟩) ql).trans q0
  replace q1 := (b.cell (p := ⟨w.heap.size + 1, 1, none⟩) ql).trans q1
  replace q2 := (b.cell (p := ⟨w.heap.size + 1, 2, none⟩) ql).trans q2
  replace ql := Nat.lt_of_lt_of_le ql b.size
  replace r0 := (b.cell (p := ⟨w.heap.size + 1 + 1, 0, none⟩) rl).trans r0
  replace r1 := (b.cell (p := ⟨w.heap.size + 1 + 1, 1, none⟩) rl).trans r1
  replace r2 := (b.cell (p := ⟨w.heap.size + 1 + 1, 2, none⟩) rl).trans r2
  replace rl := Nat.lt_of_lt_of_le rl b.size
  replace cc := cc.trans (b.mono cc.size)
  clear b
  go_wp2_with fail
  refine (alive5_any _).mono ?_
  rintro e w4 ⟨rfl, b⟩
  replace p0 := (b.cell (p := ⟨w.heap.size, 0, none⟩) pl).trans p0
  replace p1 := (b.cell (p := ⟨w.heap.size, 1, none⟩) pl).trans p1
  replace p2 := (b.cell (p := ⟨w.heap.size, 2, none⟩) pl).trans p2
  replace pl := Nat.lt_of_lt_of_le pl b.size
  replace q0 := (b.cell (p := ⟨w.heap.size + 1, 0, none⟩) ql).trans q0
  replace q1 := (b.cell (p := ⟨w.heap.size + 1, 1, none⟩) ql).trans q1
  replace q2 := (b.cell (p := ⟨w.heap.size + 1, 2, none⟩) ql).trans q2
  replace ql := Nat.lt_of_lt_of_le ql b.size
  replace r0 := (b.cell (p := ⟨w.heap.size + 1 + 1, 0, none⟩) rl).trans r0
  replace r1 := (b.cell (p := ⟨w.heap.size + 1 + 1, 1, none⟩) rl).trans r1
  replace r2 := (b.cell (p := ⟨w.heap.size + 1 + 1, 2, none⟩) rl).trans r2
  replace rl := Nat.lt_of_lt_of_le rl b.size
  replace cc := cc.trans (b.mono cc.size)
  clear b
  go_wp2_with fail
  go_ret
  exact ⟨rfl, cc⟩

set_option maxRecDepth 100000 in
set_option maxHeartbeats 8000000 in
theorem RatOrder_no2 {w : World} {b0 b1 b2 : Bool} {A0 B0 A1 B1 A2 B2 : Option Addr} {n0 c0 m0 d0 n1 c1 m1 d1 n2 c2 m2 d2 : Nat} (G0 : ∀ W : World, Below w.heap.size w W → Calls Try.prog 21 #[.agg #[.bool b0, .slice A0 n0 c0, .slice B0 m0 d0], .int .i64 3] W (GotV W (.bool true))) (G1 : ∀ W : World, Below w.heap.size w W → Calls Try.prog 21 #[.agg #[.bool b1, .slice A1 n1 c1, .slice B1 m1 d1], .int .i64 3] W (GotV W (.bool true))) (G2 : ∀ W : World, Below w.heap.size w W → Calls Try.prog 21 #[.agg #[.bool b2, .slice A2 n2 c2, .slice B2 m2 d2], .int .i64 3] W (GotV W (.bool false))) :
    Calls Try.prog 7 #[.agg #[.bool b0, .slice A0 n0 c0, .slice B0 m0 d0], .agg #[.bool b1, .slice A1 n1 c1, .slice B1 m1 d1], .agg #[.bool b2, .slice A2 n2 c2, .slice B2 m2 d2]] w fun e w' => e = .returned (.bool true) ∧ Below w.heap.size w w' := by
  have cc := Below.refl w.heap.size w
  go_enter Try.func7, Try.ntmps7
  go_wp2_with fail
  have bA : Below w.heap.size w (((w.alloc (.cells #[.bool b0, .slice A0 n0 c0, .slice B0 m0 d0] 27)).alloc (.cells #[.bool b1, .slice A1 n1 c1, .slice B1 m1 d1] 27)).alloc (.cells #[.bool b2, .slice A2 n2 c2, .slice B2 m2 d2] 27)) := ((((Below.refl _ w).alloc (by simp) _).alloc (by simp) _).alloc (by simp <;> omega) _)
  replace cc := cc.trans (bA.mono cc.size)
  clear bA
  have p0 : (((w.alloc (.cells #[.bool b0, .slice A0 n0 c0, .slice B0 m0 d0] 27)).alloc (.cells #[.bool b1, .slice A1 n1 c1, .slice B1 m1 d1] 27)).alloc (.cells #[.bool b2, .slice A2 n2 c2, .slice B2 m2 d2] 27)).cell? ⟨w.heap.size, 0, none⟩ = some (.bool b0) := by simp [go_sem]
  have p1 : (((w.alloc (.cells #[.bool b0, .slice A0 n0 c0, .slice B0 m0 d0] 27)).alloc (.cells #[.bool b1, .slice A1 n1 c1, .slice B1 m1 d1] 27)).alloc (.cells #[.bool b2, .slice A2 n2 c2, .slice B2 m2 d2] 27)).cell? ⟨w.heap.size, 1, none⟩ = some (.slice A0 n0 c0) := by simp [go_sem]
  have p2 : (((w.alloc (.cells #[.bool b0, .slice A0 n0 c0, .slice B0 m0 d0] 27)).alloc (.cells #[.bool b1, .slice A1 n1 c1, .slice B1 m1 d1] 27)).alloc (.cells #[.bool b2, .slice A2 n2 c2, .slice B2 m2 d2] 27)).cell? ⟨w.heap.size, 2, none⟩ = some (.slice B0 m0 d0) := by simp [go_sem]
  have pl : w.heap.size < (((w.alloc (.cells #[.bool b0, .slice A0 n0 c0, .slice B0 m0 d0] 27)).alloc (.cells #[.bool b1, .slice A1 n1 c1, .slice B1 m1 d1] 27)).alloc (.cells #[.bool b2, .slice A2 n2 c2, .slice B2 m2 d2] 27)).heap.size := by simp <;> omega
  have q0 : (((w.alloc (.cells #[.bool b0, .slice A0 n0 c0, .slice B0 m0 d0] 27)).alloc (.cells #[.bool b1, .slice A1 n1 c1, .slice B1 m1 d1] 27)).alloc (.cells #[.bool b2, .slice A2 n2 c2, .slice B2 m2 d2] 27)).cell? ⟨w.heap.size + 1, 0, none⟩ = some (.bool b1) := by simp [go_sem]
  have q1 : (((w.alloc (.cells #[.bool b0, .slice A0 n0 c0, .slice B0 m0 d0] 27)).alloc (.cells #[.bool b1, .slice A1 n1 c1, .slice B1 m1 d1] 27)).alloc (.cells #[.bool b2, .slice A2 n2 c2, .slice B2 m2 d2] 27)).cell? ⟨w.heap.size + 1, 1, none⟩ = some (.slice A1 n1 c1) := by simp [go_sem]
  have q2 : (((w.alloc (.cells #[.bool b0, .slice A0 n0 c0, .slice B0 m0 d0] 27)).alloc (.cells #[.bool b1, .slice A1 n1 c1, .slice B1 m1 d1] 27)).alloc (.cells #[.bool b2, .slice A2 n2 c2, .slice B2 m2 d2] 27)).cell? ⟨w.heap.size + 1, 2, none⟩ = some (.slice B1 m1 d1) := by simp [go_sem]
  have ql : w.heap.size + 1 < (((w.alloc (.cells #[.bool b0, .slice A0 n0 c0, .slice B0 m0 d0] 27)).alloc (.cells #[.bool b1, .slice A1 n1 c1, .slice B1 m1 d1] 27)).alloc (.cells #[.bool b2, .slice A2 n2 c2, .slice B2 m2 d2] 27)).heap.size := by simp <;> omega
  have r0 : (((w.alloc (.cells #[.bool b0, .slice A0 n0 c0, .slice B0 m0 d0] 27)).alloc (.cells #[.bool b1, .slice A1 n1 c1, .slice B1 m1 d1] 27)).alloc (.cells #[.bool b2, .slice A2 n2 c2, .slice B2 m2 d2] 27)).cell? ⟨w.heap.size + 1 + 1, 0, none⟩ = some (.bool b2) := by simp [go_sem]
  have r1 : (((w.alloc (.cells #[.bool b0, .slice A0 n0 c0, .slice B0 m0 d0] 27)).alloc (.cells #[.bool b1, .slice A1 n1 c1, .slice B1 m1 d1] 27)).alloc (.cells #[.bool b2, .slice A2 n2 c2, .slice B2 m2 d2] 27)).cell? ⟨w.heap.size + 1 + 1, 1, none⟩ = some (.slice A2 n2 c2) := by simp [go_sem]
  have r2 : (((w.alloc (.cells #[.bool b0, .slice A0 n0 c0, .slice B0 m0 d0] 27)).alloc (.cells #[.bool b1, .slice A1 n1 c1, .slice B1 m1 d1] 27)).alloc (.cells #[.bool b2, .slice A2 n2 c2, .slice B2 m2 d2] 27)).cell? ⟨w.heap.size + 1 + 1, 2, none⟩ = some (.slice B2 m2 d2) := by simp [go_sem]
  have rl : w.heap.size + 1 + 1 < (((w.alloc (.cells #[.bool b0, .slice A0 n0 c0, .slice B0 m0 d0] 27)).alloc (.cells #[.bool b1, .slice A1 n1 c1, .slice B1 m1 d1] 27)).alloc (.cells #[.bool b2, .slice A2 n2 c2, .slice B2 m2 d2] 27)).heap.size := by simp <;> omega
  generalize ((w.alloc (.cells #[.bool b0, .slice A0 n0 c0, .slice B0 m0 d0] 27)).alloc (.cells #[.bool b1, .slice A1 n1 c1, .slice B1 m1 d1] 27)).alloc (.cells #[.bool b2, .slice A2 n2 c2, .slice B2 m2 d2] 27) = v1 at *
  refine (G0 _ cc).mono ?_
  rintro e w2 ⟨rfl, b⟩
  replace p0 := (b.cell (p := ⟨w.heap.size, 0, none⟩) pl).trans p0
  replace p1 := (b.cell (p := ⟨w.heap.size, 1, none⟩) pl).trans p1
  replace p2 := (b.cell (p := ⟨w.heap.size, 2, none⟩) pl).trans p2
  replace pl := Nat.lt_of_lt_of_le pl b.size
  replace q0 := (b.cell (p := ⟨w.heap.size + 1, 0, none⟩) ql).trans q0
  replace q1 := (b.cell (p := ⟨w.heap.size + 1, 1, none⟩) ql).trans q1
  replace q2 := (b.cell (p := ⟨w.heap.size + 1, 2, none⟩) ql).trans q2
  replace ql := Nat.lt_of_lt_of_le ql b.size
  replace r0 := (b.cell (p := ⟨w.heap.size + 1 + 1, 0, none⟩) rl).trans r0
  replace r1 := (b.cell (p := ⟨w.heap.size + 1 + 1, 1, none⟩) rl).trans r1
  replace r2 := (b.cell (p := ⟨w.heap.size + 1 + 1, 2, none⟩) rl).trans r2
  replace rl := Nat.lt_of_lt_of_le rl b.size
  replace cc := cc.trans (b.mono cc.size)
  clear b
  go_wp2_with fail
  refine (G1 _ cc).mono ?_
  rintro e w3 ⟨rfl, b⟩
  replace p0 := (b.cell (p := ⟨w.heap.size, 0, none⟩) pl).trans p0
  replace p1 := (b.cell (p := ⟨w.heap.size, 1, none⟩) pl).trans p1
  replace p2 := (b.cell (p := ⟨w.heap.size, 2, none⟩) pl).trans p2
  replace pl := Nat.lt_of_lt_of_le pl b.size
  replace q0 := (b.cell (p := ⟨w.heap.size + 1, 0, none⟩) ql).trans q0
  replace q1 := (b.cell (p := ⟨w.heap.size + 1, 1, none⟩) ql).trans q1
  replace q2 := (b.cell (p := ⟨w.heap.size + 1, 2, none⟩) ql).trans q2
  replace ql := Nat.lt_of_lt_of_le ql b.size
  replace r0 := (b.cell (p := ⟨w.heap.size + 1 + 1, 0, none⟩) rl).trans r0
  replace r1 := (b.cell (p := ⟨w.heap.size + 1 + 1, 1, none⟩) rl).trans r1
  replace r2 := (b.cell (p := ⟨w.heap.size + 1 + 1, 2, none⟩) rl).trans r2
  replace rl := Nat.lt_of_lt_of_le rl b.size
  replace cc := cc.trans (b.mono cc.size)
  clear b
  go_wp2_with fail
  refine (G2 _ cc).mono ?_
  rintro e w4 ⟨rfl, b⟩
  replace p0 := (b.cell (p := ⟨w.heap.size, 0, none⟩) pl).trans p0
  replace p1 := (b.cell (p := ⟨w.heap.size, 1, none⟩) pl).trans p1
  replace p2 := (b.cell (p := ⟨w.heap.size, 2, none⟩) pl).trans p2
  replace pl := Nat.lt_of_lt_of_le pl b.size
  replace q0 := (b.cell (p := ⟨w.heap.size + 1, 0, none⟩) ql).trans q0
  replace q1 := (b.cell (p := ⟨w.heap.size + 1, 1, none⟩) ql).trans q1
  replace q2 := (b.cell (p := ⟨w.heap.size + 1, 2, none⟩) ql).trans q2
  replace ql := Nat.lt_of_lt_of_le ql b.size
  replace r0 := (b.cell (p := ⟨w.heap.size + 1 + 1, 0, none⟩) rl).trans r0
  replace r1 := (b.cell (p := ⟨w.heap.size + 1 + 1, 1, none⟩) rl).trans r1
  replace r2 := (b.cell (p := ⟨w.heap.size + 1 + 1, 2, none⟩) rl).trans r2
  replace rl := Nat.lt_of_lt_of_le rl b.size
  replace cc := cc.trans (b.mono cc.size)
  clear b
  go_wp2_with fail
  refine (alive5_any _).mono ?_
  rintro e w5 ⟨rfl, b⟩
  replace p0 := (b.cell (p := ⟨w.heap.size, 0, none⟩) pl).trans p0
  replace p1 := (b.cell (p := ⟨w.heap.size, 1, none⟩) pl).trans p1
  replace p2 := (b.cell (p := ⟨w.heap.size, 2, none⟩) pl).trans p2
  replace pl := Nat.lt_of_lt_of_le pl b.size
  replace q0 := (b.cell (p := ⟨w.heap.size + 1, 0, none⟩) ql).trans q0
  replace q1 := (b.cell (p := ⟨w.heap.size + 1, 1, none⟩) ql).trans q1
  replace q2 := (b.cell (p := ⟨w.heap.size + 1, 2, none⟩) ql).trans q2
  replace ql := Nat.lt_of_lt_of_le ql b.size
  replace r0 := (b.cell (p := ⟨w.heap.size + 1 + 1, 0, none⟩) rl).trans r0
  replace r1 := (b.cell (p := ⟨w.heap.size + 1 + 1, 1, none⟩) rl).trans r1
  replace r2 := (b.cell (p := ⟨w.heap.size + 1 + 1, 2, none⟩) rl).trans r2
  replace rl := Nat.lt_of_lt_of_le rl b.size
  replace cc := cc.trans (b.mono cc.size)
  clear b
  go_wp2_with fail
  go_ret
  exact ⟨rfl, cc⟩

set_option maxRecDepth 100000 in
set_option maxHeartbeats 8000000 in
theorem RatOrder_walk {w : World} (b0 : Bool) {A0 : Option Addr} {n0 c0 : Nat} {l0 : List Nat} (hl0 : Lim w.heap.size w A0 n0 c0 l0) (hs0 : n0 ≤ 9223372036854775807) {B0 : Option Addr} {m0 d0 : Nat} {k0 : List Nat} (hk0 : Lim w.heap.size w B0 m0 d0 k0) (ht0 : m0 ≤ 9223372036854775807) (b1 : Bool) {A1 : Option Addr} {n1 c1 : Nat} {l1 : List Nat} (hl1 : Lim w.heap.size w A1 n1 c1 l1) (hs1 : n1 ≤ 9223372036854775807) {B1 : Option Addr} {m1 d1 : Nat} {k1 : List Nat} (hk1 : Lim w.heap.size w B1 m1 d1 k1) (ht1 : m1 ≤ 9223372036854775807) (b2 : Bool) {A2 : Option Addr} {n2 c2 : Nat} {l2 : List Nat} (hl2 : Lim w.heap.size w A2 n2 c2 l2) (hs2 : n2 ≤ 9223372036854775807) {B2 : Option Addr} {m2 d2 : Nat} {k2 : List Nat} (hk2 : Lim w.heap.size w B2 m2 d2 k2) (ht2 : m2 ≤ 9223372036854775807) :
    Calls Try.prog 7 #[.agg #[.bool b0, .slice A0 n0 c0, .slice B0 m0 d0], .agg #[.bool b1, .slice A1 n1 c1, .slice B1 m1 d1], .agg #[.bool b2, .slice A2 n2 c2, .slice B2 m2 d2]] w fun e w' => e = .returned (.bool true) ∧ Below w.heap.size w w' := by
  have G : ∀ {b : Bool} {A B : Option Addr} {n c m d : Nat} {l k : List Nat} (r : Bool), Lim w.heap.size w A n c l → Lim w.heap.size w B m d k → (decide ((n : Int) ≤ 3) && (decide ((m : Int) ≤ 3) && okR b n l m k)) = r → ∀ W : World, Below w.heap.size w W → Calls Try.prog 21 #[.agg #[.bool b, .slice A n c, .slice B m d], .int .i64 3] W (GotV W (.bool r)) := fun r hl hk hr W hW => rtfew_any (hl.on hW) (hk.on hW) 3 (by omega) r hr
  cases e0 : (decide ((n0 : Int) ≤ 3) && (decide ((m0 : Int) ≤ 3) && okR b0 n0 l0 m0 k0)) with
  | false => exact RatOrder_no0  (G false hl0 hk0 e0)
  | true =>
    cases e1 : (decide ((n1 : Int) ≤ 3) && (decide ((m1 : Int) ≤ 3) && okR b1 n1 l1 m1 k1)) with
    | false => exact RatOrder_no1 (G true hl0 hk0 e0) (G false hl1 hk1 e1)
    | true =>
      cases e2 : (decide ((n2 : Int) ≤ 3) && (decide ((m2 : Int) ≤ 3) && okR b2 n2 l2 m2 k2)) with
      | false => exact RatOrder_no2 (G true hl0 hk0 e0) (G true hl1 hk1 e1) (G false hl2 hk2 e2)
      | true =>
        obtain ⟨x0, h0, s0⟩ := few_rt 3 hl0 hk0 e0
        obtain ⟨x1, h1, s1⟩ := few_rt 3 hl1 hk1 e1
        obtain ⟨x2, h2, s2⟩ := few_rt 3 hl2 hk2 e2
        rcases Nat.eq_zero_or_pos n2 with hn | hn
        · skip
          by_cases hA : cmpQ x0 x1 ≤ 0
          · by_cases hB : cmpQ x1 x2 ≤ 0
            · exact RatOrder_Cno h0 s0 h1 s1 h2 s2 hA hB hn (G true hl0 hk0 e0) (G true hl1 hk1 e1) (G true hl2 hk2 e2)
            · exact RatOrder_Bno h0 s0 h1 s1 h2 s2 hA hB hn (G true hl0 hk0 e0) (G true hl1 hk1 e1) (G true hl2 hk2 e2)
          · exact RatOrder_Ano h0 s0 h1 s1 h2 s2 hA hn (G true hl0 hk0 e0) (G true hl1 hk1 e1) (G true hl2 hk2 e2)
        · by_cases hb2 : b2 = true
          · skip
            by_cases hA : cmpQ x0 x1 ≤ 0
            · by_cases hB : cmpQ x1 x2 ≤ 0
              · exact RatOrder_Cneg h0 s0 h1 s1 h2 s2 hA hB hn hb2 (G true hl0 hk0 e0) (G true hl1 hk1 e1) (G true hl2 hk2 e2)
              · exact RatOrder_Bneg h0 s0 h1 s1 h2 s2 hA hB hn hb2 (G true hl0 hk0 e0) (G true hl1 hk1 e1) (G true hl2 hk2 e2)
            · exact RatOrder_Aneg h0 s0 h1 s1 h2 s2 hA hn hb2 (G true hl0 hk0 e0) (G true hl1 hk1 e1) (G true hl2 hk2 e2)
          · have hb3 : b2 = false := by simpa using hb2
            have hpos := rt_above h2 hn hb3
            by_cases hA : cmpQ x0 x1 ≤ 0
            · by_cases hB : cmpQ x1 x2 ≤ 0
              · exact RatOrder_Cyes h0 s0 h1 s1 h2 s2 hA hB hn hb3 hpos (G true hl0 hk0 e0) (G true hl1 hk1 e1) (G true hl2 hk2 e2)
              · exact RatOrder_Byes h0 s0 h1 s1 h2 s2 hA hB hn hb3 hpos (G true hl0 hk0 e0) (G true hl1 hk1 e1) (G true hl2 hk2 e2)
            · exact RatOrder_Ayes h0 s0 h1 s1 h2 s2 hA hn hb3 hpos (G true hl0 hk0 e0) (G true hl1 hk1 e1) (G true hl2 hk2 e2)

end Go.Proofs.Ytgnhioffamfakaa
