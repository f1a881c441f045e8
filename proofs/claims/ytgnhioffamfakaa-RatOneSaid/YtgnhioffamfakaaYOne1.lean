/-
  The ways through RatOne that refuse.
-/
import Derived.LoopN
import Derived.Test.YtgnhioffamfakaaA9
namespace Go.Proofs.Ytgnhioffamfakaa
open Go.RowKit
set_option linter.unusedVariables false

set_option maxRecDepth 100000 in
set_option maxHeartbeats 8000000 in
theorem RatOne_no0 {w : World} {b0 b1 : Bool} {A0 A1 B0 B1 D : Option Addr} {n0 c0 n1 c1 m0 d0 m1 d1 kk gg : Nat} (F0 : ∀ W : World, Below w.heap.size w W → Calls Try.prog 10 #[.agg #[.bool b0, .slice A0 n0 c0], .int .i64 4] W (GotV W (.bool false))) :
    Calls Try.prog 8 #[.agg #[.bool b0, .slice A0 n0 c0, .bool b1, .slice A1 n1 c1], .agg #[.slice B0 m0 d0, .slice B1 m1 d1], .slice D kk gg] w fun e w' => e = .returned (.bool true) ∧ Below w.heap.size w w' := by
  have cc := Below.refl w.heap.size w
  go_enter Try.func8, Try.ntmps8
  go_wp2_with fail
  have bA : Below w.heap.size w ((w.alloc (.cells #[.bool b0, .slice A0 n0 c0, .bool b1, .slice A1 n1 c1] 45)).alloc (.cells #[.slice B0 m0 d0, .slice B1 m1 d1] 46)) := (((Below.refl _ w).alloc (by simp) _).alloc (by simp) _)
  replace cc := cc.trans (bA.mono cc.size)
  clear bA
  have p0 : ((w.alloc (.cells #[.bool b0, .slice A0 n0 c0, .bool b1, .slice A1 n1 c1] 45)).alloc (.cells #[.slice B0 m0 d0, .slice B1 m1 d1] 46)).cell? ⟨w.heap.size, 0, none⟩ = some (.bool b0) := by simp [go_sem]
  have p1 : ((w.alloc (.cells #[.bool b0, .slice A0 n0 c0, .bool b1, .slice A1 n1 c1] 45)).alloc (.cells #[.slice B0 m0 d0, .slice B1 m1 d1] 46)).cell? ⟨w.heap.size, 1, none⟩ = some (.slice A0 n0 c0) := by simp [go_sem]
  have p2 : ((w.alloc (.cells #[.bool b0, .slice A0 n0 c0, .bool b1, .slice A1 n1 c1] 45)).alloc (.cells #[.slice B0 m0 d0, .slice B1 m1 d1] 46)).cell? ⟨w.heap.size, 2, none⟩ = some (.bool b1) := by simp [go_sem]
  have p3 : ((w.alloc (.cells #[.bool b0, .slice A0 n0 c0, .bool b1, .slice A1 n1 c1] 45)).alloc (.cells #[.slice B0 m0 d0, .slice B1 m1 d1] 46)).cell? ⟨w.heap.size, 3, none⟩ = some (.slice A1 n1 c1) := by simp [go_sem]
  have pl : w.heap.size < ((w.alloc (.cells #[.bool b0, .slice A0 n0 c0, .bool b1, .slice A1 n1 c1] 45)).alloc (.cells #[.slice B0 m0 d0, .slice B1 m1 d1] 46)).heap.size := by simp <;> omega
  have q0 : ((w.alloc (.cells #[.bool b0, .slice A0 n0 c0, .bool b1, .slice A1 n1 c1] 45)).alloc (.cells #[.slice B0 m0 d0, .slice B1 m1 d1] 46)).cell? ⟨w.heap.size + 1, 0, none⟩ = some (.slice B0 m0 d0) := by simp [go_sem]
  have q1 : ((w.alloc (.cells #[.bool b0, .slice A0 n0 c0, .bool b1, .slice A1 n1 c1] 45)).alloc (.cells #[.slice B0 m0 d0, .slice B1 m1 d1] 46)).cell? ⟨w.heap.size + 1, 1, none⟩ = some (.slice B1 m1 d1) := by simp [go_sem]
  have ql : w.heap.size + 1 < ((w.alloc (.cells #[.bool b0, .slice A0 n0 c0, .bool b1, .slice A1 n1 c1] 45)).alloc (.cells #[.slice B0 m0 d0, .slice B1 m1 d1] 46)).heap.size := by simp <;> omega
  generalize (w.alloc (.cells #[.bool b0, .slice A0 n0 c0, .bool b1, .slice A1 n1 c1] 45)).alloc (.cells #[.slice B0 m0 d0, .slice B1 m1 d1] 46) = v1 at *
  refine wp_loop_rounds 3 ?_
  rw [rounds_succ]
  go_wp2_with fail
  refine (F0 _ cc).mono ?_
  rintro e w2 ⟨rfl, b⟩
  replace p0 := (b.cell (p := ⟨w.heap.size, 0, none⟩) pl).trans p0
  replace p1 := (b.cell (p := ⟨w.heap.size, 1, none⟩) pl).trans p1
  replace p2 := (b.cell (p := ⟨w.heap.size, 2, none⟩) pl).trans p2
  replace p3 := (b.cell (p := ⟨w.heap.size, 3, none⟩) pl).trans p3
  replace pl := Nat.lt_of_lt_of_le pl b.size
  replace q0 := (b.cell (p := ⟨w.heap.size + 1, 0, none⟩) ql).trans q0
  replace q1 := (b.cell (p := ⟨w.heap.size + 1, 1, none⟩) ql).trans q1
  replace ql := Nat.lt_of_lt_of_le ql b.size
  replace cc := cc.trans (b.mono cc.size)
  clear b
  go_wp2_with fail
  refine (alive5_any _).mono ?_
  rintro e w3 ⟨rfl, b⟩
  replace p0 := (b.cell (p := ⟨w.heap.size, 0, none⟩) pl).trans p0
  replace p1 := (b.cell (p := ⟨w.heap.size, 1, none⟩) pl).trans p1
  replace p2 := (b.cell (p := ⟨w.heap.size, 2, none⟩) pl).trans p2
  replace p3 := (b.cell (p := ⟨w.heap.size, 3, none⟩) pl).trans p3
  replace pl := Nat.lt_of_lt_of_le pl b.size
  replace q0 := (b.cell (p := ⟨w.heap.size + 1, 0, none⟩) ql).trans q0
  replace q1 := (b.cell (p := ⟨w.heap.size + 1, 1, none⟩) ql).trans q1
  replace ql := Nat.lt_of_lt_of_le ql b.size
  replace cc := cc.trans (b.mono cc.size)
  clear b
  go_wp2_with fail
  go_ret
  exact ⟨rfl, cc⟩

set_option maxRecDepth 100000 in
set_option maxHeartbeats 8000000 in
theorem RatOne_no1 {w : World} {b0 b1 : Bool} {A0 A1 B0 B1 D : Option Addr} {n0 c0 n1 c1 m0 d0 m1 d1 kk gg : Nat} (F0 : ∀ W : World, Below w.heap.size w W → Calls Try.prog 10 #[.agg #[.bool b0, .slice A0 n0 c0], .int .i64 4] W (GotV W (.bool true))) (t0 : decide ((4 : Int) < (m0 : Int)) = true) :
    Calls Try.prog 8 #[.agg #[.bool b0, .slice A0 n0 c0, .bool b1, .slice A1 n1 c1], .agg #[.slice B0 m0 d0, .slice B1 m1 d1], .slice D kk gg] w fun e w' => e = .returned (.bool true) ∧ Below w.heap.size w w' := by
  have cc := Below.refl w.heap.size w
  go_enter Try.func8, Try.ntmps8
  go_wp2_with fail
  have bA : Below w.heap.size w ((w.alloc (.cells #[.bool b0, .slice A0 n0 c0, .bool b1, .slice A1 n1 c1] 45)).alloc (.cells #[.slice B0 m0 d0, .slice B1 m1 d1] 46)) := (((Below.refl _ w).alloc (by simp) _).alloc (by simp) _)
  replace cc := cc.trans (bA.mono cc.size)
  clear bA
  have p0 : ((w.alloc (.cells #[.bool b0, .slice A0 n0 c0, .bool b1, .slice A1 n1 c1] 45)).alloc (.cells #[.slice B0 m0 d0, .slice B1 m1 d1] 46)).cell? ⟨w.heap.size, 0, none⟩ = some (.bool b0) := by simp [go_sem]
  have p1 : ((w.alloc (.cells #[.bool b0, .slice A0 n0 c0, .bool b1, .slice A1 n1 c1] 45)).alloc (.cells #[.slice B0 m0 d0, .slice B1 m1 d1] 46)).cell? ⟨w.heap.size, 1, none⟩ = some (.slice A0 n0 c0) := by simp [go_sem]
  have p2 : ((w.alloc (.cells #[.bool b0, .slice A0 n0 c0, .bool b1, .slice A1 n1 c1] 45)).alloc (.cells #[.slice B0 m0 d0, .slice B1 m1 d1] 46)).cell? ⟨w.heap.size, 2, none⟩ = some (.bool b1) := by simp [go_sem]
  have p3 : ((w.alloc (.cells #[.bool b0, .slice A0 n0 c0, .bool b1, .slice A1 n1 c1] 45)).alloc (.cells #[.slice B0 m0 d0, .slice B1 m1 d1] 46)).cell? ⟨w.heap.size, 3, none⟩ = some (.slice A1 n1 c1) := by simp [go_sem]
  have pl : w.heap.size < ((w.alloc (.cells #[.bool b0, .slice A0 n0 c0, .bool b1, .slice A1 n1 c1] 45)).alloc (.cells #[.slice B0 m0 d0, .slice B1 m1 d1] 46)).heap.size := by simp <;> omega
  have q0 : ((w.alloc (.cells #[.bool b0, .slice A0 n0 c0, .bool b1, .slice A1 n1 c1] 45)).alloc (.cells #[.slice B0 m0 d0, .slice B1 m1 d1] 46)).cell? ⟨w.heap.size + 1, 0, none⟩ = some (.slice B0 m0 d0) := by simp [go_sem]
  have q1 : ((w.alloc (.cells #[.bool b0, .slice A0 n0 c0, .bool b1, .slice A1 n1 c1] 45)).alloc (.cells #[.slice B0 m0 d0, .slice B1 m1 d1] 46)).cell? ⟨w.heap.size + 1, 1, none⟩ = some (.slice B1 m1 d1) := by simp [go_sem]
  have ql : w.heap.size + 1 < ((w.alloc (.cells #[.bool b0, .slice A0 n0 c0, .bool b1, .slice A1 n1 c1] 45)).alloc (.cells #[.slice B0 m0 d0, .slice B1 m1 d1] 46)).heap.size := by simp <;> omega
  generalize (w.alloc (.cells #[.bool b0, .slice A0 n0 c0, .bool b1, .slice A1 n1 c1] 45)).alloc (.cells #[.slice B0 m0 d0, .slice B1 m1 d1] 46) = v1 at *
  refine wp_loop_rounds 3 ?_
  rw [rounds_succ]
  go_wp2_with fail
  refine (F0 _ cc).mono ?_
  rintro e w2 ⟨rfl, b⟩
  replace p0 := (b.cell (p := ⟨w.heap.size, 0, none⟩) pl).trans p0
  replace p1 := (b.cell (p := ⟨w.heap.size, 1, none⟩) pl).trans p1
  replace p2 := (b.cell (p := ⟨w.heap.size, 2, none⟩) pl).trans p2
  replace p3 := (b.cell (p := ⟨w.heap.size, 3, none⟩) pl).trans p3
  replace pl := Nat.lt_of_lt_of_le pl b.size
  replace q0 := (b.cell (p := ⟨w.heap.size + 1, 0, none⟩) ql).trans q0
  replace q1 := (b.cell (p := ⟨w.heap.size + 1, 1, none⟩) ql).trans q1
  replace ql := Nat.lt_of_lt_of_le ql b.size
  replace cc := cc.trans (b.mono cc.size)
  clear b
  go_wp2_with fail
  refine (alive5_any _).mono ?_
  rintro e w3 ⟨rfl, b⟩
  replace p0 := (b.cell (p := ⟨w.heap.size, 0, none⟩) pl).trans p0
  replace p1 := (b.cell (p := ⟨w.heap.size, 1, none⟩) pl).trans p1
  replace p2 := (b.cell (p := ⟨w.heap.size, 2, none⟩) pl).trans p2
  replace p3 := (b.cell (p := ⟨w.heap.size, 3, none⟩) pl).trans p3
  replace pl := Nat.lt_of_lt_of_le pl b.size
  replace q0 := (b.cell (p := ⟨w.heap.size + 1, 0, none⟩) ql).trans q0
  replace q1 := (b.cell (p := ⟨w.heap.size + 1, 1, none⟩) ql).trans q1
  replace ql := Nat.lt_of_lt_of_le ql b.size
  replace cc := cc.trans (b.mono cc.size)
  clear b
  go_wp2_with fail
  go_ret
  exact ⟨rfl, cc⟩

set_option maxRecDepth 100000 in
set_option maxHeartbeats 8000000 in
theorem RatOne_no2 {w : World} {b0 b1 : Bool} {A0 A1 B0 B1 D : Option Addr} {n0 c0 n1 c1 m0 d0 m1 d1 kk gg : Nat} (F0 : ∀ W : World, Below w.heap.size w W → Calls Try.prog 10 #[.agg #[.bool b0, .slice A0 n0 c0], .int .i64 4] W (GotV W (.bool true))) (t0 : decide ((4 : Int) < (m0 : Int)) = false) (z0 : ((m0 : Int) == 0) = true) :
    Calls Try.prog 8 #[.agg #[.bool b0, .slice A0 n0 c0, .bool b1, .slice A1 n1 c1], .agg #[.slice B0 m0 d0, .slice B1 m1 d1], .slice D kk gg] w fun e w' => e = .returned (.bool true) ∧ Below w.heap.size w w' := by
  have cc := Below.refl w.heap.size w
  go_enter Try.func8, Try.ntmps8
  go_wp2_with fail
  have bA : Below w.heap.size w ((w.alloc (.cells #[.bool b0, .slice A0 n0 c0, .bool b1, .slice A1 n1 c1] 45)).alloc (.cells #[.slice B0 m0 d0, .slice B1 m1 d1] 46)) := (((Below.refl _ w).alloc (by simp) _).alloc (by simp) _)
  replace cc := cc.trans (bA.mono cc.size)
  clear bA
  have p0 : ((w.alloc (.cells #[.bool b0, .slice A0 n0 c0, .bool b1, .slice A1 n1 c1] 45)).alloc (.cells #[.slice B0 m0 d0, .slice B1 m1 d1] 46)).cell? ⟨w.heap.size, 0, none⟩ = some (.bool b0) := by simp [go_sem]
  have p1 : ((w.alloc (.cells #[.bool b0, .slice A0 n0 c0, .bool b1, .slice A1 n1 c1] 45)).alloc (.cells #[.slice B0 m0 d0, .slice B1 m1 d1] 46)).cell? ⟨w.heap.size, 1, none⟩ = some (.slice A0 n0 c0) := by simp [go_sem]
  have p2 : ((w.alloc (.cells #[.bool b0, .slice A0 n0 c0, .bool b1, .slice A1 n1 c1] 45)).alloc (.cells #[.slice B0 m0 d0, .slice B1 m1 d1] 46)).cell? ⟨w.heap.size, 2, none⟩ = some (.bool b1) := by simp [go_sem]
  have p3 : ((w.alloc (.cells #[.bool b0, .slice A0 n0 c0, .bool b1, .slice A1 n1 c1] 45)).alloc (.cells #[.slice B0 m0 d0, .slice B1 m1 d1] 46)).cell? ⟨w.heap.size, 3, none⟩ = some (.slice A1 n1 c1) := by simp [go_sem]
  have pl : w.heap.size < ((w.alloc (.cells #[.bool b0, .slice A0 n0 c0, .bool b1, .slice A1 n1 c1] 45)).alloc (.cells #[.slice B0 m0 d0, .slice B1 m1 d1] 46)).heap.size := by simp <;> omega
  have q0 : ((w.alloc (.cells #[.bool b0, .slice A0 n0 c0, .bool b1, .slice A1 n1 c1] 45)).alloc (.cells #[.slice B0 m0 d0, .slice B1 m1 d1] 46)).cell? ⟨w.heap.size + 1, 0, none⟩ = some (.slice B0 m0 d0) := by simp [go_sem]
  have q1 : ((w.alloc (.cells #[.bool b0, .slice A0 n0 c0, .bool b1, .slice A1 n1 c1] 45)).alloc (.cells #[.slice B0 m0 d0, .slice B1 m1 d1] 46)).cell? ⟨w.heap.size + 1, 1, none⟩ = some (.slice B1 m1 d1) := by simp [go_sem]
  have ql : w.heap.size + 1 < ((w.alloc (.cells #[.bool b0, .slice A0 n0 c0, .bool b1, .slice A1 n1 c1] 45)).alloc (.cells #[.slice B0 m0 d0, .slice B1 m1 d1] 46)).heap.size := by simp <;> omega
  generalize (w.alloc (.cells #[.bool b0, .slice A0 n0 c0, .bool b1, .slice A1 n1 c1] 45)).alloc (.cells #[.slice B0 m0 d0, .slice B1 m1 d1] 46) = v1 at *
  refine wp_loop_rounds 3 ?_
  rw [rounds_succ]
  go_wp2_with fail
  refine (F0 _ cc).mono ?_
  rintro e w2 ⟨rfl, b⟩
  replace p0 := (b.cell (p := ⟨w.heap.size, 0, none⟩) pl).trans p0
  replace p1 := (b.cell (p := ⟨w.heap.size, 1, none⟩) pl).trans p1
  replace p2 := (b.cell (p := ⟨w.heap.size, 2, none⟩) pl).trans p2
  replace p3 := (b.cell (p := ⟨w.heap.size, 3, none⟩) pl).trans p3
  replace pl := Nat.lt_of_lt_of_le pl b.size
  replace q0 := (b.cell (p := ⟨w.heap.size + 1, 0, none⟩) ql).trans q0
  replace q1 := (b.cell (p := ⟨w.heap.size + 1, 1, none⟩) ql).trans q1
  replace ql := Nat.lt_of_lt_of_le ql b.size
  replace cc := cc.trans (b.mono cc.size)
  clear b
  go_wp2_with fail
  refine (alive5_any _).mono ?_
  rintro e w3 ⟨rfl, b⟩
  replace p0 := (b.cell (p := ⟨w.heap.size, 0, none⟩) pl).trans p0
  replace p1 := (b.cell (p := ⟨w.heap.size, 1, none⟩) pl).trans p1
  replace p2 := (b.cell (p := ⟨w.heap.size, 2, none⟩) pl).trans p2
  replace p3 := (b.cell (p := ⟨w.heap.size, 3, none⟩) pl).trans p3
  replace pl := Nat.lt_of_lt_of_le pl b.size
  replace q0 := (b.cell (p := ⟨w.heap.size + 1, 0, none⟩) ql).trans q0
  replace q1 := (b.cell (p := ⟨w.heap.size + 1, 1, none⟩) ql).trans q1
  replace ql := Nat.lt_of_lt_of_le ql b.size
  replace cc := cc.trans (b.mono cc.size)
  clear b
  go_wp2_with fail
  go_ret
  exact ⟨rfl, cc⟩

set_option maxRecDepth 100000 in
set_option maxHeartbeats 8000000 in
theorem RatOne_no3 {w : World} {b0 b1 : Bool} {A0 A1 B0 B1 D : Option Addr} {n0 c0 n1 c1 m0 d0 m1 d1 kk gg : Nat} (F0 : ∀ W : World, Below w.heap.size w W → Calls Try.prog 10 #[.agg #[.bool b0, .slice A0 n0 c0], .int .i64 4] W (GotV W (.bool true))) (t0 : decide ((4 : Int) < (m0 : Int)) = false) (z0 : ((m0 : Int) == 0) = false) (R0 : ∀ W : World, Below w.heap.size w W → Calls Try.prog 11 #[.slice B0 m0 d0] W (GotV W (.bool false))) :
    Calls Try.prog 8 #[.agg #[.bool b0, .slice A0 n0 c0, .bool b1, .slice A1 n1 c1], .agg #[.slice B0 m0 d0, .slice B1 m1 d1], .slice D kk gg] w fun e w' => e = .returned (.bool true) ∧ Below w.heap.size w w' := by
  have cc := Below.refl w.heap.size w
  go_enter Try.func8, Try.ntmps8
  go_wp2_with fail
  have bA : Below w.heap.size w ((w.alloc (.cells #[.bool b0, .slice A0 n0 c0, .bool b1, .slice A1 n1 c1] 45)).alloc (.cells #[.slice B0 m0 d0, .slice B1 m1 d1] 46)) := (((Below.refl _ w).alloc (by simp) _).alloc (by simp) _)
  replace cc := cc.trans (bA.mono cc.size)
  clear bA
  have p0 : ((w.alloc (.cells #[.bool b0, .slice A0 n0 c0, .bool b1, .slice A1 n1 c1] 45)).alloc (.cells #[.slice B0 m0 d0, .slice B1 m1 d1] 46)).cell? ⟨w.heap.size, 0, none⟩ = some (.bool b0) := by simp [go_sem]
  have p1 : ((w.alloc (.cells #[.bool b0, .slice A0 n0 c0, .bool b1, .slice A1 n1 c1] 45)).alloc (.cells #[.slice B0 m0 d0, .slice B1 m1 d1] 46)).cell? ⟨w.heap.size, 1, none⟩ = some (.slice A0 n0 c0) := by simp [go_sem]
  have p2 : ((w.alloc (.cells #[.bool b0, .slice A0 n0 c0, .bool b1, .slice A1 n1 c1] 45)).alloc (.cells #[.slice B0 m0 d0, .slice B1 m1 d1] 46)).cell? ⟨w.heap.size, 2, none⟩ = some (.bool b1) := by simp [go_sem]
  have p3 : ((w.alloc (.cells #[.bool b0, .slice A0 n0 c0, .bool b1, .slice A1 n1 c1] 45)).alloc (.cells #[.slice B0 m0 d0, .slice B1 m1 d1] 46)).cell? ⟨w.heap.size, 3, none⟩ = some (.slice A1 n1 c1) := by simp [go_sem]
  have pl : w.heap.size < ((w.alloc (.cells #[.bool b0, .slice A0 n0 c0, .bool b1, .slice A1 n1 c1] 45)).alloc (.cells #[.slice B0 m0 d0, .slice B1 m1 d1] 46)).heap.size := by simp <;> omega
  have q0 : ((w.alloc (.cells #[.bool b0, .slice A0 n0 c0, .bool b1, .slice A1 n1 c1] 45)).alloc (.cells #[.slice B0 m0 d0, .slice B1 m1 d1] 46)).cell? ⟨w.heap.size + 1, 0, none⟩ = some (.slice B0 m0 d0) := by simp [go_sem]
  have q1 : ((w.alloc (.cells #[.bool b0, .slice A0 n0 c0, .bool b1, .slice A1 n1 c1] 45)).alloc (.cells #[.slice B0 m0 d0, .slice B1 m1 d1] 46)).cell? ⟨w.heap.size + 1, 1, none⟩ = some (.slice B1 m1 d1) := by simp [go_sem]
  have ql : w.heap.size + 1 < ((w.alloc (.cells #[.bool b0, .slice A0 n0 c0, .bool b1, .slice A1 n1 c1] 45)).alloc (.cells #[.slice B0 m0 d0, .slice B1 m1 d1] 46)).heap.size := by simp <;> omega
  generalize (w.alloc (.cells #[.bool b0, .slice A0 n0 c0, .bool b1, .slice A1 n1 c1] 45)).alloc (.cells #[.slice B0 m0 d0, .slice B1 m1 d1] 46) = v1 at *
  refine wp_loop_rounds 3 ?_
  rw [rounds_succ]
  go_wp2_with fail
  refine (F0 _ cc).mono ?_
  rintro e w2 ⟨rfl, b⟩
  replace p0 := (b.cell (p := ⟨w.heap.size, 0, none⟩) pl).trans p0
  replace p1 := (b.cell (p := ⟨w.heap.size, 1, none⟩) pl).trans p1
  replace p2 := (b.cell (p := ⟨w.heap.size, 2, none⟩) pl).trans p2
  replace p3 := (b.cell (p := ⟨w.heap.size, 3, none⟩) pl).trans p3
  replace pl := Nat.lt_of_lt_of_le pl b.size
  replace q0 := (b.cell (p := ⟨w.heap.size + 1, 0, none⟩) ql).trans q0
  replace q1 := (b.cell (p := ⟨w.heap.size + 1, 1, none⟩) ql).trans q1
  replace ql := Nat.lt_of_lt_of_le ql b.size
  replace cc := cc.trans (b.mono cc.size)
  clear b
  go_wp2_with fail
  refine (R0 _ cc).mono ?_
  rintro e w3 ⟨rfl, b⟩
  replace p0 := (b.cell (p := ⟨w.heap.size, 0, none⟩) pl).trans p0
  replace p1 := (b.cell (p := ⟨w.heap.size, 1, none⟩) pl).trans p1
  replace p2 := (b.cell (p := ⟨w.heap.size, 2, none⟩) pl).trans p2
  replace p3 := (b.cell (p := ⟨w.heap.size, 3, none⟩) pl).trans p3
  replace pl := Nat.lt_of_lt_of_le pl b.size
  replace q0 := (b.cell (p := ⟨w.heap.size + 1, 0, none⟩) ql).trans q0
  replace q1 := (b.cell (p := ⟨w.heap.size + 1, 1, none⟩) ql).trans q1
  replace ql := Nat.lt_of_lt_of_le ql b.size
  replace cc := cc.trans (b.mono cc.size)
  clear b
  go_wp2_with fail
  refine (alive5_any _).mono ?_
  rintro e w4 ⟨rfl, b⟩
  replace p0 := (b.cell (p := ⟨w.heap.size, 0, none⟩) pl).trans p0
  replace p1 := (b.cell (p := ⟨w.heap.size, 1, none⟩) pl).trans p1
  replace p2 := (b.cell (p := ⟨w.heap.size, 2, none⟩) pl).trans p2
  replace p3 := (b.cell (p := ⟨w.heap.size, 3, none⟩) pl).trans p3
  replace pl := Nat.lt_of_lt_of_le pl b.size
  replace q0 := (b.cell (p := ⟨w.heap.size + 1, 0, none⟩) ql).trans q0
  replace q1 := (b.cell (p := ⟨w.heap.size + 1, 1, none⟩) ql).trans q1
  replace ql := Nat.lt_of_lt_of_le ql b.size
  replace cc := cc.trans (b.mono cc.size)
  clear b
  go_wp2_with fail
  go_ret
  exact ⟨rfl, cc⟩

set_option maxRecDepth 100000 in
set_option maxHeartbeats 8000000 in
theorem RatOne_no4 {w : World} {b0 b1 : Bool} {A0 A1 B0 B1 D : Option Addr} {n0 c0 n1 c1 m0 d0 m1 d1 kk gg : Nat} (F0 : ∀ W : World, Below w.heap.size w W → Calls Try.prog 10 #[.agg #[.bool b0, .slice A0 n0 c0], .int .i64 4] W (GotV W (.bool true))) (t0 : decide ((4 : Int) < (m0 : Int)) = false) (z0 : ((m0 : Int) == 0) = false) (R0 : ∀ W : World, Below w.heap.size w W → Calls Try.prog 11 #[.slice B0 m0 d0] W (GotV W (.bool true))) (F1 : ∀ W : World, Below w.heap.size w W → Calls Try.prog 10 #[.agg #[.bool b1, .slice A1 n1 c1], .int .i64 4] W (GotV W (.bool false))) :
    Calls Try.prog 8 #[.agg #[.bool b0, .slice A0 n0 c0, .bool b1, .slice A1 n1 c1], .agg #[.slice B0 m0 d0, .slice B1 m1 d1], .slice D kk gg] w fun e w' => e = .returned (.bool true) ∧ Below w.heap.size w w' := by
  have cc := Below.refl w.heap.size w
  go_enter Try.func8, Try.ntmps8
  go_wp2_with fail
  have bA : Below w.heap.size w ((w.alloc (.cells #[.bool b0, .slice A0 n0 c0, .bool b1, .slice A1 n1 c1] 45)).alloc (.cells #[.slice B0 m0 d0, .slice B1 m1 d1] 46)) := (((Below.refl _ w).alloc (by simp) _).alloc (by simp) _)
  replace cc := cc.trans (bA.mono cc.size)
  clear bA
  have p0 : ((w.alloc (.cells #[.bool b0, .slice A0 n0 c0, .bool b1, .slice A1 n1 c1] 45)).alloc (.cells #[.slice B0 m0 d0, .slice B1 m1 d1] 46)).cell? ⟨w.heap.size, 0, none⟩ = some (.bool b0) := by simp [go_sem]
  have p1 : ((w.alloc (.cells #[.bool b0, .slice A0 n0 c0, .bool b1, .slice A1 n1 c1] 45)).alloc (.cells #[.slice B0 m0 d0, .slice B1 m1 d1] 46)).cell? ⟨w.heap.size, 1, none⟩ = some (.slice A0 n0 c0) := by simp [go_sem]
  have p2 : ((w.alloc (.cells #[.bool b0, .slice A0 n0 c0, .bool b1, .slice A1 n1 c1] 45)).alloc (.cells #[.slice B0 m0 d0, .slice B1 m1 d1] 46)).cell? ⟨w.heap.size, 2, none⟩ = some (.bool b1) := by simp [go_sem]
  have p3 : ((w.alloc (.cells #[.bool b0, .slice A0 n0 c0, .bool b1, .slice A1 n1 c1] 45)).alloc (.cells #[.slice B0 m0 d0, .slice B1 m1 d1] 46)).cell? ⟨w.heap.size, 3, none⟩ = some (.slice A1 n1 c1) := by simp [go_sem]
  have pl : w.heap.size < ((w.alloc (.cells #[.bool b0, .slice A0 n0 c0, .bool b1, .slice A1 n1 c1] 45)).alloc (.cells #[.slice B0 m0 d0, .slice B1 m1 d1] 46)).heap.size := by simp <;> omega
  have q0 : ((w.alloc (.cells #[.bool b0, .slice A0 n0 c0, .bool b1, .slice A1 n1 c1] 45)).alloc (.cells #[.slice B0 m0 d0, .slice B1 m1 d1] 46)).cell? ⟨w.heap.size + 1, 0, none⟩ = some (.slice B0 m0 d0) := by simp [go_sem]
  have q1 : ((w.alloc (.cells #[.bool b0, .slice A0 n0 c0, .bool b1, .slice A1 n1 c1] 45)).alloc (.cells #[.slice B0 m0 d0, .slice B1 m1 d1] 46)).cell? ⟨w.heap.size + 1, 1, none⟩ = some (.slice B1 m1 d1) := by simp [go_sem]
  have ql : w.heap.size + 1 < ((w.alloc (.cells #[.bool b0, .slice A0 n0 c0, .bool b1, .slice A1 n1 c1] 45)).alloc (.cells #[.slice B0 m0 d0, .slice B1 m1 d1] 46)).heap.size := by simp <;> omega
  generalize (w.alloc (.cells #[.bool b0, .slice A0 n0 c0, .bool b1, .slice A1 n1 c1] 45)).alloc (.cells #[.slice B0 m0 d0, .slice B1 m1 d1] 46) = v1 at *
  refine wp_loop_rounds 3 ?_
  rw [rounds_succ]
  go_wp2_with fail
  refine (F0 _ cc).mono ?_
  rintro e w2 ⟨rfl, b⟩
  replace p0 := (b.cell (p := ⟨w.heap.size, 0, none⟩) pl).trans p0
  replace p1 := (b.cell (p := ⟨w.heap.size, 1, none⟩) pl).trans p1
  replace p2 := (b.cell (p := ⟨w.heap.size, 2, none⟩) pl).trans p2
  replace p3 := (b.cell (p := ⟨w.heap.size, 3, none⟩) pl).trans p3
  replace pl := Nat.lt_of_lt_of_le pl b.size
  replace q0 := (b.cell (p := ⟨w.heap.size + 1, 0, none⟩) ql).trans q0
  replace q1 := (b.cell (p := ⟨w.heap.size + 1, 1, none⟩) ql).trans q1
  replace ql := Nat.lt_of_lt_of_le ql b.size
  replace cc := cc.trans (b.mono cc.size)
  clear b
  go_wp2_with fail
  refine (R0 _ cc).mono ?_
  rintro e w3 ⟨rfl, b⟩
  replace p0 := (b.cell (p := ⟨w.heap.size, 0, none⟩) pl).trans p0
  replace p1 := (b.cell (p := ⟨w.heap.size, 1, none⟩) pl).trans p1
  replace p2 := (b.cell (p := ⟨w.heap.size, 2, none⟩) pl).trans p2
  replace p3 := (b.cell (p := ⟨w.heap.size, 3, none⟩) pl).trans p3
  replace pl := Nat.lt_of_lt_of_le pl b.size
  replace q0 := (b.cell (p := ⟨w.heap.size + 1, 0, none⟩) ql).trans q0
  replace q1 := (b.cell (p := ⟨w.heap.size + 1, 1, none⟩) ql).trans q1
  replace ql := Nat.lt_of_lt_of_le ql b.size
  replace cc := cc.trans (b.mono cc.size)
  clear b
  go_wp2_with fail
  rw [rounds_succ]
  go_wp2_with fail
  refine (F1 _ cc).mono ?_
  rintro e w4 ⟨rfl, b⟩
  replace p0 := (b.cell (p := ⟨w.heap.size, 0, none⟩) pl).trans p0
  replace p1 := (b.cell (p := ⟨w.heap.size, 1, none⟩) pl).trans p1
  replace p2 := (b.cell (p := ⟨w.heap.size, 2, none⟩) pl).trans p2
  replace p3 := (b.cell (p := ⟨w.heap.size, 3, none⟩) pl).trans p3
  replace pl := Nat.lt_of_lt_of_le pl b.size
  replace q0 := (b.cell (p := ⟨w.heap.size + 1, 0, none⟩) ql).trans q0
  replace q1 := (b.cell (p := ⟨w.heap.size + 1, 1, none⟩) ql).trans q1
  replace ql := Nat.lt_of_lt_of_le ql b.size
  replace cc := cc.trans (b.mono cc.size)
  clear b
  go_wp2_with fail
  refine (alive5_any _).mono ?_
  rintro e w5 ⟨rfl, b⟩
  replace p0 := (b.cell (p := ⟨w.heap.size, 0, none⟩) pl).trans p0
  replace p1 := (b.cell (p := ⟨w.heap.size, 1, none⟩) pl).trans p1
  replace p2 := (b.cell (p := ⟨w.heap.size, 2, none⟩) pl).trans p2
  replace p3 := (b.cell (p := ⟨w.heap.size, 3, none⟩) pl).trans p3
  replace pl := Nat.lt_of_lt_of_le pl b.size
  replace q0 := (b.cell (p := ⟨w.heap.size + 1, 0, none⟩) ql).trans q0
  replace q1 := (b.cell (p := ⟨w.heap.size + 1, 1, none⟩) ql).trans q1
  replace ql := Nat.lt_of_lt_of_le ql b.size
  replace cc := cc.trans (b.mono cc.size)
  clear b
  go_wp2_with fail
  go_ret
  exact ⟨rfl, cc⟩

set_option maxRecDepth 100000 in
set_option maxHeartbeats 8000000 in
theorem RatOne_no5 {w : World} {b0 b1 : Bool} {A0 A1 B0 B1 D : Option Addr} {n0 c0 n1 c1 m0 d0 m1 d1 kk gg : Nat} (F0 : ∀ W : World, Below w.heap.size w W → Calls Try.prog 10 #[.agg #[.bool b0, .slice A0 n0 c0], .int .i64 4] W (GotV W (.bool true))) (t0 : decide ((4 : Int) < (m0 : Int)) = false) (z0 : ((m0 : Int) == 0) = false) (R0 : ∀ W : World, Below w.heap.size w W → Calls Try.prog 11 #[.slice B0 m0 d0] W (GotV W (.bool true))) (F1 : ∀ W : World, Below w.heap.size w W → Calls Try.prog 10 #[.agg #[.bool b1, .slice A1 n1 c1], .int .i64 4] W (GotV W (.bool true))) (t1 : decide ((4 : Int) < (m1 : Int)) = true) :
    Calls Try.prog 8 #[.agg #[.bool b0, .slice A0 n0 c0, .bool b1, .slice A1 n1 c1], .agg #[.slice B0 m0 d0, .slice B1 m1 d1], .slice D kk gg] w fun e w' => e = .returned (.bool true) ∧ Below w.heap.size w w' := by
  have cc := Below.refl w.heap.size w
  go_enter Try.func8, Try.ntmps8
  go_wp2_with fail
  have bA : Below w.heap.size w ((w.alloc (.cells #[.bool b0, .slice A0 n0 c0, .bool b1, .slice A1 n1 c1] 45)).alloc (.cells #[.slice B0 m0 d0, .slice B1 m1 d1] 46)) := (((Below.refl _ w).alloc (by simp) _).alloc (by simp) _)
  replace cc := cc.trans (bA.mono cc.size)
  clear bA
  have p0 : ((w.alloc (.cells #[.bool b0, .slice A0 n0 c0, .bool b1, .slice A1 n1 c1] 45)).alloc (.cells #[.slice B0 m0 d0, .slice B1 m1 d1] 46)).cell? ⟨w.heap.size, 0, none⟩ = some (.bool b0) := by simp [go_sem]
  have p1 : ((w.alloc (.cells #[.bool b0, .slice A0 n0 c0, .bool b1, .slice A1 n1 c1] 45)).alloc (.cells #[.slice B0 m0 d0, .slice B1 m1 d1] 46)).cell? ⟨w.heap.size, 1, none⟩ = some (.slice A0 n0 c0) := by simp [go_sem]
  have p2 : ((w.alloc (.cells #[.bool b0, .slice A0 n0 c0, .bool b1, .slice A1 n1 c1] 45)).alloc (.cells #[.slice B0 m0 d0, .slice B1 m1 d1] 46)).cell? ⟨w.heap.size, 2, none⟩ = some (.bool b1) := by simp [go_sem]
  have p3 : ((w.alloc (.cells #[.bool b0, .slice A0 n0 c0, .bool b1, .slice A1 n1 c1] 45)).alloc (.cells #[.slice B0 m0 d0, .slice B1 m1 d1] 46)).cell? ⟨w.heap.size, 3, none⟩ = some (.slice A1 n1 c1) := by simp [go_sem]
  have pl : w.heap.size < ((w.alloc (.cells #[.bool b0, .slice A0 n0 c0, .bool b1, .slice A1 n1 c1] 45)).alloc (.cells #[.slice B0 m0 d0, .slice B1 m1 d1] 46)).heap.size := by simp <;> omega
  have q0 : ((w.alloc (.cells #[.bool b0, .slice A0 n0 c0, .bool b1, .slice A1 n1 c1] 45)).alloc (.cells #[.slice B0 m0 d0, .slice B1 m1 d1] 46)).cell? ⟨w.heap.size + 1, 0, none⟩ = some (.slice B0 m0 d0) := by simp [go_sem]
  have q1 : ((w.alloc (.cells #[.bool b0, .slice A0 n0 c0, .bool b1, .slice A1 n1 c1] 45)).alloc (.cells #[.slice B0 m0 d0, .slice B1 m1 d1] 46)).cell? ⟨w.heap.size + 1, 1, none⟩ = some (.slice B1 m1 d1) := by simp [go_sem]
  have ql : w.heap.size + 1 < ((w.alloc (.cells #[.bool b0, .slice A0 n0 c0, .bool b1, .slice A1 n1 c1] 45)).alloc (.cells #[.slice B0 m0 d0, .slice B1 m1 d1] 46)).heap.size := by simp <;> omega
  generalize (w.alloc (.cells #[.bool b0, .slice A0 n0 c0, .bool b1, .slice A1 n1 c1] 45)).alloc (.cells #[.slice B0 m0 d0, .slice B1 m1 d1] 46) = v1 at *
  refine wp_loop_rounds 3 ?_
  rw [rounds_succ]
  go_wp2_with fail
  refine (F0 _ cc).mono ?_
  rintro e w2 ⟨rfl, b⟩
  replace p0 := (b.cell (p := ⟨w.heap.size, 0, none⟩) pl).trans p0
  replace p1 := (b.cell (p := ⟨w.heap.size, 1, none⟩) pl).trans p1
  replace p2 := (b.cell (p := ⟨w.heap.size, 2, none⟩) pl).trans p2
  replace p3 := (b.cell (p := ⟨w.heap.size, 3, none⟩) pl).trans p3
  replace pl := Nat.lt_of_lt_of_le pl b.size
  replace q0 := (b.cell (p := ⟨w.heap.size + 1, 0, none⟩) ql).trans q0
  replace q1 := (b.cell (p := ⟨w.heap.size + 1, 1, none⟩) ql).trans q1
  replace ql := Nat.lt_of_lt_of_le ql b.size
  replace cc := cc.trans (b.mono cc.size)
  clear b
  go_wp2_with fail
  refine (R0 _ cc).mono ?_
  rintro e w3 ⟨rfl, b⟩
  replace p0 := (b.cell (p := ⟨w.heap.size, 0, none⟩) pl).trans p0
  replace p1 := (b.cell (p := ⟨w.heap.size, 1, none⟩) pl).trans p1
  replace p2 := (b.cell (p := ⟨w.heap.size, 2, none⟩) pl).trans p2
  replace p3 := (b.cell (p := ⟨w.heap.size, 3, none⟩) pl).trans p3
  replace pl := Nat.lt_of_lt_of_le pl b.size
  replace q0 := (b.cell (p := ⟨w.heap.size + 1, 0, none⟩) ql).trans q0
  replace q1 := (b.cell (p := ⟨w.heap.size + 1, 1, none⟩) ql).trans q1
  replace ql := Nat.lt_of_lt_of_le ql b.size
  replace cc := cc.trans (b.mono cc.size)
  clear b
  go_wp2_with fail
  rw [rounds_succ]
  go_wp2_with fail
  refine (F1 _ cc).mono ?_
  rintro e w4 ⟨rfl, b⟩
  replace p0 := (b.cell (p := ⟨w.heap.size, 0, none⟩) pl).trans p0
  replace p1 := (b.cell (p := ⟨w.heap.size, 1, none⟩) pl).trans p1
  replace p2 := (b.cell (p := ⟨w.heap.size, 2, none⟩) pl).trans p2
  replace p3 := (b.cell (p := ⟨w.heap.size, 3, none⟩) pl).trans p3
  replace pl := Nat.lt_of_lt_of_le pl b.size
  replace q0 := (b.cell (p := ⟨w.heap.size + 1, 0, none⟩) ql).trans q0
  replace q1 := (b.cell (p := ⟨w.heap.size + 1, 1, none⟩) ql).trans q1
  replace ql := Nat.lt_of_lt_of_le ql b.size
  replace cc := cc.trans (b.mono cc.size)
  clear b
  go_wp2_with fail
  refine (alive5_any _).mono ?_
  rintro e w5 ⟨rfl, b⟩
  replace p0 := (b.cell (p := ⟨w.heap.size, 0, none⟩) pl).trans p0
  replace p1 := (b.cell (p := ⟨w.heap.size, 1, none⟩) pl).trans p1
  replace p2 := (b.cell (p := ⟨w.heap.size, 2, none⟩) pl).trans p2
  replace p3 := (b.cell (p := ⟨w.heap.size, 3, none⟩) pl).trans p3
  replace pl := Nat.lt_of_lt_of_le pl b.size
  replace q0 := (b.cell (p := ⟨w.heap.size + 1, 0, none⟩) ql).trans q0
  replace q1 := (b.cell (p := ⟨w.heap.size + 1, 1, none⟩) ql).trans q1
  replace ql := Nat.lt_of_lt_of_le ql b.size
  replace cc := cc.trans (b.mono cc.size)
  clear b
  go_wp2_with fail
  go_ret
  exact ⟨rfl, cc⟩

set_option maxRecDepth 100000 in
set_option maxHeartbeats 8000000 in
theorem RatOne_no6 {w : World} {b0 b1 : Bool} {A0 A1 B0 B1 D : Option Addr} {n0 c0 n1 c1 m0 d0 m1 d1 kk gg : Nat} (F0 : ∀ W : World, Below w.heap.size w W → Calls Try.prog 10 #[.agg #[.bool b0, .slice A0 n0 c0], .int .i64 4] W (GotV W (.bool true))) (t0 : decide ((4 : Int) < (m0 : Int)) = false) (z0 : ((m0 : Int) == 0) = false) (R0 : ∀ W : World, Below w.heap.size w W → Calls Try.prog 11 #[.slice B0 m0 d0] W (GotV W (.bool true))) (F1 : ∀ W : World, Below w.heap.size w W → Calls Try.prog 10 #[.agg #[.bool b1, .slice A1 n1 c1], .int .i64 4] W (GotV W (.bool true))) (t1 : decide ((4 : Int) < (m1 : Int)) = false) (z1 : ((m1 : Int) == 0) = true) :
    Calls Try.prog 8 #[.agg #[.bool b0, .slice A0 n0 c0, .bool b1, .slice A1 n1 c1], .agg #[.slice B0 m0 d0, .slice B1 m1 d1], .slice D kk gg] w fun e w' => e = .returned (.bool true) ∧ Below w.heap.size w w' := by
  have cc := Below.refl w.heap.size w
  go_enter Try.func8, Try.ntmps8
  go_wp2_with fail
  have bA : Below w.heap.size w ((w.alloc (.cells #[.bool b0, .slice A0 n0 c0, .bool b1, .slice A1 n1 c1] 45)).alloc (.cells #[.slice B0 m0 d0, .slice B1 m1 d1] 46)) := (((Below.refl _ w).alloc (by simp) _).alloc (by simp) _)
  replace cc := cc.trans (bA.mono cc.size)
  clear bA
  have p0 : ((w.alloc (.cells #[.bool b0, .slice A0 n0 c0, .bool b1, .slice A1 n1 c1] 45)).alloc (.cells #[.slice B0 m0 d0, .slice B1 m1 d1] 46)).cell? ⟨w.heap.size, 0, none⟩ = some (.bool b0) := by simp [go_sem]
  have p1 : ((w.alloc (.cells #[.bool b0, .slice A0 n0 c0, .bool b1, .slice A1 n1 c1] 45)).alloc (.cells #[.slice B0 m0 d0, .slice B1 m1 d1] 46)).cell? ⟨w.heap.size, 1, none⟩ = some (.slice A0 n0 c0) := by simp [go_sem]
  have p2 : ((w.alloc (.cells #[.bool b0, .slice A0 n0 c0, .bool b1, .slice A1 n1 c1] 45)).alloc (.cells #[.slice B0 m0 d0, .slice B1 m1 d1] 46)).cell? ⟨w.heap.size, 2, none⟩ = some (.bool b1) := by simp [go_sem]
  have p3 : ((w.alloc (.cells #[.bool b0, .slice A0 n0 c0, .bool b1, .slice A1 n1 c1] 45)).alloc (.cells #[.slice B0 m0 d0, .slice B1 m1 d1] 46)).cell? ⟨w.heap.size, 3, none⟩ = some (.slice A1 n1 c1) := by simp [go_sem]
  have pl : w.heap.size < ((w.alloc (.cells #[.bool b0, .slice A0 n0 c0, .bool b1, .slice A1 n1 c1] 45)).alloc (.cells #[.slice B0 m0 d0, .slice B1 m1 d1] 46)).heap.size := by simp <;> omega
  have q0 : ((w.alloc (.cells #[.bool b0, .slice A0 n0 c0, .bool b1, .slice A1 n1 c1] 45)).alloc (.cells #[.slice B0 m0 d0, .slice B1 m1 d1] 46)).cell? ⟨w.heap.size + 1, 0, none⟩ = some (.slice B0 m0 d0) := by simp [go_sem]
  have q1 : ((w.alloc (.cells #[.bool b0, .slice A0 n0 c0, .bool b1, .slice A1 n1 c1] 45)).alloc (.cells #[.slice B0 m0 d0, .slice B1 m1 d1] 46)).cell? ⟨w.heap.size + 1, 1, none⟩ = some (.slice B1 m1 d1) := by simp [go_sem]
  have ql : w.heap.size + 1 < ((w.alloc (.cells #[.bool b0, .slice A0 n0 c0, .bool b1, .slice A1 n1 c1] 45)).alloc (.cells #[.slice B0 m0 d0, .slice B1 m1 d1] 46)).heap.size := by simp <;> omega
  generalize (w.alloc (.cells #[.bool b0, .slice A0 n0 c0, .bool b1, .slice A1 n1 c1] 45)).alloc (.cells #[.slice B0 m0 d0, .slice B1 m1 d1] 46) = v1 at *
  refine wp_loop_rounds 3 ?_
  rw [rounds_succ]
  go_wp2_with fail
  refine (F0 _ cc).mono ?_
  rintro e w2 ⟨rfl, b⟩
  replace p0 := (b.cell (p := ⟨w.heap.size, 0, none⟩) pl).trans p0
  replace p1 := (b.cell (p := ⟨w.heap.size, 1, none⟩) pl).trans p1
  replace p2 := (b.cell (p := ⟨w.heap.size, 2, none⟩) pl).trans p2
  replace p3 := (b.cell (p := ⟨w.heap.size, 3, none⟩) pl).trans p3
  replace pl := Nat.lt_of_lt_of_le pl b.size
  replace q0 := (b.cell (p := ⟨w.heap.size + 1, 0, none⟩) ql).trans q0
  replace q1 := (b.cell (p := ⟨w.heap.size + 1, 1, none⟩) ql).trans q1
  replace ql := Nat.lt_of_lt_of_le ql b.size
  replace cc := cc.trans (b.mono cc.size)
  clear b
  go_wp2_with fail
  refine (R0 _ cc).mono ?_
  rintro e w3 ⟨rfl, b⟩
  replace p0 := (b.cell (p := ⟨w.heap.size, 0, none⟩) pl).trans p0
  replace p1 := (b.cell (p := ⟨w.heap.size, 1, none⟩) pl).trans p1
  replace p2 := (b.cell (p := ⟨w.heap.size, 2, none⟩) pl).trans p2
  replace p3 := (b.cell (p := ⟨w.heap.size, 3, none⟩) pl).trans p3
  replace pl := Nat.lt_of_lt_of_le pl b.size
  replace q0 := (b.cell (p := ⟨w.heap.size + 1, 0, none⟩) ql).trans q0
  replace q1 := (b.cell (p := ⟨w.heap.size + 1, 1, none⟩) ql).trans q1
  replace ql := Nat.lt_of_lt_of_le ql b.size
  replace cc := cc.trans (b.mono cc.size)
  clear b
  go_wp2_with fail
  rw [rounds_succ]
  go_wp2_with fail
  refine (F1 _ cc).mono ?_
  rintro e w4 ⟨rfl, b⟩
  replace p0 := (b.cell (p := ⟨w.heap.size, 0, none⟩) pl).trans p0
  replace p1 := (b.cell (p := ⟨w.heap.size, 1, none⟩) pl).trans p1
  replace p2 := (b.cell (p := ⟨w.heap.size, 2, none⟩) pl).trans p2
  replace p3 := (b.cell (p := ⟨w.heap.size, 3, none⟩) pl).trans p3
  replace pl := Nat.lt_of_lt_of_le pl b.size
  replace q0 := (b.cell (p := ⟨w.heap.size + 1, 0, none⟩) ql).trans q0
  replace q1 := (b.cell (p := ⟨w.heap.size + 1, 1, none⟩) ql).trans q1
  replace ql := Nat.lt_of_lt_of_le ql b.size
  replace cc := cc.trans (b.mono cc.size)
  clear b
  go_wp2_with fail
  refine (alive5_any _).mono ?_
  rintro e w5 ⟨rfl, b⟩
  replace p0 := (b.cell (p := ⟨w.heap.size, 0, none⟩) pl).trans p0
  replace p1 := (b.cell (p := ⟨w.heap.size, 1, none⟩) pl).trans p1
  replace p2 := (b.cell (p := ⟨w.heap.size, 2, none⟩) pl).trans p2
  replace p3 := (b.cell (p := ⟨w.heap.size, 3, none⟩) pl).trans p3
  replace pl := Nat.lt_of_lt_of_le pl b.size
  replace q0 := (b.cell (p := ⟨w.heap.size + 1, 0, none⟩) ql).trans q0
  replace q1 := (b.cell (p := ⟨w.heap.size + 1, 1, none⟩) ql).trans q1
  replace ql := Nat.lt_of_lt_of_le ql b.size
  replace cc := cc.trans (b.mono cc.size)
  clear b
  go_wp2_with fail
  go_ret
  exact ⟨rfl, cc⟩

set_option maxRecDepth 100000 in
set_option maxHeartbeats 8000000 in
theorem RatOne_no7 {w : World} {b0 b1 : Bool} {A0 A1 B0 B1 D : Option Addr} {n0 c0 n1 c1 m0 d0 m1 d1 kk gg : Nat} (F0 : ∀ W : World, Below w.heap.size w W → Calls Try.prog 10 #[.agg #[.bool b0, .slice A0 n0 c0], .int .i64 4] W (GotV W (.bool true))) (t0 : decide ((4 : Int) < (m0 : Int)) = false) (z0 : ((m0 : Int) == 0) = false) (R0 : ∀ W : World, Below w.heap.size w W → Calls Try.prog 11 #[.slice B0 m0 d0] W (GotV W (.bool true))) (F1 : ∀ W : World, Below w.heap.size w W → Calls Try.prog 10 #[.agg #[.bool b1, .slice A1 n1 c1], .int .i64 4] W (GotV W (.bool true))) (t1 : decide ((4 : Int) < (m1 : Int)) = false) (z1 : ((m1 : Int) == 0) = false) (R1 : ∀ W : World, Below w.heap.size w W → Calls Try.prog 11 #[.slice B1 m1 d1] W (GotV W (.bool false))) :
    Calls Try.prog 8 #[.agg #[.bool b0, .slice A0 n0 c0, .bool b1, .slice A1 n1 c1], .agg #[.slice B0 m0 d0, .slice B1 m1 d1], .slice D kk gg] w fun e w' => e = .returned (.bool true) ∧ Below w.heap.size w w' := by
  have cc := Below.refl w.heap.size w
  go_enter Try.func8, Try.ntmps8
  go_wp2_with fail
  have bA : Below w.heap.size w ((w.alloc (.cells #[.bool b0, .slice A0 n0 c0, .bool b1, .slice A1 n1 c1] 45)).alloc (.cells #[.slice B0 m0 d0, .slice B1 m1 d1] 46)) := (((Below.refl _ w).alloc (by simp) _).alloc (by simp) _)
  replace cc := cc.trans (bA.mono cc.size)
  clear bA
  have p0 : ((w.alloc (.cells #[.bool b0, .slice A0 n0 c0, .bool b1, .slice A1 n1 c1] 45)).alloc (.cells #[.slice B0 m0 d0, .slice B1 m1 d1] 46)).cell? ⟨w.heap.size, 0, none⟩ = some (.bool b0) := by simp [go_sem]
  have p1 : ((w.alloc (.cells #[.bool b0, .slice A0 n0 c0, .bool b1, .slice A1 n1 c1] 45)).alloc (.cells #[.slice B0 m0 d0, .slice B1 m1 d1] 46)).cell? ⟨w.heap.size, 1, none⟩ = some (.slice A0 n0 c0) := by simp [go_sem]
  have p2 : ((w.alloc (.cells #[.bool b0, .slice A0 n0 c0, .bool b1, .slice A1 n1 c1] 45)).alloc (.cells #[.slice B0 m0 d0, .slice B1 m1 d1] 46)).cell? ⟨w.heap.size, 2, none⟩ = some (.bool b1) := by simp [go_sem]
  have p3 : ((w.alloc (.cells #[.bool b0, .slice A0 n0 c0, .bool b1, .slice A1 n1 c1] 45)).alloc (.cells #[.slice B0 m0 d0, .slice B1 m1 d1] 46)).cell? ⟨w.heap.size, 3, none⟩ = some (.slice A1 n1 c1) := by simp [go_sem]
  have pl : w.heap.size < ((w.alloc (.cells #[.bool b0, .slice A0 n0 c0, .bool b1, .slice A1 n1 c1] 45)).alloc (.cells #[.slice B0 m0 d0, .slice B1 m1 d1] 46)).heap.size := by simp <;> omega
  have q0 : ((w.alloc (.cells #[.bool b0, .slice A0 n0 c0, .bool b1, .slice A1 n1 c1] 45)).alloc (.cells #[.slice B0 m0 d0, .slice B1 m1 d1] 46)).cell? ⟨w.heap.size + 1, 0, none⟩ = some (.slice B0 m0 d0) := by simp [go_sem]
  have q1 : ((w.alloc (.cells #[.bool b0, .slice A0 n0 c0, .bool b1, .slice A1 n1 c1] 45)).alloc (.cells #[.slice B0 m0 d0, .slice B1 m1 d1] 46)).cell? ⟨w.heap.size + 1, 1, none⟩ = some (.slice B1 m1 d1) := by simp [go_sem]
  have ql : w.heap.size + 1 < ((w.alloc (.cells #[.bool b0, .slice A0 n0 c0, .bool b1, .slice A1 n1 c1] 45)).alloc (.cells #[.slice B0 m0 d0, .slice B1 m1 d1] 46)).heap.size := by simp <;> omega
  generalize (w.alloc (.cells #[.bool b0, .slice A0 n0 c0, .bool b1, .slice A1 n1 c1] 45)).alloc (.cells #[.slice B0 m0 d0, .slice B1 m1 d1] 46) = v1 at *
  refine wp_loop_rounds 3 ?_
  rw [rounds_succ]
  go_wp2_with fail
  refine (F0 _ cc).mono ?_
  rintro e w2 ⟨rfl, b⟩
  replace p0 := (b.cell (p := ⟨w.heap.size, 0, none⟩) pl).trans p0
  replace p1 := (b.cell (p := ⟨w.heap.size, 1, none⟩) pl).trans p1
  replace p2 := (b.cell (p := ⟨w.heap.size, 2, none⟩) pl).trans p2
  replace p3 := (b.cell (p := ⟨w.heap.size, 3, none⟩) pl).trans p3
  replace pl := Nat.lt_of_lt_of_le pl b.size
  replace q0 := (b.cell (p := ⟨w.heap.size + 1, 0, none⟩) ql).trans q0
  replace q1 := (b.cell (p := ⟨w.heap.size + 1, 1, none⟩) ql).trans q1
  replace ql := Nat.lt_of_lt_of_le ql b.size
  replace cc := cc.trans (b.mono cc.size)
  clear b
  go_wp2_with fail
  refine (R0 _ cc).mono ?_
  rintro e w3 ⟨rfl, b⟩
  replace p0 := (b.cell (p := ⟨w.heap.size, 0, none⟩) pl).trans p0
  replace p1 := (b.cell (p := ⟨w.heap.size, 1, none⟩) pl).trans p1
  replace p2 := (b.cell (p := ⟨w.heap.size, 2, none⟩) pl).trans p2
  replace p3 := (b.cell (p := ⟨w.heap.size, 3, none⟩) pl).trans p3
  replace pl := Nat.lt_of_lt_of_le pl b.size
  replace q0 := (b.cell (p := ⟨w.heap.size + 1, 0, none⟩) ql).trans q0
  replace q1 := (b.cell (p := ⟨w.heap.size + 1, 1, none⟩) ql).trans q1
  replace ql := Nat.lt_of_lt_of_le ql b.size
  replace cc := cc.trans (b.mono cc.size)
  clear b
  go_wp2_with fail
  rw [rounds_succ]
  go_wp2_with fail
  refine (F1 _ cc).mono ?_
  rintro e w4 ⟨rfl, b⟩
  replace p0 := (b.cell (p := ⟨w.heap.size, 0, none⟩) pl).trans p0
  replace p1 := (b.cell (p := ⟨w.heap.size, 1, none⟩) pl).trans p1
  replace p2 := (b.cell (p := ⟨w.heap.size, 2, none⟩) pl).trans p2
  replace p3 := (b.cell (p := ⟨w.heap.size, 3, none⟩) pl).trans p3
  replace pl := Nat.lt_of_lt_of_le pl b.size
  replace q0 := (b.cell (p := ⟨w.heap.size + 1, 0, none⟩) ql).trans q0
  replace q1 := (b.cell (p := ⟨w.heap.size + 1, 1, none⟩) ql).trans q1
  replace ql := Nat.lt_of_lt_of_le ql b.size
  replace cc := cc.trans (b.mono cc.size)
  clear b
  go_wp2_with fail
  refine (R1 _ cc).mono ?_
  rintro e w5 ⟨rfl, b⟩
  replace p0 := (b.cell (p := ⟨w.heap.size, 0, none⟩) pl).trans p0
  replace p1 := (b.cell (p := ⟨w.heap.size, 1, none⟩) pl).trans p1
  replace p2 := (b.cell (p := ⟨w.heap.size, 2, none⟩) pl).trans p2
  replace p3 := (b.cell (p := ⟨w.heap.size, 3, none⟩) pl).trans p3
  replace pl := Nat.lt_of_lt_of_le pl b.size
  replace q0 := (b.cell (p := ⟨w.heap.size + 1, 0, none⟩) ql).trans q0
  replace q1 := (b.cell (p := ⟨w.heap.size + 1, 1, none⟩) ql).trans q1
  replace ql := Nat.lt_of_lt_of_le ql b.size
  replace cc := cc.trans (b.mono cc.size)
  clear b
  go_wp2_with fail
  refine (alive5_any _).mono ?_
  rintro e w6 ⟨rfl, b⟩
  replace p0 := (b.cell (p := ⟨w.heap.size, 0, none⟩) pl).trans p0
  replace p1 := (b.cell (p := ⟨w.heap.size, 1, none⟩) pl).trans p1
  replace p2 := (b.cell (p := ⟨w.heap.size, 2, none⟩) pl).trans p2
  replace p3 := (b.cell (p := ⟨w.heap.size, 3, none⟩) pl).trans p3
  replace pl := Nat.lt_of_lt_of_le pl b.size
  replace q0 := (b.cell (p := ⟨w.heap.size + 1, 0, none⟩) ql).trans q0
  replace q1 := (b.cell (p := ⟨w.heap.size + 1, 1, none⟩) ql).trans q1
  replace ql := Nat.lt_of_lt_of_le ql b.size
  replace cc := cc.trans (b.mono cc.size)
  clear b
  go_wp2_with fail
  go_ret
  exact ⟨rfl, cc⟩

set_option maxRecDepth 100000 in
set_option maxHeartbeats 8000000 in
theorem RatOne_no8 {w : World} {b0 b1 : Bool} {A0 A1 B0 B1 D : Option Addr} {n0 c0 n1 c1 m0 d0 m1 d1 kk gg : Nat} (F0 : ∀ W : World, Below w.heap.size w W → Calls Try.prog 10 #[.agg #[.bool b0, .slice A0 n0 c0], .int .i64 4] W (GotV W (.bool true))) (t0 : decide ((4 : Int) < (m0 : Int)) = false) (z0 : ((m0 : Int) == 0) = false) (R0 : ∀ W : World, Below w.heap.size w W → Calls Try.prog 11 #[.slice B0 m0 d0] W (GotV W (.bool true))) (F1 : ∀ W : World, Below w.heap.size w W → Calls Try.prog 10 #[.agg #[.bool b1, .slice A1 n1 c1], .int .i64 4] W (GotV W (.bool true))) (t1 : decide ((4 : Int) < (m1 : Int)) = false) (z1 : ((m1 : Int) == 0) = false) (R1 : ∀ W : World, Below w.heap.size w W → Calls Try.prog 11 #[.slice B1 m1 d1] W (GotV W (.bool true))) (t2 : decide ((4 : Int) < (kk : Int)) = true) :
    Calls Try.prog 8 #[.agg #[.bool b0, .slice A0 n0 c0, .bool b1, .slice A1 n1 c1], .agg #[.slice B0 m0 d0, .slice B1 m1 d1], .slice D kk gg] w fun e w' => e = .returned (.bool true) ∧ Below w.heap.size w w' := by
  have cc := Below.refl w.heap.size w
  go_enter Try.func8, Try.ntmps8
  go_wp2_with fail
  have bA : Below w.heap.size w ((w.alloc (.cells #[.bool b0, .slice A0 n0 c0, .bool b1, .slice A1 n1 c1] 45)).alloc (.cells #[.slice B0 m0 d0, .slice B1 m1 d1] 46)) := (((Below.refl _ w).alloc (by simp) _).alloc (by simp) _)
  replace cc := cc.trans (bA.mono cc.size)
  clear bA
  have p0 : ((w.alloc (.cells #[.bool b0, .slice A0 n0 c0, .bool b1, .slice A1 n1 c1] 45)).alloc (.cells #[.slice B0 m0 d0, .slice B1 m1 d1] 46)).cell? ⟨w.heap.size, 0, none⟩ = some (.bool b0) := by simp [go_sem]
  have p1 : ((w.alloc (.cells #[.bool b0, .slice A0 n0 c0, .bool b1, .slice A1 n1 c1] 45)).alloc (.cells #[.slice B0 m0 d0, .slice B1 m1 d1] 46)).cell? ⟨w.heap.size, 1, none⟩ = some (.slice A0 n0 c0) := by simp [go_sem]
  have p2 : ((w.alloc (.cells #[.bool b0, .slice A0 n0 c0, .bool b1, .slice A1 n1 c1] 45)).alloc (.cells #[.slice B0 m0 d0, .slice B1 m1 d1] 46)).cell? ⟨w.heap.size, 2, none⟩ = some (.bool b1) := by simp [go_sem]
  have p3 : ((w.alloc (.cells #[.bool b0, .slice A0 n0 c0, .bool b1, .slice A1 n1 c1] 45)).alloc (.cells #[.slice B0 m0 d0, .slice B1 m1 d1] 46)).cell? ⟨w.heap.size, 3, none⟩ = some (.slice A1 n1 c1) := by simp [go_sem]
  have pl : w.heap.size < ((w.alloc (.cells #[.bool b0, .slice A0 n0 c0, .bool b1, .slice A1 n1 c1] 45)).alloc (.cells #[.slice B0 m0 d0, .slice B1 m1 d1] 46)).heap.size := by simp <;> omega
  have q0 : ((w.alloc (.cells #[.bool b0, .slice A0 n0 c0, .bool b1, .slice A1 n1 c1] 45)).alloc (.cells #[.slice B0 m0 d0, .slice B1 m1 d1] 46)).cell? ⟨w.heap.size + 1, 0, none⟩ = some (.slice B0 m0 d0) := by simp [go_sem]
  have q1 : ((w.alloc (.cells #[.bool b0, .slice A0 n0 c0, .bool b1, .slice A1 n1 c1] 45)).alloc (.cells #[.slice B0 m0 d0, .slice B1 m1 d1] 46)).cell? ⟨w.heap.size + 1, 1, none⟩ = some (.slice B1 m1 d1) := by simp [go_sem]
  have ql : w.heap.size + 1 < ((w.alloc (.cells #[.bool b0, .slice A0 n0 c0, .bool b1, .slice A1 n1 c1] 45)).alloc (.cells #[.slice B0 m0 d0, .slice B1 m1 d1] 46)).heap.size := by simp <;> omega
  generalize (w.alloc (.cells #[.bool b0, .slice A0 n0 c0, .bool b1, .slice A1 n1 c1] 45)).alloc (.cells #[.slice B0 m0 d0, .slice B1 m1 d1] 46) = v1 at *
  refine wp_loop_rounds 3 ?_
  rw [rounds_succ]
  go_wp2_with fail
  refine (F0 _ cc).mono ?_
  rintro e w2 ⟨rfl, b⟩
  replace p0 := (b.cell (p := ⟨w.heap.size, 0, none⟩) pl).trans p0
  replace p1 := (b.cell (p := ⟨w.heap.size, 1, none⟩) pl).trans p1
  replace p2 := (b.cell (p := ⟨w.heap.size, 2, none⟩) pl).trans p2
  replace p3 := (b.cell (p := ⟨w.heap.size, 3, none⟩) pl).trans p3
  replace pl := Nat.lt_of_lt_of_le pl b.size
  replace q0 := (b.cell (p := ⟨w.heap.size + 1, 0, none⟩) ql).trans q0
  replace q1 := (b.cell (p := ⟨w.heap.size + 1, 1, none⟩) ql).trans q1
  replace ql := Nat.lt_of_lt_of_le ql b.size
  replace cc := cc.trans (b.mono cc.size)
  clear b
  go_wp2_with fail
  refine (R0 _ cc).mono ?_
  rintro e w3 ⟨rfl, b⟩
  replace p0 := (b.cell (p := ⟨w.heap.size, 0, none⟩) pl).trans p0
  replace p1 := (b.cell (p := ⟨w.heap.size, 1, none⟩) pl).trans p1
  replace p2 := (b.cell (p := ⟨w.heap.size, 2, none⟩) pl).trans p2
  replace p3 := (b.cell (p := ⟨w.heap.size, 3, none⟩) pl).trans p3
  replace pl := Nat.lt_of_lt_of_le pl b.size
  replace q0 := (b.cell (p := ⟨w.heap.size + 1, 0, none⟩) ql).trans q0
  replace q1 := (b.cell (p := ⟨w.heap.size + 1, 1, none⟩) ql).trans q1
  replace ql := Nat.lt_of_lt_of_le ql b.size
  replace cc := cc.trans (b.mono cc.size)
  clear b
  go_wp2_with fail
  rw [rounds_succ]
  go_wp2_with fail
  refine (F1 _ cc).mono ?_
  rintro e w4 ⟨rfl, b⟩
  replace p0 := (b.cell (p := ⟨w.heap.size, 0, none⟩) pl).trans p0
  replace p1 := (b.cell (p := ⟨w.heap.size, 1, none⟩) pl).trans p1
  replace p2 := (b.cell (p := ⟨w.heap.size, 2, none⟩) pl).trans p2
  replace p3 := (b.cell (p := ⟨w.heap.size, 3, none⟩) pl).trans p3
  replace pl := Nat.lt_of_lt_of_le pl b.size
  replace q0 := (b.cell (p := ⟨w.heap.size + 1, 0, none⟩) ql).trans q0
  replace q1 := (b.cell (p := ⟨w.heap.size + 1, 1, none⟩) ql).trans q1
  replace ql := Nat.lt_of_lt_of_le ql b.size
  replace cc := cc.trans (b.mono cc.size)
  clear b
  go_wp2_with fail
  refine (R1 _ cc).mono ?_
  rintro e w5 ⟨rfl, b⟩
  replace p0 := (b.cell (p := ⟨w.heap.size, 0, none⟩) pl).trans p0
  replace p1 := (b.cell (p := ⟨w.heap.size, 1, none⟩) pl).trans p1
  replace p2 := (b.cell (p := ⟨w.heap.size, 2, none⟩) pl).trans p2
  replace p3 := (b.cell (p := ⟨w.heap.size, 3, none⟩) pl).trans p3
  replace pl := Nat.lt_of_lt_of_le pl b.size
  replace q0 := (b.cell (p := ⟨w.heap.size + 1, 0, none⟩) ql).trans q0
  replace q1 := (b.cell (p := ⟨w.heap.size + 1, 1, none⟩) ql).trans q1
  replace ql := Nat.lt_of_lt_of_le ql b.size
  replace cc := cc.trans (b.mono cc.size)
  clear b
  go_wp2_with fail
  rw [rounds_succ]
  go_wp2_with fail
  refine (alive5_any _).mono ?_
  rintro e w6 ⟨rfl, b⟩
  replace p0 := (b.cell (p := ⟨w.heap.size, 0, none⟩) pl).trans p0
  replace p1 := (b.cell (p := ⟨w.heap.size, 1, none⟩) pl).trans p1
  replace p2 := (b.cell (p := ⟨w.heap.size, 2, none⟩) pl).trans p2
  replace p3 := (b.cell (p := ⟨w.heap.size, 3, none⟩) pl).trans p3
  replace pl := Nat.lt_of_lt_of_le pl b.size
  replace q0 := (b.cell (p := ⟨w.heap.size + 1, 0, none⟩) ql).trans q0
  replace q1 := (b.cell (p := ⟨w.heap.size + 1, 1, none⟩) ql).trans q1
  replace ql := Nat.lt_of_lt_of_le ql b.size
  replace cc := cc.trans (b.mono cc.size)
  clear b
  go_wp2_with fail
  go_ret
  exact ⟨rfl, cc⟩

set_option maxRecDepth 100000 in
set_option maxHeartbeats 8000000 in
theorem RatOne_no9 {w : World} {b0 b1 : Bool} {A0 A1 B0 B1 D : Option Addr} {n0 c0 n1 c1 m0 d0 m1 d1 kk gg : Nat} (F0 : ∀ W : World, Below w.heap.size w W → Calls Try.prog 10 #[.agg #[.bool b0, .slice A0 n0 c0], .int .i64 4] W (GotV W (.bool true))) (t0 : decide ((4 : Int) < (m0 : Int)) = false) (z0 : ((m0 : Int) == 0) = false) (R0 : ∀ W : World, Below w.heap.size w W → Calls Try.prog 11 #[.slice B0 m0 d0] W (GotV W (.bool true))) (F1 : ∀ W : World, Below w.heap.size w W → Calls Try.prog 10 #[.agg #[.bool b1, .slice A1 n1 c1], .int .i64 4] W (GotV W (.bool true))) (t1 : decide ((4 : Int) < (m1 : Int)) = false) (z1 : ((m1 : Int) == 0) = false) (R1 : ∀ W : World, Below w.heap.size w W → Calls Try.prog 11 #[.slice B1 m1 d1] W (GotV W (.bool true))) (t2 : decide ((4 : Int) < (kk : Int)) = false) (z2 : ((kk : Int) == 0) = true) :
    Calls Try.prog 8 #[.agg #[.bool b0, .slice A0 n0 c0, .bool b1, .slice A1 n1 c1], .agg #[.slice B0 m0 d0, .slice B1 m1 d1], .slice D kk gg] w fun e w' => e = .returned (.bool true) ∧ Below w.heap.size w w' := by
  have cc := Below.refl w.heap.size w
  go_enter Try.func8, Try.ntmps8
  go_wp2_with fail
  have bA : Below w.heap.size w ((w.alloc (.cells #[.bool b0, .slice A0 n0 c0, .bool b1, .slice A1 n1 c1] 45)).alloc (.cells #[.slice B0 m0 d0, .slice B1 m1 d1] 46)) := (((Below.refl _ w).alloc (by simp) _).alloc (by simp) _)
  replace cc := cc.trans (bA.mono cc.size)
  clear bA
  have p0 : ((w.alloc (.cells #[.bool b0, .slice A0 n0 c0, .bool b1, .slice A1 n1 c1] 45)).alloc (.cells #[.slice B0 m0 d0, .slice B1 m1 d1] 46)).cell? ⟨w.heap.size, 0, none⟩ = some (.bool b0) := by simp [go_sem]
  have p1 : ((w.alloc (.cells #[.bool b0, .slice A0 n0 c0, .bool b1, .slice A1 n1 c1] 45)).alloc (.cells #[.slice B0 m0 d0, .slice B1 m1 d1] 46)).cell? ⟨w.heap.size, 1, none⟩ = some (.slice A0 n0 c0) := by simp [go_sem]
  have p2 : ((w.alloc (.cells #[.bool b0, .slice A0 n0 c0, .bool b1, .slice A1 n1 c1] 45)).alloc (.cells #[.slice B0 m0 d0, .slice B1 m1 d1] 46)).cell? ⟨w.heap.size, 2, none⟩ = some (.bool b1) := by simp [go_sem]
  have p3 : ((w.alloc (.cells #[.bool b0, .slice A0 n0 c0, .bool b1, .slice A1 n1 c1] 45)).alloc (.cells #[.slice B0 m0 d0, .slice B1 m1 d1] 46)).cell? ⟨w.heap.size, 3, none⟩ = some (.slice A1 n1 c1) := by simp [go_sem]
  have pl : w.heap.size < ((w.alloc (.cells #[.bool b0, .slice A0 n0 c0, .bool b1, .slice A1 n1 c1] 45)).alloc (.cells #[.slice B0 m0 d0, .slice B1 m1 d1] 46)).heap.size := by simp <;> omega
  have q0 : ((w.alloc (.cells #[.bool b0, .slice A0 n0 c0, .bool b1, .slice A1 n1 c1] 45)).alloc (.cells #[.slice B0 m0 d0, .slice B1 m1 d1] 46)).cell? ⟨w.heap.size + 1, 0, none⟩ = some (.slice B0 m0 d0) := by simp [go_sem]
  have q1 : ((w.alloc (.cells #[.bool b0, .slice A0 n0 c0, .bool b1, .slice A1 n1 c1] 45)).alloc (.cells #[.slice B0 m0 d0, .slice B1 m1 d1] 46)).cell? ⟨w.heap.size + 1, 1, none⟩ = some (.slice B1 m1 d1) := by simp [go_sem]
  have ql : w.heap.size + 1 < ((w.alloc (.cells #[.bool b0, .slice A0 n0 c0, .bool b1, .slice A1 n1 c1] 45)).alloc (.cells #[.slice B0 m0 d0, .slice B1 m1 d1] 46)).heap.size := by simp <;> omega
  generalize (w.alloc (.cells #[.bool b0, .slice A0 n0 c0, .bool b1, .slice A1 n1 c1] 45)).alloc (.cells #[.slice B0 m0 d0, .slice B1 m1 d1] 46) = v1 at *
  refine wp_loop_rounds 3 ?_
  rw [rounds_succ]
  go_wp2_with fail
  refine (F0 _ cc).mono ?_
  rintro e w2 ⟨rfl, b⟩
  replace p0 := (b.cell (p := ⟨w.heap.size, 0, none⟩) pl).trans p0
  replace p1 := (b.cell (p := ⟨w.heap.size, 1, none⟩) pl).trans p1
  replace p2 := (b.cell (p := ⟨w.heap.size, 2, none⟩) pl).trans p2
  replace p3 := (b.cell (p := ⟨w.heap.size, 3, none⟩) pl).trans p3
  replace pl := Nat.lt_of_lt_of_le pl b.size
  replace q0 := (b.cell (p := ⟨w.heap.size + 1, 0, none⟩) ql).trans q0
  replace q1 := (b.cell (p := ⟨w.heap.size + 1, 1, none⟩) ql).trans q1
  replace ql := Nat.lt_of_lt_of_le ql b.size
  replace cc := cc.trans (b.mono cc.size)
  clear b
  go_wp2_with fail
  refine (R0 _ cc).mono ?_
  rintro e w3 ⟨rfl, b⟩
  replace p0 := (b.cell (p := ⟨w.heap.size, 0, none⟩) pl).trans p0
  replace p1 := (b.cell (p := ⟨w.heap.size, 1, none⟩) pl).trans p1
  replace p2 := (b.cell (p := ⟨w.heap.size, 2, none⟩) pl).trans p2
  replace p3 := (b.cell (p := ⟨w.heap.size, 3, none⟩) pl).trans p3
  replace pl := Nat.lt_of_lt_of_le pl b.size
  replace q0 := (b.cell (p := ⟨w.heap.size + 1, 0, none⟩) ql).trans q0
  replace q1 := (b.cell (p := ⟨w.heap.size + 1, 1, none⟩) ql).trans q1
  replace ql := Nat.lt_of_lt_of_le ql b.size
  replace cc := cc.trans (b.mono cc.size)
  clear b
  go_wp2_with fail
  rw [rounds_succ]
  go_wp2_with fail
  refine (F1 _ cc).mono ?_
  rintro e w4 ⟨rfl, b⟩
  replace p0 := (b.cell (p := ⟨w.heap.size, 0, none⟩) pl).trans p0
  replace p1 := (b.cell (p := ⟨w.heap.size, 1, none⟩) pl).trans p1
  replace p2 := (b.cell (p := ⟨w.heap.size, 2, none⟩) pl).trans p2
  replace p3 := (b.cell (p := ⟨w.heap.size, 3, none⟩) pl).trans p3
  replace pl := Nat.lt_of_lt_of_le pl b.size
  replace q0 := (b.cell (p := ⟨w.heap.size + 1, 0, none⟩) ql).trans q0
  replace q1 := (b.cell (p := ⟨w.heap.size + 1, 1, none⟩) ql).trans q1
  replace ql := Nat.lt_of_lt_of_le ql b.size
  replace cc := cc.trans (b.mono cc.size)
  clear b
  go_wp2_with fail
  refine (R1 _ cc).mono ?_
  rintro e w5 ⟨rfl, b⟩
  replace p0 := (b.cell (p := ⟨w.heap.size, 0, none⟩) pl).trans p0
  replace p1 := (b.cell (p := ⟨w.heap.size, 1, none⟩) pl).trans p1
  replace p2 := (b.cell (p := ⟨w.heap.size, 2, none⟩) pl).trans p2
  replace p3 := (b.cell (p := ⟨w.heap.size, 3, none⟩) pl).trans p3
  replace pl := Nat.lt_of_lt_of_le pl b.size
  replace q0 := (b.cell (p := ⟨w.heap.size + 1, 0, none⟩) ql).trans q0
  replace q1 := (b.cell (p := ⟨w.heap.size + 1, 1, none⟩) ql).trans q1
  replace ql := Nat.lt_of_lt_of_le ql b.size
  replace cc := cc.trans (b.mono cc.size)
  clear b
  go_wp2_with fail
  rw [rounds_succ]
  go_wp2_with fail
  refine (alive5_any _).mono ?_
  rintro e w6 ⟨rfl, b⟩
  replace p0 := (b.cell (p := ⟨w.heap.size, 0, none⟩) pl).trans p0
  replace p1 := (b.cell (p := ⟨w.heap.size, 1, none⟩) pl).trans p1
  replace p2 := (b.cell (p := ⟨w.heap.size, 2, none⟩) pl).trans p2
  replace p3 := (b.cell (p := ⟨w.heap.size, 3, none⟩) pl).trans p3
  replace pl := Nat.lt_of_lt_of_le pl b.size
  replace q0 := (b.cell (p := ⟨w.heap.size + 1, 0, none⟩) ql).trans q0
  replace q1 := (b.cell (p := ⟨w.heap.size + 1, 1, none⟩) ql).trans q1
  replace ql := Nat.lt_of_lt_of_le ql b.size
  replace cc := cc.trans (b.mono cc.size)
  clear b
  go_wp2_with fail
  go_ret
  exact ⟨rfl, cc⟩

set_option maxRecDepth 100000 in
set_option maxHeartbeats 8000000 in
theorem RatOne_no10 {w : World} {b0 b1 : Bool} {A0 A1 B0 B1 D : Option Addr} {n0 c0 n1 c1 m0 d0 m1 d1 kk gg : Nat} (F0 : ∀ W : World, Below w.heap.size w W → Calls Try.prog 10 #[.agg #[.bool b0, .slice A0 n0 c0], .int .i64 4] W (GotV W (.bool true))) (t0 : decide ((4 : Int) < (m0 : Int)) = false) (z0 : ((m0 : Int) == 0) = false) (R0 : ∀ W : World, Below w.heap.size w W → Calls Try.prog 11 #[.slice B0 m0 d0] W (GotV W (.bool true))) (F1 : ∀ W : World, Below w.heap.size w W → Calls Try.prog 10 #[.agg #[.bool b1, .slice A1 n1 c1], .int .i64 4] W (GotV W (.bool true))) (t1 : decide ((4 : Int) < (m1 : Int)) = false) (z1 : ((m1 : Int) == 0) = false) (R1 : ∀ W : World, Below w.heap.size w W → Calls Try.prog 11 #[.slice B1 m1 d1] W (GotV W (.bool true))) (t2 : decide ((4 : Int) < (kk : Int)) = false) (z2 : ((kk : Int) == 0) = false) (R2 : ∀ W : World, Below w.heap.size w W → Calls Try.prog 11 #[.slice D kk gg] W (GotV W (.bool false))) :
    Calls Try.prog 8 #[.agg #[.bool b0, .slice A0 n0 c0, .bool b1, .slice A1 n1 c1], .agg #[.slice B0 m0 d0, .slice B1 m1 d1], .slice D kk gg] w fun e w' => e = .returned (.bool true) ∧ Below w.heap.size w w' := by
  have cc := Below.refl w.heap.size w
  go_enter Try.func8, Try.ntmps8
  go_wp2_with fail
  have bA : Below w.heap.size w ((w.alloc (.cells #[.bool b0, .slice A0 n0 c0, .bool b1, .slice A1 n1 c1] 45)).alloc (.cells #[.slice B0 m0 d0, .slice B1 m1 d1] 46)) := (((Below.refl _ w).alloc (by simp) _).alloc (by simp) _)
  replace cc := cc.trans (bA.mono cc.size)
  clear bA
  have p0 : ((w.alloc (.cells #[.bool b0, .slice A0 n0 c0, .bool b1, .slice A1 n1 c1] 45)).alloc (.cells #[.slice B0 m0 d0, .slice B1 m1 d1] 46)).cell? ⟨w.heap.size, 0, none⟩ = some (.bool b0) := by simp [go_sem]
  have p1 : ((w.alloc (.cells #[.bool b0, .slice A0 n0 c0, .bool b1, .slice A1 n1 c1] 45)).alloc (.cells #[.slice B0 m0 d0, .slice B1 m1 d1] 46)).cell? ⟨w.heap.size, 1, none⟩ = some (.slice A0 n0 c0) := by simp [go_sem]
  have p2 : ((w.alloc (.cells #[.bool b0, .slice A0 n0 c0, .bool b1, .slice A1 n1 c1] 45)).alloc (.cells #[.slice B0 m0 d0, .slice B1 m1 d1] 46)).cell? ⟨w.heap.size, 2, none⟩ = some (.bool b1) := by simp [go_sem]
  have p3 : ((w.alloc (.cells #[.bool b0, .slice A0 n0 c0, .bool b1, .slice A1 n1 c1] 45)).alloc (.cells #[.slice B0 m0 d0, .slice B1 m1 d1] 46)).cell? ⟨w.heap.size, 3, none⟩ = some (.slice A1 n1 c1) := by simp [go_sem]
  have pl : w.heap.size < ((w.alloc (.cells #[.bool b0, .slice A0 n0 c0, .bool b1, .slice A1 n1 c1] 45)).alloc (.cells #[.slice B0 m0 d0, .slice B1 m1 d1] 46)).heap.size := by simp <;> omega
  have q0 : ((w.alloc (.cells #[.bool b0, .slice A0 n0 c0, .bool b1, .slice A1 n1 c1] 45)).alloc (.cells #[.slice B0 m0 d0, .slice B1 m1 d1] 46)).cell? ⟨w.heap.size + 1, 0, none⟩ = some (.slice B0 m0 d0) := by simp [go_sem]
  have q1 : ((w.alloc (.cells #[.bool b0, .slice A0 n0 c0, .bool b1, .slice A1 n1 c1] 45)).alloc (.cells #[.slice B0 m0 d0, .slice B1 m1 d1] 46)).cell? ⟨w.heap.size + 1, 1, none⟩ = some (.slice B1 m1 d1) := by simp [go_sem]
  have ql : w.heap.size + 1 < ((w.alloc (.cells #[.bool b0, .slice A0 n0 c0, .bool b1, .slice A1 n1 c1] 45)).alloc (.cells #[.slice B0 m0 d0, .slice B1 m1 d1] 46)).heap.size := by simp <;> omega
  generalize (w.alloc (.cells #[.bool b0, .slice A0 n0 c0, .bool b1, .slice A1 n1 c1] 45)).alloc (.cells #[.slice B0 m0 d0, .slice B1 m1 d1] 46) = v1 at *
  refine wp_loop_rounds 3 ?_
  rw [rounds_succ]
  go_wp2_with fail
  refine (F0 _ cc).mono ?_
  rintro e w2 ⟨rfl, b⟩
  replace p0 := (b.cell (p := ⟨w.heap.size, 0, none⟩) pl).trans p0
  replace p1 := (b.cell (p := ⟨w.heap.size, 1, none⟩) pl).trans p1
  replace p2 := (b.cell (p := ⟨w.heap.size, 2, none⟩) pl).trans p2
  replace p3 := (b.cell (p := ⟨w.heap.size, 3, none⟩) pl).trans p3
  replace pl := Nat.lt_of_lt_of_le pl b.size
  replace q0 := (b.cell (p := ⟨w.heap.size + 1, 0, none⟩) ql).trans q0
  replace q1 := (b.cell (p := ⟨w.heap.size + 1, 1, none⟩) ql).trans q1
  replace ql := Nat.lt_of_lt_of_le ql b.size
  replace cc := cc.trans (b.mono cc.size)
  clear b
  go_wp2_with fail
  refine (R0 _ cc).mono ?_
  rintro e w3 ⟨rfl, b⟩
  replace p0 := (b.cell (p := ⟨w.heap.size, 0, none⟩) pl).trans p0
  replace p1 := (b.cell (p := ⟨w.heap.size, 1, none⟩) pl).trans p1
  replace p2 := (b.cell (p := ⟨w.heap.size, 2, none⟩) pl).trans p2
  replace p3 := (b.cell (p := ⟨w.heap.size, 3, none⟩) pl).trans p3
  replace pl := Nat.lt_of_lt_of_le pl b.size
  replace q0 := (b.cell (p := ⟨w.heap.size + 1, 0, none⟩) ql).trans q0
  replace q1 := (b.cell (p := ⟨w.heap.size + 1, 1, none⟩) ql).trans q1
  replace ql := Nat.lt_of_lt_of_le ql b.size
  replace cc := cc.trans (b.mono cc.size)
  clear b
  go_wp2_with fail
  rw [rounds_succ]
  go_wp2_with fail
  refine (F1 _ cc).mono ?_
  rintro e w4 ⟨rfl, b⟩
  replace p0 := (b.cell (p := ⟨w.heap.size, 0, none⟩) pl).trans p0
  replace p1 := (b.cell (p := ⟨w.heap.size, 1, none⟩) pl).trans p1
  replace p2 := (b.cell (p := ⟨w.heap.size, 2, none⟩) pl).trans p2
  replace p3 := (b.cell (p := ⟨w.heap.size, 3, none⟩) pl).trans p3
  replace pl := Nat.lt_of_lt_of_le pl b.size
  replace q0 := (b.cell (p := ⟨w.heap.size + 1, 0, none⟩) ql).trans q0
  replace q1 := (b.cell (p := ⟨w.heap.size + 1, 1, none⟩) ql).trans q1
  replace ql := Nat.lt_of_lt_of_le ql b.size
  replace cc := cc.trans (b.mono cc.size)
  clear b
  go_wp2_with fail
  refine (R1 _ cc).mono ?_
  rintro e w5 ⟨rfl, b⟩
  replace p0 := (b.cell (p := ⟨w.heap.size, 0, none⟩) pl).trans p0
  replace p1 := (b.cell (p := ⟨w.heap.size, 1, none⟩) pl).trans p1
  replace p2 := (b.cell (p := ⟨w.heap.size, 2, none⟩) pl).trans p2
  replace p3 := (b.cell (p := ⟨w.heap.size, 3, none⟩) pl).trans p3
  replace pl := Nat.lt_of_lt_of_le pl b.size
  replace q0 := (b.cell (p := ⟨w.heap.size + 1, 0, none⟩) ql).trans q0
  replace q1 := (b.cell (p := ⟨w.heap.size + 1, 1, none⟩) ql).trans q1
  replace ql := Nat.lt_of_lt_of_le ql b.size
  replace cc := cc.trans (b.mono cc.size)
  clear b
  go_wp2_with fail
  rw [rounds_succ]
  go_wp2_with fail
  refine (R2 _ cc).mono ?_
  rintro e w6 ⟨rfl, b⟩
  replace p0 := (b.cell (p := ⟨w.heap.size, 0, none⟩) pl).trans p0
  replace p1 := (b.cell (p := ⟨w.heap.size, 1, none⟩) pl).trans p1
  replace p2 := (b.cell (p := ⟨w.heap.size, 2, none⟩) pl).trans p2
  replace p3 := (b.cell (p := ⟨w.heap.size, 3, none⟩) pl).trans p3
  replace pl := Nat.lt_of_lt_of_le pl b.size
  replace q0 := (b.cell (p := ⟨w.heap.size + 1, 0, none⟩) ql).trans q0
  replace q1 := (b.cell (p := ⟨w.heap.size + 1, 1, none⟩) ql).trans q1
  replace ql := Nat.lt_of_lt_of_le ql b.size
  replace cc := cc.trans (b.mono cc.size)
  clear b
  go_wp2_with fail
  refine (alive5_any _).mono ?_
  rintro e w7 ⟨rfl, b⟩
  replace p0 := (b.cell (p := ⟨w.heap.size, 0, none⟩) pl).trans p0
  replace p1 := (b.cell (p := ⟨w.heap.size, 1, none⟩) pl).trans p1
  replace p2 := (b.cell (p := ⟨w.heap.size, 2, none⟩) pl).trans p2
  replace p3 := (b.cell (p := ⟨w.heap.size, 3, none⟩) pl).trans p3
  replace pl := Nat.lt_of_lt_of_le pl b.size
  replace q0 := (b.cell (p := ⟨w.heap.size + 1, 0, none⟩) ql).trans q0
  replace q1 := (b.cell (p := ⟨w.heap.size + 1, 1, none⟩) ql).trans q1
  replace ql := Nat.lt_of_lt_of_le ql b.size
  replace cc := cc.trans (b.mono cc.size)
  clear b
  go_wp2_with fail
  go_ret
  exact ⟨rfl, cc⟩

end Go.Proofs.Ytgnhioffamfakaa
