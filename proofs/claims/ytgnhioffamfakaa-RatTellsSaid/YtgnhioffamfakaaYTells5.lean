/-
  The walk of RatTells.
-/
import Derived.Test.YtgnhioffamfakaaA9
namespace Go.Proofs.Ytgnhioffamfakaa
open Go.RowKit
set_option linter.unusedVariables false
set_option linter.unusedSimpArgs false

set_option maxRecDepth 100000 in
set_option maxHeartbeats 8000000 in
theorem RatTells_no0 {w : World} {b0 b1 : Bool} {A0 B0 A1 A2 : Option Addr} {n0 c0 m0 d0 n1 c1 n2 c2 : Nat} (t0 : decide ((6 : Int) < (n0 : Int)) = true) :
    Calls Try.prog 3 #[.agg #[.bool b0, .slice A0 n0 c0, .slice B0 m0 d0], .agg #[.bool b1, .slice A1 n1 c1], .slice A2 n2 c2] w fun e w' => e = .returned (.bool true) ∧ Below w.heap.size w w' := by
  have cc := Below.refl w.heap.size w
  go_enter Try.func3, Try.ntmps3
  go_wp2_with fail
  have bA : Below w.heap.size w ((w.alloc (.cells #[.bool b0, .slice A0 n0 c0, .slice B0 m0 d0] 27)).alloc (.cells #[.bool b1, .slice A1 n1 c1] 25)) := (((Below.refl _ w).alloc (by simp) _).alloc (by simp) _)
  replace cc := cc.trans (bA.mono cc.size)
  clear bA
  have p0 : ((w.alloc (.cells #[.bool b0, .slice A0 n0 c0, .slice B0 m0 d0] 27)).alloc (.cells #[.bool b1, .slice A1 n1 c1] 25)).cell? ⟨w.heap.size, 0, none⟩ = some (.bool b0) := by simp [go_sem]
  have p1 : ((w.alloc (.cells #[.bool b0, .slice A0 n0 c0, .slice B0 m0 d0] 27)).alloc (.cells #[.bool b1, .slice A1 n1 c1] 25)).cell? ⟨w.heap.size, 1, none⟩ = some (.slice A0 n0 c0) := by simp [go_sem]
  have p2 : ((w.alloc (.cells #[.bool b0, .slice A0 n0 c0, .slice B0 m0 d0] 27)).alloc (.cells #[.bool b1, .slice A1 n1 c1] 25)).cell? ⟨w.heap.size, 2, none⟩ = some (.slice B0 m0 d0) := by simp [go_sem]
  have pl : w.heap.size < ((w.alloc (.cells #[.bool b0, .slice A0 n0 c0, .slice B0 m0 d0] 27)).alloc (.cells #[.bool b1, .slice A1 n1 c1] 25)).heap.size := by simp <;> omega
  have q0 : ((w.alloc (.cells #[.bool b0, .slice A0 n0 c0, .slice B0 m0 d0] 27)).alloc (.cells #[.bool b1, .slice A1 n1 c1] 25)).cell? ⟨w.heap.size + 1, 0, none⟩ = some (.bool b1) := by simp [go_sem]
  have q1 : ((w.alloc (.cells #[.bool b0, .slice A0 n0 c0, .slice B0 m0 d0] 27)).alloc (.cells #[.bool b1, .slice A1 n1 c1] 25)).cell? ⟨w.heap.size + 1, 1, none⟩ = some (.slice A1 n1 c1) := by simp [go_sem]
  have ql : w.heap.size + 1 < ((w.alloc (.cells #[.bool b0, .slice A0 n0 c0, .slice B0 m0 d0] 27)).alloc (.cells #[.bool b1, .slice A1 n1 c1] 25)).heap.size := by simp <;> omega
  generalize (w.alloc (.cells #[.bool b0, .slice A0 n0 c0, .slice B0 m0 d0] 27)).alloc (.cells #[.bool b1, .slice A1 n1 c1] 25) = v1 at *
  refine (alive5_any _).mono ?_
  rintro e w2 ⟨rfl, b⟩
  replace p0 := (b.cell (p := ⟨w.heap.size, 0, none⟩) pl).trans p0
  replace p1 := (b.cell (p := ⟨w.heap.size, 1, none⟩) pl).trans p1
  replace p2 := (b.cell (p := ⟨w.heap.size, 2, none⟩) pl).trans p2
  replace pl := Nat.lt_of_lt_of_le pl b.size
  replace q0 := (b.cell (p := ⟨w.heap.size + 1, 0, none⟩) ql).trans q0
  replace q1 := (b.cell (p := ⟨w.heap.size + 1, 1, none⟩) ql).trans q1
  replace ql := Nat.lt_of_lt_of_le ql b.size
  replace cc := cc.trans (b.mono cc.size)
  clear b
  go_wp2_with fail
  go_ret
  exact ⟨rfl, cc⟩

set_option maxRecDepth 100000 in
set_option maxHeartbeats 8000000 in
theorem RatTells_no1 {w : World} {b0 b1 : Bool} {A0 B0 A1 A2 : Option Addr} {n0 c0 m0 d0 n1 c1 n2 c2 : Nat} (t0 : decide ((6 : Int) < (n0 : Int)) = false) (t1 : decide ((6 : Int) < (m0 : Int)) = true) :
    Calls Try.prog 3 #[.agg #[.bool b0, .slice A0 n0 c0, .slice B0 m0 d0], .agg #[.bool b1, .slice A1 n1 c1], .slice A2 n2 c2] w fun e w' => e = .returned (.bool true) ∧ Below w.heap.size w w' := by
  have cc := Below.refl w.heap.size w
  go_enter Try.func3, Try.ntmps3
  go_wp2_with fail
  have bA : Below w.heap.size w ((w.alloc (.cells #[.bool b0, .slice A0 n0 c0, .slice B0 m0 d0] 27)).alloc (.cells #[.bool b1, .slice A1 n1 c1] 25)) := (((Below.refl _ w).alloc (by simp) _).alloc (by simp) _)
  replace cc := cc.trans (bA.mono cc.size)
  clear bA
  have p0 : ((w.alloc (.cells #[.bool b0, .slice A0 n0 c0, .slice B0 m0 d0] 27)).alloc (.cells #[.bool b1, .slice A1 n1 c1] 25)).cell? ⟨w.heap.size, 0, none⟩ = some (.bool b0) := by simp [go_sem]
  have p1 : ((w.alloc (.cells #[.bool b0, .slice A0 n0 c0, .slice B0 m0 d0] 27)).alloc (.cells #[.bool b1, .slice A1 n1 c1] 25)).cell? ⟨w.heap.size, 1, none⟩ = some (.slice A0 n0 c0) := by simp [go_sem]
  have p2 : ((w.alloc (.cells #[.bool b0, .slice A0 n0 c0, .slice B0 m0 d0] 27)).alloc (.cells #[.bool b1, .slice A1 n1 c1] 25)).cell? ⟨w.heap.size, 2, none⟩ = some (.slice B0 m0 d0) := by simp [go_sem]
  have pl : w.heap.size < ((w.alloc (.cells #[.bool b0, .slice A0 n0 c0, .slice B0 m0 d0] 27)).alloc (.cells #[.bool b1, .slice A1 n1 c1] 25)).heap.size := by simp <;> omega
  have q0 : ((w.alloc (.cells #[.bool b0, .slice A0 n0 c0, .slice B0 m0 d0] 27)).alloc (.cells #[.bool b1, .slice A1 n1 c1] 25)).cell? ⟨w.heap.size + 1, 0, none⟩ = some (.bool b1) := by simp [go_sem]
  have q1 : ((w.alloc (.cells #[.bool b0, .slice A0 n0 c0, .slice B0 m0 d0] 27)).alloc (.cells #[.bool b1, .slice A1 n1 c1] 25)).cell? ⟨w.heap.size + 1, 1, none⟩ = some (.slice A1 n1 c1) := by simp [go_sem]
  have ql : w.heap.size + 1 < ((w.alloc (.cells #[.bool b0, .slice A0 n0 c0, .slice B0 m0 d0] 27)).alloc (.cells #[.bool b1, .slice A1 n1 c1] 25)).heap.size := by simp <;> omega
  generalize (w.alloc (.cells #[.bool b0, .slice A0 n0 c0, .slice B0 m0 d0] 27)).alloc (.cells #[.bool b1, .slice A1 n1 c1] 25) = v1 at *
  refine (alive5_any _).mono ?_
  rintro e w2 ⟨rfl, b⟩
  replace p0 := (b.cell (p := ⟨w.heap.size, 0, none⟩) pl).trans p0
  replace p1 := (b.cell (p := ⟨w.heap.size, 1, none⟩) pl).trans p1
  replace p2 := (b.cell (p := ⟨w.heap.size, 2, none⟩) pl).trans p2
  replace pl := Nat.lt_of_lt_of_le pl b.size
  replace q0 := (b.cell (p := ⟨w.heap.size + 1, 0, none⟩) ql).trans q0
  replace q1 := (b.cell (p := ⟨w.heap.size + 1, 1, none⟩) ql).trans q1
  replace ql := Nat.lt_of_lt_of_le ql b.size
  replace cc := cc.trans (b.mono cc.size)
  clear b
  go_wp2_with fail
  go_ret
  exact ⟨rfl, cc⟩

set_option maxRecDepth 100000 in
set_option maxHeartbeats 8000000 in
theorem RatTells_no2 {w : World} {b0 b1 : Bool} {A0 B0 A1 A2 : Option Addr} {n0 c0 m0 d0 n1 c1 n2 c2 : Nat} (t0 : decide ((6 : Int) < (n0 : Int)) = false) (t1 : decide ((6 : Int) < (m0 : Int)) = false) (G1 : ∀ W : World, Below w.heap.size w W → Calls Try.prog 10 #[.agg #[.bool b1, .slice A1 n1 c1], .int .i64 6] W (GotV W (.bool false))) :
    Calls Try.prog 3 #[.agg #[.bool b0, .slice A0 n0 c0, .slice B0 m0 d0], .agg #[.bool b1, .slice A1 n1 c1], .slice A2 n2 c2] w fun e w' => e = .returned (.bool true) ∧ Below w.heap.size w w' := by
  have cc := Below.refl w.heap.size w
  go_enter Try.func3, Try.ntmps3
  go_wp2_with fail
  have bA : Below w.heap.size w ((w.alloc (.cells #[.bool b0, .slice A0 n0 c0, .slice B0 m0 d0] 27)).alloc (.cells #[.bool b1, .slice A1 n1 c1] 25)) := (((Below.refl _ w).alloc (by simp) _).alloc (by simp) _)
  replace cc := cc.trans (bA.mono cc.size)
  clear bA
  have p0 : ((w.alloc (.cells #[.bool b0, .slice A0 n0 c0, .slice B0 m0 d0] 27)).alloc (.cells #[.bool b1, .slice A1 n1 c1] 25)).cell? ⟨w.heap.size, 0, none⟩ = some (.bool b0) := by simp [go_sem]
  have p1 : ((w.alloc (.cells #[.bool b0, .slice A0 n0 c0, .slice B0 m0 d0] 27)).alloc (.cells #[.bool b1, .slice A1 n1 c1] 25)).cell? ⟨w.heap.size, 1, none⟩ = some (.slice A0 n0 c0) := by simp [go_sem]
  have p2 : ((w.alloc (.cells #[.bool b0, .slice A0 n0 c0, .slice B0 m0 d0] 27)).alloc (.cells #[.bool b1, .slice A1 n1 c1] 25)).cell? ⟨w.heap.size, 2, none⟩ = some (.slice B0 m0 d0) := by simp [go_sem]
  have pl : w.heap.size < ((w.alloc (.cells #[.bool b0, .slice A0 n0 c0, .slice B0 m0 d0] 27)).alloc (.cells #[.bool b1, .slice A1 n1 c1] 25)).heap.size := by simp <;> omega
  have q0 : ((w.alloc (.cells #[.bool b0, .slice A0 n0 c0, .slice B0 m0 d0] 27)).alloc (.cells #[.bool b1, .slice A1 n1 c1] 25)).cell? ⟨w.heap.size + 1, 0, none⟩ = some (.bool b1) := by simp [go_sem]
  have q1 : ((w.alloc (.cells #[.bool b0, .slice A0 n0 c0, .slice B0 m0 d0] 27)).alloc (.cells #[.bool b1, .slice A1 n1 c1] 25)).cell? ⟨w.heap.size + 1, 1, none⟩ = some (.slice A1 n1 c1) := by simp [go_sem]
  have ql : w.heap.size + 1 < ((w.alloc (.cells #[.bool b0, .slice A0 n0 c0, .slice B0 m0 d0] 27)).alloc (.cells #[.bool b1, .slice A1 n1 c1] 25)).heap.size := by simp <;> omega
  generalize (w.alloc (.cells #[.bool b0, .slice A0 n0 c0, .slice B0 m0 d0] 27)).alloc (.cells #[.bool b1, .slice A1 n1 c1] 25) = v1 at *
  refine (G1 _ cc).mono ?_
  rintro e w2 ⟨rfl, b⟩
  replace p0 := (b.cell (p := ⟨w.heap.size, 0, none⟩) pl).trans p0
  replace p1 := (b.cell (p := ⟨w.heap.size, 1, none⟩) pl).trans p1
  replace p2 := (b.cell (p := ⟨w.heap.size, 2, none⟩) pl).trans p2
  replace pl := Nat.lt_of_lt_of_le pl b.size
  replace q0 := (b.cell (p := ⟨w.heap.size + 1, 0, none⟩) ql).trans q0
  replace q1 := (b.cell (p := ⟨w.heap.size + 1, 1, none⟩) ql).trans q1
  replace ql := Nat.lt_of_lt_of_le ql b.size
  replace cc := cc.trans (b.mono cc.size)
  clear b
  go_wp2_with fail
  refine (alive5_any _).mono ?_
  rintro e w3 ⟨rfl, b⟩
  replace p0 := (b.cell (p := ⟨w.heap.size, 0, none⟩) pl).trans p0
  replace p1 := (b.cell (p := ⟨w.heap.size, 1, none⟩) pl).trans p1
  replace p2 := (b.cell (p := ⟨w.heap.size, 2, none⟩) pl).trans p2
  replace pl := Nat.lt_of_lt_of_le pl b.size
  replace q0 := (b.cell (p := ⟨w.heap.size + 1, 0, none⟩) ql).trans q0
  replace q1 := (b.cell (p := ⟨w.heap.size + 1, 1, none⟩) ql).trans q1
  replace ql := Nat.lt_of_lt_of_le ql b.size
  replace cc := cc.trans (b.mono cc.size)
  clear b
  go_wp2_with fail
  go_ret
  exact ⟨rfl, cc⟩

set_option maxRecDepth 100000 in
set_option maxHeartbeats 8000000 in
theorem RatTells_no3 {w : World} {b0 b1 : Bool} {A0 B0 A1 A2 : Option Addr} {n0 c0 m0 d0 n1 c1 n2 c2 : Nat} (t0 : decide ((6 : Int) < (n0 : Int)) = false) (t1 : decide ((6 : Int) < (m0 : Int)) = false) (G1 : ∀ W : World, Below w.heap.size w W → Calls Try.prog 10 #[.agg #[.bool b1, .slice A1 n1 c1], .int .i64 6] W (GotV W (.bool true))) (t3 : decide ((6 : Int) < (n2 : Int)) = true) :
    Calls Try.prog 3 #[.agg #[.bool b0, .slice A0 n0 c0, .slice B0 m0 d0], .agg #[.bool b1, .slice A1 n1 c1], .slice A2 n2 c2] w fun e w' => e = .returned (.bool true) ∧ Below w.heap.size w w' := by
  have cc := Below.refl w.heap.size w
  go_enter Try.func3, Try.ntmps3
  go_wp2_with fail
  have bA : Below w.heap.size w ((w.alloc (.cells #[.bool b0, .slice A0 n0 c0, .slice B0 m0 d0] 27)).alloc (.cells #[.bool b1, .slice A1 n1 c1] 25)) := (((Below.refl _ w).alloc (by simp) _).alloc (by simp) _)
  replace cc := cc.trans (bA.mono cc.size)
  clear bA
  have p0 : ((w.alloc (.cells #[.bool b0, .slice A0 n0 c0, .slice B0 m0 d0] 27)).alloc (.cells #[.bool b1, .slice A1 n1 c1] 25)).cell? ⟨w.heap.size, 0, none⟩ = some (.bool b0) := by simp [go_sem]
  have p1 : ((w.alloc (.cells #[.bool b0, .slice A0 n0 c0, .slice B0 m0 d0] 27)).alloc (.cells #[.bool b1, .slice A1 n1 c1] 25)).cell? ⟨w.heap.size, 1, none⟩ = some (.slice A0 n0 c0) := by simp [go_sem]
  have p2 : ((w.alloc (.cells #[.bool b0, .slice A0 n0 c0, .slice B0 m0 d0] 27)).alloc (.cells #[.bool b1, .slice A1 n1 c1] 25)).cell? ⟨w.heap.size, 2, none⟩ = some (.slice B0 m0 d0) := by simp [go_sem]
  have pl : w.heap.size < ((w.alloc (.cells #[.bool b0, .slice A0 n0 c0, .slice B0 m0 d0] 27)).alloc (.cells #[.bool b1, .slice A1 n1 c1] 25)).heap.size := by simp <;> omega
  have q0 : ((w.alloc (.cells #[.bool b0, .slice A0 n0 c0, .slice B0 m0 d0] 27)).alloc (.cells #[.bool b1, .slice A1 n1 c1] 25)).cell? ⟨w.heap.size + 1, 0, none⟩ = some (.bool b1) := by simp [go_sem]
  have q1 : ((w.alloc (.cells #[.bool b0, .slice A0 n0 c0, .slice B0 m0 d0] 27)).alloc (.cells #[.bool b1, .slice A1 n1 c1] 25)).cell? ⟨w.heap.size + 1, 1, none⟩ = some (.slice A1 n1 c1) := by simp [go_sem]
  have ql : w.heap.size + 1 < ((w.alloc (.cells #[.bool b0, .slice A0 n0 c0, .slice B0 m0 d0] 27)).alloc (.cells #[.bool b1, .slice A1 n1 c1] 25)).heap.size := by simp <;> omega
  generalize (w.alloc (.cells #[.bool b0, .slice A0 n0 c0, .slice B0 m0 d0] 27)).alloc (.cells #[.bool b1, .slice A1 n1 c1] 25) = v1 at *
  refine (G1 _ cc).mono ?_
  rintro e w2 ⟨rfl, b⟩
  replace p0 := (b.cell (p := ⟨w.heap.size, 0, none⟩) pl).trans p0
  replace p1 := (b.cell (p := ⟨w.heap.size, 1, none⟩) pl).trans p1
  replace p2 := (b.cell (p := ⟨w.heap.size, 2, none⟩) pl).trans p2
  replace pl := Nat.lt_of_lt_of_le pl b.size
  replace q0 := (b.cell (p := ⟨w.heap.size + 1, 0, none⟩) ql).trans q0
  replace q1 := (b.cell (p := ⟨w.heap.size + 1, 1, none⟩) ql).trans q1
  replace ql := Nat.lt_of_lt_of_le ql b.size
  replace cc := cc.trans (b.mono cc.size)
  clear b
  go_wp2_with fail
  refine (alive5_any _).mono ?_
  rintro e w3 ⟨rfl, b⟩
  replace p0 := (b.cell (p := ⟨w.heap.size, 0, none⟩) pl).trans p0
  replace p1 := (b.cell (p := ⟨w.heap.size, 1, none⟩) pl).trans p1
  replace p2 := (b.cell (p := ⟨w.heap.size, 2, none⟩) pl).trans p2
  replace pl := Nat.lt_of_lt_of_le pl b.size
  replace q0 := (b.cell (p := ⟨w.heap.size + 1, 0, none⟩) ql).trans q0
  replace q1 := (b.cell (p := ⟨w.heap.size + 1, 1, none⟩) ql).trans q1
  replace ql := Nat.lt_of_lt_of_le ql b.size
  replace cc := cc.trans (b.mono cc.size)
  clear b
  go_wp2_with fail
  go_ret
  exact ⟨rfl, cc⟩

set_option maxRecDepth 100000 in
set_option maxHeartbeats 8000000 in
theorem RatTells_no4 {w : World} {b0 b1 : Bool} {A0 B0 A1 A2 : Option Addr} {n0 c0 m0 d0 n1 c1 n2 c2 : Nat} (t0 : decide ((6 : Int) < (n0 : Int)) = false) (t1 : decide ((6 : Int) < (m0 : Int)) = false) (G1 : ∀ W : World, Below w.heap.size w W → Calls Try.prog 10 #[.agg #[.bool b1, .slice A1 n1 c1], .int .i64 6] W (GotV W (.bool true))) (t3 : decide ((6 : Int) < (n2 : Int)) = false) (G2 : ∀ W : World, Below w.heap.size w W → Calls Try.prog 11 #[.slice A2 n2 c2] W (GotV W (.bool false))) :
    Calls Try.prog 3 #[.agg #[.bool b0, .slice A0 n0 c0, .slice B0 m0 d0], .agg #[.bool b1, .slice A1 n1 c1], .slice A2 n2 c2] w fun e w' => e = .returned (.bool true) ∧ Below w.heap.size w w' := by
  have cc := Below.refl w.heap.size w
  go_enter Try.func3, Try.ntmps3
  go_wp2_with fail
  have bA : Below w.heap.size w ((w.alloc (.cells #[.bool b0, .slice A0 n0 c0, .slice B0 m0 d0] 27)).alloc (.cells #[.bool b1, .slice A1 n1 c1] 25)) := (((Below.refl _ w).alloc (by simp) _).alloc (by simp) _)
  replace cc := cc.trans (bA.mono cc.size)
  clear bA
  have p0 : ((w.alloc (.cells #[.bool b0, .slice A0 n0 c0, .slice B0 m0 d0] 27)).alloc (.cells #[.bool b1, .slice A1 n1 c1] 25)).cell? ⟨w.heap.size, 0, none⟩ = some (.bool b0) := by simp [go_sem]
  have p1 : ((w.alloc (.cells #[.bool b0, .slice A0 n0 c0, .slice B0 m0 d0] 27)).alloc (.cells #[.bool b1, .slice A1 n1 c1] 25)).cell? ⟨w.heap.size, 1, none⟩ = some (.slice A0 n0 c0) := by simp [go_sem]
  have p2 : ((w.alloc (.cells #[.bool b0, .slice A0 n0 c0, .slice B0 m0 d0] 27)).alloc (.cells #[.bool b1, .slice A1 n1 c1] 25)).cell? ⟨w.heap.size, 2, none⟩ = some (.slice B0 m0 d0) := by simp [go_sem]
  have pl : w.heap.size < ((w.alloc (.cells #[.bool b0, .slice A0 n0 c0, .slice B0 m0 d0] 27)).alloc (.cells #[.bool b1, .slice A1 n1 c1] 25)).heap.size := by simp <;> omega
  have q0 : ((w.alloc (.cells #[.bool b0, .slice A0 n0 c0, .slice B0 m0 d0] 27)).alloc (.cells #[.bool b1, .slice A1 n1 c1] 25)).cell? ⟨w.heap.size + 1, 0, none⟩ = some (.bool b1) := by simp [go_sem]
  have q1 : ((w.alloc (.cells #[.bool b0, .slice A0 n0 c0, .slice B0 m0 d0] 27)).alloc (.cells #[.bool b1, .slice A1 n1 c1] 25)).cell? ⟨w.heap.size + 1, 1, none⟩ = some (.slice A1 n1 c1) := by simp [go_sem]
  have ql : w.heap.size + 1 < ((w.alloc (.cells #[.bool b0, .slice A0 n0 c0, .slice B0 m0 d0] 27)).alloc (.cells #[.bool b1, .slice A1 n1 c1] 25)).heap.size := by simp <;> omega
  generalize (w.alloc (.cells #[.bool b0, .slice A0 n0 c0, .slice B0 m0 d0] 27)).alloc (.cells #[.bool b1, .slice A1 n1 c1] 25) = v1 at *
  refine (G1 _ cc).mono ?_
  rintro e w2 ⟨rfl, b⟩
  replace p0 := (b.cell (p := ⟨w.heap.size, 0, none⟩) pl).trans p0
  replace p1 := (b.cell (p := ⟨w.heap.size, 1, none⟩) pl).trans p1
  replace p2 := (b.cell (p := ⟨w.heap.size, 2, none⟩) pl).trans p2
  replace pl := Nat.lt_of_lt_of_le pl b.size
  replace q0 := (b.cell (p := ⟨w.heap.size + 1, 0, none⟩) ql).trans q0
  replace q1 := (b.cell (p := ⟨w.heap.size + 1, 1, none⟩) ql).trans q1
  replace ql := Nat.lt_of_lt_of_le ql b.size
  replace cc := cc.trans (b.mono cc.size)
  clear b
  go_wp2_with fail
  refine (G2 _ cc).mono ?_
  rintro e w3 ⟨rfl, b⟩
  replace p0 := (b.cell (p := ⟨w.heap.size, 0, none⟩) pl).trans p0
  replace p1 := (b.cell (p := ⟨w.heap.size, 1, none⟩) pl).trans p1
  replace p2 := (b.cell (p := ⟨w.heap.size, 2, none⟩) pl).trans p2
  replace pl := Nat.lt_of_lt_of_le pl b.size
  replace q0 := (b.cell (p := ⟨w.heap.size + 1, 0, none⟩) ql).trans q0
  replace q1 := (b.cell (p := ⟨w.heap.size + 1, 1, none⟩) ql).trans q1
  replace ql := Nat.lt_of_lt_of_le ql b.size
  replace cc := cc.trans (b.mono cc.size)
  clear b
  go_wp2_with fail
  refine (alive5_any _).mono ?_
  rintro e w4 ⟨rfl, b⟩
  replace p0 := (b.cell (p := ⟨w.heap.size, 0, none⟩) pl).trans p0
  replace p1 := (b.cell (p := ⟨w.heap.size, 1, none⟩) pl).trans p1
  replace p2 := (b.cell (p := ⟨w.heap.size, 2, none⟩) pl).trans p2
  replace pl := Nat.lt_of_lt_of_le pl b.size
  replace q0 := (b.cell (p := ⟨w.heap.size + 1, 0, none⟩) ql).trans q0
  replace q1 := (b.cell (p := ⟨w.heap.size + 1, 1, none⟩) ql).trans q1
  replace ql := Nat.lt_of_lt_of_le ql b.size
  replace cc := cc.trans (b.mono cc.size)
  clear b
  go_wp2_with fail
  go_ret
  exact ⟨rfl, cc⟩

set_option maxRecDepth 100000 in
set_option maxHeartbeats 8000000 in
theorem RatTells_okI {w : World} {b0 b1 : Bool} {A0 B0 A1 A2 : Option Addr} {n0 c0 m0 d0 n1 c1 n2 c2 : Nat} (t0 : decide ((6 : Int) < (n0 : Int)) = false) (t1 : decide ((6 : Int) < (m0 : Int)) = false) (G1 : ∀ W : World, Below w.heap.size w W → Calls Try.prog 10 #[.agg #[.bool b1, .slice A1 n1 c1], .int .i64 6] W (GotV W (.bool true))) (t3 : decide ((6 : Int) < (n2 : Int)) = false) (G2 : ∀ W : World, Below w.heap.size w W → Calls Try.prog 11 #[.slice A2 n2 c2] W (GotV W (.bool true))) (r : Bool) (GA : ∀ W : World, Below w.heap.size w W → Calls Try.prog 16 #[.agg #[.bool b0, .slice A0 n0 c0, .slice B0 m0 d0]] W (GotV W (.bool r))) (GB : ∀ W : World, Below w.heap.size w W → Calls Try.prog 17 #[.agg #[.bool b0, .slice A0 n0 c0, .slice B0 m0 d0]] W (GotV W (.bool r))) {z : Int} {y : Nat} (h1 : Zn w b1 A1 n1 c1 z) (l1 : (limbs z.natAbs).length ≤ 6) (h2 : Num w A2 n2 c2 y) (l2 : (limbs y).length ≤ 6) (hz : I64 z) (hy : y ≠ 0) :
    Calls Try.prog 3 #[.agg #[.bool b0, .slice A0 n0 c0, .slice B0 m0 d0], .agg #[.bool b1, .slice A1 n1 c1], .slice A2 n2 c2] w fun e w' => e = .returned (.bool true) ∧ Below w.heap.size w w' := by
  have k1 : (limbs z.natAbs).length ≤ 40 := by omega
  have k2 : (limbs y).length ≤ 40 := by omega
  have su : Sz (mkRat z y) 6 := sz_mk hy l1 l2
  have sn : Sz ((z : Int) : Rat) 1 := sz_of (len_one hz.abs)
  have cc := Below.refl w.heap.size w
  go_enter Try.func3, Try.ntmps3
  go_wp2_with fail
  have bA : Below w.heap.size w ((w.alloc (.cells #[.bool b0, .slice A0 n0 c0, .slice B0 m0 d0] 27)).alloc (.cells #[.bool b1, .slice A1 n1 c1] 25)) := (((Below.refl _ w).alloc (by simp) _).alloc (by simp) _)
  replace h1 := h1.on bA
  replace h2 := h2.on bA
  replace cc := cc.trans (bA.mono cc.size)
  clear bA
  have p0 : ((w.alloc (.cells #[.bool b0, .slice A0 n0 c0, .slice B0 m0 d0] 27)).alloc (.cells #[.bool b1, .slice A1 n1 c1] 25)).cell? ⟨w.heap.size, 0, none⟩ = some (.bool b0) := by simp [go_sem]
  have p1 : ((w.alloc (.cells #[.bool b0, .slice A0 n0 c0, .slice B0 m0 d0] 27)).alloc (.cells #[.bool b1, .slice A1 n1 c1] 25)).cell? ⟨w.heap.size, 1, none⟩ = some (.slice A0 n0 c0) := by simp [go_sem]
  have p2 : ((w.alloc (.cells #[.bool b0, .slice A0 n0 c0, .slice B0 m0 d0] 27)).alloc (.cells #[.bool b1, .slice A1 n1 c1] 25)).cell? ⟨w.heap.size, 2, none⟩ = some (.slice B0 m0 d0) := by simp [go_sem]
  have pl : w.heap.size < ((w.alloc (.cells #[.bool b0, .slice A0 n0 c0, .slice B0 m0 d0] 27)).alloc (.cells #[.bool b1, .slice A1 n1 c1] 25)).heap.size := by simp <;> omega
  have q0 : ((w.alloc (.cells #[.bool b0, .slice A0 n0 c0, .slice B0 m0 d0] 27)).alloc (.cells #[.bool b1, .slice A1 n1 c1] 25)).cell? ⟨w.heap.size + 1, 0, none⟩ = some (.bool b1) := by simp [go_sem]
  have q1 : ((w.alloc (.cells #[.bool b0, .slice A0 n0 c0, .slice B0 m0 d0] 27)).alloc (.cells #[.bool b1, .slice A1 n1 c1] 25)).cell? ⟨w.heap.size + 1, 1, none⟩ = some (.slice A1 n1 c1) := by simp [go_sem]
  have ql : w.heap.size + 1 < ((w.alloc (.cells #[.bool b0, .slice A0 n0 c0, .slice B0 m0 d0] 27)).alloc (.cells #[.bool b1, .slice A1 n1 c1] 25)).heap.size := by simp <;> omega
  generalize (w.alloc (.cells #[.bool b0, .slice A0 n0 c0, .slice B0 m0 d0] 27)).alloc (.cells #[.bool b1, .slice A1 n1 c1] 25) = v1 at *
  refine (G1 _ cc).mono ?_
  rintro e w2 ⟨rfl, b⟩
  replace h1 := h1.on b
  replace h2 := h2.on b
  replace p0 := (b.cell (p := ⟨w.heap.size, 0, none⟩) pl).trans p0
  replace p1 := (b.cell (p := ⟨w.heap.size, 1, none⟩) pl).trans p1
  replace p2 := (b.cell (p := ⟨w.heap.size, 2, none⟩) pl).trans p2
  replace pl := Nat.lt_of_lt_of_le pl b.size
  replace q0 := (b.cell (p := ⟨w.heap.size + 1, 0, none⟩) ql).trans q0
  replace q1 := (b.cell (p := ⟨w.heap.size + 1, 1, none⟩) ql).trans q1
  replace ql := Nat.lt_of_lt_of_le ql b.size
  replace cc := cc.trans (b.mono cc.size)
  clear b
  go_wp2_with fail
  refine (G2 _ cc).mono ?_
  rintro e w3 ⟨rfl, b⟩
  replace h1 := h1.on b
  replace h2 := h2.on b
  replace p0 := (b.cell (p := ⟨w.heap.size, 0, none⟩) pl).trans p0
  replace p1 := (b.cell (p := ⟨w.heap.size, 1, none⟩) pl).trans p1
  replace p2 := (b.cell (p := ⟨w.heap.size, 2, none⟩) pl).trans p2
  replace pl := Nat.lt_of_lt_of_le pl b.size
  replace q0 := (b.cell (p := ⟨w.heap.size + 1, 0, none⟩) ql).trans q0
  replace q1 := (b.cell (p := ⟨w.heap.size + 1, 1, none⟩) ql).trans q1
  replace ql := Nat.lt_of_lt_of_le ql b.size
  replace cc := cc.trans (b.mono cc.size)
  clear b
  go_wp2_with fail
  refine (qmake_N h1 h2 hy k1 k2).mono ?_
  rintro e w4 ⟨bx, Ax, nx, cx, Bx, mx, dx, rfl, hx, b⟩
  replace h1 := h1.on b
  replace h2 := h2.on b
  replace p0 := (b.cell (p := ⟨w.heap.size, 0, none⟩) pl).trans p0
  replace p1 := (b.cell (p := ⟨w.heap.size, 1, none⟩) pl).trans p1
  replace p2 := (b.cell (p := ⟨w.heap.size, 2, none⟩) pl).trans p2
  replace pl := Nat.lt_of_lt_of_le pl b.size
  replace q0 := (b.cell (p := ⟨w.heap.size + 1, 0, none⟩) ql).trans q0
  replace q1 := (b.cell (p := ⟨w.heap.size + 1, 1, none⟩) ql).trans q1
  replace ql := Nat.lt_of_lt_of_le ql b.size
  replace cc := cc.trans (b.mono cc.size)
  clear b
  go_wp2_with fail
  have bA := below_one w4 (.cells #[.bool bx, .slice Ax nx cx, .slice Bx mx dx] 27)
  replace h1 := h1.on bA
  replace h2 := h2.on bA
  replace hx := hx.on bA
  replace p0 := (bA.cell (p := ⟨w.heap.size, 0, none⟩) pl).trans p0
  replace p1 := (bA.cell (p := ⟨w.heap.size, 1, none⟩) pl).trans p1
  replace p2 := (bA.cell (p := ⟨w.heap.size, 2, none⟩) pl).trans p2
  replace pl := Nat.lt_of_lt_of_le pl bA.size
  replace q0 := (bA.cell (p := ⟨w.heap.size + 1, 0, none⟩) ql).trans q0
  replace q1 := (bA.cell (p := ⟨w.heap.size + 1, 1, none⟩) ql).trans q1
  replace ql := Nat.lt_of_lt_of_le ql bA.size
  replace cc := cc.trans (bA.mono cc.size)
  clear bA
  have x0 : (w4.alloc (.cells #[.bool bx, .slice Ax nx cx, .slice Bx mx dx] 27)).cell? ⟨w4.heap.size, 0, none⟩ = some (.bool bx) := by simp [go_sem]
  have x1 : (w4.alloc (.cells #[.bool bx, .slice Ax nx cx, .slice Bx mx dx] 27)).cell? ⟨w4.heap.size, 1, none⟩ = some (.slice Ax nx cx) := by simp [go_sem]
  have x2 : (w4.alloc (.cells #[.bool bx, .slice Ax nx cx, .slice Bx mx dx] 27)).cell? ⟨w4.heap.size, 2, none⟩ = some (.slice Bx mx dx) := by simp [go_sem]
  have xl : w4.heap.size < (w4.alloc (.cells #[.bool bx, .slice Ax nx cx, .slice Bx mx dx] 27)).heap.size := by simp
  generalize w4.alloc (.cells #[.bool bx, .slice Ax nx cx, .slice Bx mx dx] 27) = v5 at *
  refine (rtmake_N h1 h2 hy (Nat.le_trans k1 (by omega)) (Nat.le_trans k2 (by omega))).mono ?_
  rintro e w6 ⟨bv, Av, nv, cv, Bv, mv, dv, rfl, hv, b⟩
  replace h1 := h1.on b
  replace h2 := h2.on b
  replace hx := hx.on b
  replace p0 := (b.cell (p := ⟨w.heap.size, 0, none⟩) pl).trans p0
  replace p1 := (b.cell (p := ⟨w.heap.size, 1, none⟩) pl).trans p1
  replace p2 := (b.cell (p := ⟨w.heap.size, 2, none⟩) pl).trans p2
  replace pl := Nat.lt_of_lt_of_le pl b.size
  replace q0 := (b.cell (p := ⟨w.heap.size + 1, 0, none⟩) ql).trans q0
  replace q1 := (b.cell (p := ⟨w.heap.size + 1, 1, none⟩) ql).trans q1
  replace ql := Nat.lt_of_lt_of_le ql b.size
  replace x0 := (b.cell (p := ⟨w4.heap.size, 0, none⟩) xl).trans x0
  replace x1 := (b.cell (p := ⟨w4.heap.size, 1, none⟩) xl).trans x1
  replace x2 := (b.cell (p := ⟨w4.heap.size, 2, none⟩) xl).trans x2
  replace xl := Nat.lt_of_lt_of_le xl b.size
  replace cc := cc.trans (b.mono cc.size)
  clear b
  go_wp2_with fail
  have bA := below_one w6 (.cells #[.bool bv, .slice Av nv cv, .slice Bv mv dv] 27)
  replace h1 := h1.on bA
  replace h2 := h2.on bA
  replace hx := hx.on bA
  replace hv := hv.on bA
  replace p0 := (bA.cell (p := ⟨w.heap.size, 0, none⟩) pl).trans p0
  replace p1 := (bA.cell (p := ⟨w.heap.size, 1, none⟩) pl).trans p1
  replace p2 := (bA.cell (p := ⟨w.heap.size, 2, none⟩) pl).trans p2
  replace pl := Nat.lt_of_lt_of_le pl bA.size
  replace q0 := (bA.cell (p := ⟨w.heap.size + 1, 0, none⟩) ql).trans q0
  replace q1 := (bA.cell (p := ⟨w.heap.size + 1, 1, none⟩) ql).trans q1
  replace ql := Nat.lt_of_lt_of_le ql bA.size
  replace x0 := (bA.cell (p := ⟨w4.heap.size, 0, none⟩) xl).trans x0
  replace x1 := (bA.cell (p := ⟨w4.heap.size, 1, none⟩) xl).trans x1
  replace x2 := (bA.cell (p := ⟨w4.heap.size, 2, none⟩) xl).trans x2
  replace xl := Nat.lt_of_lt_of_le xl bA.size
  replace cc := cc.trans (bA.mono cc.size)
  clear bA
  have v0 : (w6.alloc (.cells #[.bool bv, .slice Av nv cv, .slice Bv mv dv] 27)).cell? ⟨w6.heap.size, 0, none⟩ = some (.bool bv) := by simp [go_sem]
  have v1 : (w6.alloc (.cells #[.bool bv, .slice Av nv cv, .slice Bv mv dv] 27)).cell? ⟨w6.heap.size, 1, none⟩ = some (.slice Av nv cv) := by simp [go_sem]
  have v2 : (w6.alloc (.cells #[.bool bv, .slice Av nv cv, .slice Bv mv dv] 27)).cell? ⟨w6.heap.size, 2, none⟩ = some (.slice Bv mv dv) := by simp [go_sem]
  have vl : w6.heap.size < (w6.alloc (.cells #[.bool bv, .slice Av nv cv, .slice Bv mv dv] 27)).heap.size := by simp
  generalize w6.alloc (.cells #[.bool bv, .slice Av nv cv, .slice Bv mv dv] 27) = v7 at *
  refine (rzint_yes h1 hz).mono ?_
  rintro e w8 ⟨rfl, b⟩
  replace h1 := h1.on b
  replace h2 := h2.on b
  replace hx := hx.on b
  replace hv := hv.on b
  replace p0 := (b.cell (p := ⟨w.heap.size, 0, none⟩) pl).trans p0
  replace p1 := (b.cell (p := ⟨w.heap.size, 1, none⟩) pl).trans p1
  replace p2 := (b.cell (p := ⟨w.heap.size, 2, none⟩) pl).trans p2
  replace pl := Nat.lt_of_lt_of_le pl b.size
  replace q0 := (b.cell (p := ⟨w.heap.size + 1, 0, none⟩) ql).trans q0
  replace q1 := (b.cell (p := ⟨w.heap.size + 1, 1, none⟩) ql).trans q1
  replace ql := Nat.lt_of_lt_of_le ql b.size
  replace x0 := (b.cell (p := ⟨w4.heap.size, 0, none⟩) xl).trans x0
  replace x1 := (b.cell (p := ⟨w4.heap.size, 1, none⟩) xl).trans x1
  replace x2 := (b.cell (p := ⟨w4.heap.size, 2, none⟩) xl).trans x2
  replace xl := Nat.lt_of_lt_of_le xl b.size
  replace v0 := (b.cell (p := ⟨w6.heap.size, 0, none⟩) vl).trans v0
  replace v1 := (b.cell (p := ⟨w6.heap.size, 1, none⟩) vl).trans v1
  replace v2 := (b.cell (p := ⟨w6.heap.size, 2, none⟩) vl).trans v2
  replace vl := Nat.lt_of_lt_of_le vl b.size
  replace cc := cc.trans (b.mono cc.size)
  clear b
  go_wp2_with fail
  have bD : Below w8.heap.size w8 w8.drew := below_drewN (Below.refl _ w8) 1
  replace h1 := h1.on bD
  replace h2 := h2.on bD
  replace hx := hx.on bD
  replace hv := hv.on bD
  replace p0 := (bD.cell (p := ⟨w.heap.size, 0, none⟩) pl).trans p0
  replace p1 := (bD.cell (p := ⟨w.heap.size, 1, none⟩) pl).trans p1
  replace p2 := (bD.cell (p := ⟨w.heap.size, 2, none⟩) pl).trans p2
  replace pl := Nat.lt_of_lt_of_le pl bD.size
  replace q0 := (bD.cell (p := ⟨w.heap.size + 1, 0, none⟩) ql).trans q0
  replace q1 := (bD.cell (p := ⟨w.heap.size + 1, 1, none⟩) ql).trans q1
  replace ql := Nat.lt_of_lt_of_le ql bD.size
  replace x0 := (bD.cell (p := ⟨w4.heap.size, 0, none⟩) xl).trans x0
  replace x1 := (bD.cell (p := ⟨w4.heap.size, 1, none⟩) xl).trans x1
  replace x2 := (bD.cell (p := ⟨w4.heap.size, 2, none⟩) xl).trans x2
  replace xl := Nat.lt_of_lt_of_le xl bD.size
  replace v0 := (bD.cell (p := ⟨w6.heap.size, 0, none⟩) vl).trans v0
  replace v1 := (bD.cell (p := ⟨w6.heap.size, 1, none⟩) vl).trans v1
  replace v2 := (bD.cell (p := ⟨w6.heap.size, 2, none⟩) vl).trans v2
  replace vl := Nat.lt_of_lt_of_le vl bD.size
  replace cc := cc.trans (bD.mono cc.size)
  clear bD
  refine wp_region_held_drew (S := fun w' => w'.cell? ⟨w.heap.size, 0, none⟩ = some (.bool b0) ∧ w'.cell? ⟨w.heap.size, 1, none⟩ = some (.slice A0 n0 c0) ∧ w'.cell? ⟨w.heap.size, 2, none⟩ = some (.slice B0 m0 d0) ∧ w'.cell? ⟨w.heap.size + 1, 0, none⟩ = some (.bool b1) ∧ w'.cell? ⟨w.heap.size + 1, 1, none⟩ = some (.slice A1 n1 c1) ∧ w'.cell? ⟨w4.heap.size, 0, none⟩ = some (.bool bx) ∧ w'.cell? ⟨w4.heap.size, 1, none⟩ = some (.slice Ax nx cx) ∧ w'.cell? ⟨w4.heap.size, 2, none⟩ = some (.slice Bx mx dx) ∧ w'.cell? ⟨w6.heap.size, 0, none⟩ = some (.bool bv) ∧ w'.cell? ⟨w6.heap.size, 1, none⟩ = some (.slice Av nv cv) ∧ w'.cell? ⟨w6.heap.size, 2, none⟩ = some (.slice Bv mv dv)) (by kernel_rfl) ?_ (fun hHeld => ?_)
  · exact ⟨p0, p1, p2, q0, q1, x0, x1, x2, v0, v1, v2⟩
  refine wpAnyH_ready (rs := [0]) (by kernel_rfl) (by simp) ?_
  refine AllReadyH.cons rfl (fun K hK => ?_) AllReadyH.nil
  (try simp only [List.getElem_toArray, List.getElem_cons_zero, List.getElem_cons_succ])
  rw [if_pos (by rfl)]
  go_simp
  go_at_call 12
  refine (alive5_any _).mono ?_
  rintro e w9 ⟨rfl, b⟩
  replace h1 := h1.on b
  replace h2 := h2.on b
  replace hx := hx.on b
  replace hv := hv.on b
  replace p0 := (b.cell (p := ⟨w.heap.size, 0, none⟩) pl).trans p0
  replace p1 := (b.cell (p := ⟨w.heap.size, 1, none⟩) pl).trans p1
  replace p2 := (b.cell (p := ⟨w.heap.size, 2, none⟩) pl).trans p2
  replace pl := Nat.lt_of_lt_of_le pl b.size
  replace q0 := (b.cell (p := ⟨w.heap.size + 1, 0, none⟩) ql).trans q0
  replace q1 := (b.cell (p := ⟨w.heap.size + 1, 1, none⟩) ql).trans q1
  replace ql := Nat.lt_of_lt_of_le ql b.size
  replace x0 := (b.cell (p := ⟨w4.heap.size, 0, none⟩) xl).trans x0
  replace x1 := (b.cell (p := ⟨w4.heap.size, 1, none⟩) xl).trans x1
  replace x2 := (b.cell (p := ⟨w4.heap.size, 2, none⟩) xl).trans x2
  replace xl := Nat.lt_of_lt_of_le xl b.size
  replace v0 := (b.cell (p := ⟨w6.heap.size, 0, none⟩) vl).trans v0
  replace v1 := (b.cell (p := ⟨w6.heap.size, 1, none⟩) vl).trans v1
  replace v2 := (b.cell (p := ⟨w6.heap.size, 2, none⟩) vl).trans v2
  replace vl := Nat.lt_of_lt_of_le vl b.size
  replace cc := cc.trans (b.mono cc.size)
  clear b
  refine hK.out _ _ ?_ (fun hHeld => ?_)
  · exact ⟨p0, p1, p2, q0, q1, x0, x1, x2, v0, v1, v2⟩
  clear hK K
  try simp only [Act.put, List.getElem_toArray, List.getElem_cons_zero, List.getElem_cons_succ, List.setIfInBounds_toArray, List.set_cons_zero, List.set_cons_succ]
  refine wpAnyH_take (i := 1) (v := ?_) rfl (by kernel_rfl) (by kernel_rfl) (by kernel_rfl) (fun _ _ _ h => h) (Or.inl ⟨by rfl, ?_⟩) hHeld ?_
  rotate_left
  · (intro w hSw; (try dsimp only at hSw); go_simp; (try with_reducible rfl))
  try simp only [Act.put, List.getElem_toArray, List.getElem_cons_zero, List.getElem_cons_succ, List.setIfInBounds_toArray, List.set_cons_zero, List.set_cons_succ]
  refine wpAnyH_take (i := 2) (v := ?_) rfl (by kernel_rfl) (by kernel_rfl) (by kernel_rfl) (fun _ _ _ h => h) (Or.inl ⟨by rfl, ?_⟩) hHeld ?_
  rotate_left
  · (intro w hSw; (try dsimp only at hSw); go_simp; (try with_reducible rfl))
  try simp only [Act.put, List.getElem_toArray, List.getElem_cons_zero, List.getElem_cons_succ, List.setIfInBounds_toArray, List.set_cons_zero, List.set_cons_succ]
  refine wpAnyH_take (i := 4) (v := ?_) rfl (by kernel_rfl) (by kernel_rfl) (by kernel_rfl) (fun _ _ _ h => h) (Or.inl ⟨by rfl, ?_⟩) hHeld ?_
  rotate_left
  · (intro w hSw; (try dsimp only at hSw); go_simp; (try with_reducible rfl))
  try simp only [Act.put, List.getElem_toArray, List.getElem_cons_zero, List.getElem_cons_succ, List.setIfInBounds_toArray, List.set_cons_zero, List.set_cons_succ]
  refine wpAnyH_ready (rs := [3]) (by kernel_rfl) (by simp) ?_
  refine AllReadyH.cons rfl (fun K hK => ?_) AllReadyH.nil
  (try simp only [List.getElem_toArray, List.getElem_cons_zero, List.getElem_cons_succ])
  rw [if_pos (by rfl)]
  go_simp
  go_at_call 16
  refine (GA _ cc).mono ?_
  rintro e w10 ⟨rfl, b⟩
  replace h1 := h1.on b
  replace h2 := h2.on b
  replace hx := hx.on b
  replace hv := hv.on b
  replace p0 := (b.cell (p := ⟨w.heap.size, 0, none⟩) pl).trans p0
  replace p1 := (b.cell (p := ⟨w.heap.size, 1, none⟩) pl).trans p1
  replace p2 := (b.cell (p := ⟨w.heap.size, 2, none⟩) pl).trans p2
  replace pl := Nat.lt_of_lt_of_le pl b.size
  replace q0 := (b.cell (p := ⟨w.heap.size + 1, 0, none⟩) ql).trans q0
  replace q1 := (b.cell (p := ⟨w.heap.size + 1, 1, none⟩) ql).trans q1
  replace ql := Nat.lt_of_lt_of_le ql b.size
  replace x0 := (b.cell (p := ⟨w4.heap.size, 0, none⟩) xl).trans x0
  replace x1 := (b.cell (p := ⟨w4.heap.size, 1, none⟩) xl).trans x1
  replace x2 := (b.cell (p := ⟨w4.heap.size, 2, none⟩) xl).trans x2
  replace xl := Nat.lt_of_lt_of_le xl b.size
  replace v0 := (b.cell (p := ⟨w6.heap.size, 0, none⟩) vl).trans v0
  replace v1 := (b.cell (p := ⟨w6.heap.size, 1, none⟩) vl).trans v1
  replace v2 := (b.cell (p := ⟨w6.heap.size, 2, none⟩) vl).trans v2
  replace vl := Nat.lt_of_lt_of_le vl b.size
  replace cc := cc.trans (b.mono cc.size)
  clear b
  refine hK.out _ _ ?_ (fun hHeld => ?_)
  · exact ⟨p0, p1, p2, q0, q1, x0, x1, x2, v0, v1, v2⟩
  clear hK K
  try simp only [Act.put, List.getElem_toArray, List.getElem_cons_zero, List.getElem_cons_succ, List.setIfInBounds_toArray, List.set_cons_zero, List.set_cons_succ]
  refine wpAnyH_ready (rs := [5]) (by kernel_rfl) (by simp) ?_
  refine AllReadyH.cons rfl (fun K hK => ?_) AllReadyH.nil
  (try simp only [List.getElem_toArray, List.getElem_cons_zero, List.getElem_cons_succ])
  rw [if_pos (by rfl)]
  go_simp
  go_at_call 17
  refine (GB _ cc).mono ?_
  rintro e w11 ⟨rfl, b⟩
  replace h1 := h1.on b
  replace h2 := h2.on b
  replace hx := hx.on b
  replace hv := hv.on b
  replace p0 := (b.cell (p := ⟨w.heap.size, 0, none⟩) pl).trans p0
  replace p1 := (b.cell (p := ⟨w.heap.size, 1, none⟩) pl).trans p1
  replace p2 := (b.cell (p := ⟨w.heap.size, 2, none⟩) pl).trans p2
  replace pl := Nat.lt_of_lt_of_le pl b.size
  replace q0 := (b.cell (p := ⟨w.heap.size + 1, 0, none⟩) ql).trans q0
  replace q1 := (b.cell (p := ⟨w.heap.size + 1, 1, none⟩) ql).trans q1
  replace ql := Nat.lt_of_lt_of_le ql b.size
  replace x0 := (b.cell (p := ⟨w4.heap.size, 0, none⟩) xl).trans x0
  replace x1 := (b.cell (p := ⟨w4.heap.size, 1, none⟩) xl).trans x1
  replace x2 := (b.cell (p := ⟨w4.heap.size, 2, none⟩) xl).trans x2
  replace xl := Nat.lt_of_lt_of_le xl b.size
  replace v0 := (b.cell (p := ⟨w6.heap.size, 0, none⟩) vl).trans v0
  replace v1 := (b.cell (p := ⟨w6.heap.size, 1, none⟩) vl).trans v1
  replace v2 := (b.cell (p := ⟨w6.heap.size, 2, none⟩) vl).trans v2
  replace vl := Nat.lt_of_lt_of_le vl b.size
  replace cc := cc.trans (b.mono cc.size)
  clear b
  refine hK.out _ _ ?_ (fun hHeld => ?_)
  · exact ⟨p0, p1, p2, q0, q1, x0, x1, x2, v0, v1, v2⟩
  clear hK K
  try simp only [Act.put, List.getElem_toArray, List.getElem_cons_zero, List.getElem_cons_succ, List.setIfInBounds_toArray, List.set_cons_zero, List.set_cons_succ]
  refine wpAnyH_take (i := 6) (v := ?_) rfl (by kernel_rfl) (by kernel_rfl) (by kernel_rfl) (fun _ _ _ h => h) (Or.inl ⟨by rfl, ?_⟩) hHeld ?_
  rotate_left
  · (intro w hSw; (try dsimp only at hSw); go_simp; (try with_reducible rfl))
  try simp only [Act.put, List.getElem_toArray, List.getElem_cons_zero, List.getElem_cons_succ, List.setIfInBounds_toArray, List.set_cons_zero, List.set_cons_succ]
  refine wpAnyH_take (i := 7) (v := ?_) rfl (by kernel_rfl) (by kernel_rfl) (by kernel_rfl) (fun _ _ _ h => h) (Or.inl ⟨by rfl, ?_⟩) hHeld ?_
  rotate_left
  · (intro w hSw; (try dsimp only at hSw); go_simp; (try with_reducible rfl))
  try simp only [Act.put, List.getElem_toArray, List.getElem_cons_zero, List.getElem_cons_succ, List.setIfInBounds_toArray, List.set_cons_zero, List.set_cons_succ]
  refine wpAnyH_take (i := 8) (v := ?_) rfl (by kernel_rfl) (by kernel_rfl) (by kernel_rfl) (fun _ _ _ h => h) (Or.inl ⟨by rfl, ?_⟩) hHeld ?_
  rotate_left
  · (intro w hSw; (try dsimp only at hSw); go_simp; (try with_reducible rfl))
  try simp only [Act.put, List.getElem_toArray, List.getElem_cons_zero, List.getElem_cons_succ, List.setIfInBounds_toArray, List.set_cons_zero, List.set_cons_succ]
  refine wpAnyH_take (i := 9) (v := ?_) rfl (by kernel_rfl) (by kernel_rfl) (by kernel_rfl) (fun _ _ _ h => h) (Or.inl ⟨by rfl, ?_⟩) hHeld ?_
  rotate_left
  · (intro w hSw; (try dsimp only at hSw); go_simp; (try with_reducible rfl))
  try simp only [Act.put, List.getElem_toArray, List.getElem_cons_zero, List.getElem_cons_succ, List.setIfInBounds_toArray, List.set_cons_zero, List.set_cons_succ]
  refine wpAnyH_take (i := 10) (v := ?_) rfl (by kernel_rfl) (by kernel_rfl) (by kernel_rfl) (fun _ _ _ h => h) (Or.inl ⟨by rfl, ?_⟩) hHeld ?_
  rotate_left
  · (intro w hSw; (try dsimp only at hSw); go_simp; (try with_reducible rfl))
  try simp only [Act.put, List.getElem_toArray, List.getElem_cons_zero, List.getElem_cons_succ, List.setIfInBounds_toArray, List.set_cons_zero, List.set_cons_succ]
  refine wpAnyH_ready (rs := [11]) (by kernel_rfl) (by simp) ?_
  refine AllReadyH.cons rfl (fun K hK => ?_) AllReadyH.nil
  (try simp only [List.getElem_toArray, List.getElem_cons_zero, List.getElem_cons_succ])
  rw [if_pos (by rfl)]
  go_simp
  go_at_call 18
  refine (rtsame_self hx (su.le (by omega)) hv).mono ?_
  rintro e w12 ⟨rfl, b⟩
  replace h1 := h1.on b
  replace h2 := h2.on b
  replace hx := hx.on b
  replace hv := hv.on b
  replace p0 := (b.cell (p := ⟨w.heap.size, 0, none⟩) pl).trans p0
  replace p1 := (b.cell (p := ⟨w.heap.size, 1, none⟩) pl).trans p1
  replace p2 := (b.cell (p := ⟨w.heap.size, 2, none⟩) pl).trans p2
  replace pl := Nat.lt_of_lt_of_le pl b.size
  replace q0 := (b.cell (p := ⟨w.heap.size + 1, 0, none⟩) ql).trans q0
  replace q1 := (b.cell (p := ⟨w.heap.size + 1, 1, none⟩) ql).trans q1
  replace ql := Nat.lt_of_lt_of_le ql b.size
  replace x0 := (b.cell (p := ⟨w4.heap.size, 0, none⟩) xl).trans x0
  replace x1 := (b.cell (p := ⟨w4.heap.size, 1, none⟩) xl).trans x1
  replace x2 := (b.cell (p := ⟨w4.heap.size, 2, none⟩) xl).trans x2
  replace xl := Nat.lt_of_lt_of_le xl b.size
  replace v0 := (b.cell (p := ⟨w6.heap.size, 0, none⟩) vl).trans v0
  replace v1 := (b.cell (p := ⟨w6.heap.size, 1, none⟩) vl).trans v1
  replace v2 := (b.cell (p := ⟨w6.heap.size, 2, none⟩) vl).trans v2
  replace vl := Nat.lt_of_lt_of_le vl b.size
  replace cc := cc.trans (b.mono cc.size)
  clear b
  refine hK.out _ _ ?_ (fun hHeld => ?_)
  · exact ⟨p0, p1, p2, q0, q1, x0, x1, x2, v0, v1, v2⟩
  clear hK K
  try simp only [Act.put, List.getElem_toArray, List.getElem_cons_zero, List.getElem_cons_succ, List.setIfInBounds_toArray, List.set_cons_zero, List.set_cons_succ]
  refine wpAnyH_take (i := 12) (v := ?_) rfl (by kernel_rfl) (by kernel_rfl) (by kernel_rfl) (fun _ _ _ h => h) (Or.inl ⟨by rfl, ?_⟩) hHeld ?_
  rotate_left
  · (intro w hSw; (try dsimp only at hSw); go_simp; (try with_reducible rfl))
  try simp only [Act.put, List.getElem_toArray, List.getElem_cons_zero, List.getElem_cons_succ, List.setIfInBounds_toArray, List.set_cons_zero, List.set_cons_succ]
  refine wpAnyH_take (i := 13) (v := ?_) rfl (by kernel_rfl) (by kernel_rfl) (by kernel_rfl) (fun _ _ _ h => h) (Or.inl ⟨by rfl, ?_⟩) hHeld ?_
  rotate_left
  · (intro w hSw; (try dsimp only at hSw); go_simp; (try with_reducible rfl))
  try simp only [Act.put, List.getElem_toArray, List.getElem_cons_zero, List.getElem_cons_succ, List.setIfInBounds_toArray, List.set_cons_zero, List.set_cons_succ]
  refine wpAnyH_take (i := 14) (v := ?_) rfl (by kernel_rfl) (by kernel_rfl) (by kernel_rfl) (fun _ _ _ h => h) (Or.inl ⟨by rfl, ?_⟩) hHeld ?_
  rotate_left
  · (intro w hSw; (try dsimp only at hSw); go_simp; (try with_reducible rfl))
  try simp only [Act.put, List.getElem_toArray, List.getElem_cons_zero, List.getElem_cons_succ, List.setIfInBounds_toArray, List.set_cons_zero, List.set_cons_succ]
  refine wpAnyH_take (i := 15) (v := ?_) rfl (by kernel_rfl) (by kernel_rfl) (by kernel_rfl) (fun _ _ _ h => h) (Or.inl ⟨by rfl, ?_⟩) hHeld ?_
  rotate_left
  · (intro w hSw; (try dsimp only at hSw); go_simp; (try with_reducible rfl))
  try simp only [Act.put, List.getElem_toArray, List.getElem_cons_zero, List.getElem_cons_succ, List.setIfInBounds_toArray, List.set_cons_zero, List.set_cons_succ]
  refine wpAnyH_take (i := 16) (v := ?_) rfl (by kernel_rfl) (by kernel_rfl) (by kernel_rfl) (fun _ _ _ h => h) (Or.inl ⟨by rfl, ?_⟩) hHeld ?_
  rotate_left
  · (intro w hSw; (try dsimp only at hSw); go_simp; (try with_reducible rfl))
  try simp only [Act.put, List.getElem_toArray, List.getElem_cons_zero, List.getElem_cons_succ, List.setIfInBounds_toArray, List.set_cons_zero, List.set_cons_succ]
  refine wpAnyH_take (i := 17) (v := ?_) rfl (by kernel_rfl) (by kernel_rfl) (by kernel_rfl) (fun _ _ _ h => h) (Or.inl ⟨by rfl, ?_⟩) hHeld ?_
  rotate_left
  · (intro w hSw; (try dsimp only at hSw); go_simp; (try with_reducible rfl))
  try simp only [Act.put, List.getElem_toArray, List.getElem_cons_zero, List.getElem_cons_succ, List.setIfInBounds_toArray, List.set_cons_zero, List.set_cons_succ]
  refine wpAnyH_take (i := 18) (v := ?_) rfl (by kernel_rfl) (by kernel_rfl) (by kernel_rfl) (fun _ _ _ h => h) (Or.inl ⟨by rfl, ?_⟩) hHeld ?_
  rotate_left
  · (intro w hSw; (try dsimp only at hSw); go_simp; (try with_reducible rfl))
  try simp only [Act.put, List.getElem_toArray, List.getElem_cons_zero, List.getElem_cons_succ, List.setIfInBounds_toArray, List.set_cons_zero, List.set_cons_succ]
  refine wpAnyH_take (i := 19) (v := ?_) rfl (by kernel_rfl) (by kernel_rfl) (by kernel_rfl) (fun _ _ _ h => h) (Or.inl ⟨by rfl, ?_⟩) hHeld ?_
  rotate_left
  · (intro w hSw; (try dsimp only at hSw); go_simp; (try with_reducible rfl))
  try simp only [Act.put, List.getElem_toArray, List.getElem_cons_zero, List.getElem_cons_succ, List.setIfInBounds_toArray, List.set_cons_zero, List.set_cons_succ]
  refine wpAnyH_take (i := 20) (v := ?_) rfl (by kernel_rfl) (by kernel_rfl) (by kernel_rfl) (fun _ _ _ h => h) (Or.inl ⟨by rfl, ?_⟩) hHeld ?_
  rotate_left
  · (intro w hSw; (try dsimp only at hSw); go_simp; (try with_reducible rfl))
  try simp only [Act.put, List.getElem_toArray, List.getElem_cons_zero, List.getElem_cons_succ, List.setIfInBounds_toArray, List.set_cons_zero, List.set_cons_succ]
  refine wpAnyH_take (i := 21) (v := ?_) rfl (by kernel_rfl) (by kernel_rfl) (by kernel_rfl) (fun _ _ _ h => h) (Or.inl ⟨by rfl, ?_⟩) hHeld ?_
  rotate_left
  · (intro w hSw; (try dsimp only at hSw); go_simp; (try with_reducible rfl))
  try simp only [Act.put, List.getElem_toArray, List.getElem_cons_zero, List.getElem_cons_succ, List.setIfInBounds_toArray, List.set_cons_zero, List.set_cons_succ]
  refine wpAnyH_take (i := 22) (v := ?_) rfl (by kernel_rfl) (by kernel_rfl) (by kernel_rfl) (fun _ _ _ h => h) (Or.inl ⟨by rfl, ?_⟩) hHeld ?_
  rotate_left
  · (intro w hSw; (try dsimp only at hSw); go_simp; (try with_reducible rfl))
  try simp only [Act.put, List.getElem_toArray, List.getElem_cons_zero, List.getElem_cons_succ, List.setIfInBounds_toArray, List.set_cons_zero, List.set_cons_succ]
  refine wpAnyH_take (i := 24) (v := ?_) rfl (by kernel_rfl) (by kernel_rfl) (by kernel_rfl) (fun _ _ _ h => h) (Or.inl ⟨by rfl, ?_⟩) hHeld ?_
  rotate_left
  · (intro w hSw; (try dsimp only at hSw); go_simp; (try with_reducible rfl))
  try simp only [Act.put, List.getElem_toArray, List.getElem_cons_zero, List.getElem_cons_succ, List.setIfInBounds_toArray, List.set_cons_zero, List.set_cons_succ]
  refine wpAnyH_ready (rs := [23]) (by kernel_rfl) (by simp) ?_
  refine AllReadyH.cons rfl (fun K hK => ?_) AllReadyH.nil
  (try simp only [List.getElem_toArray, List.getElem_cons_zero, List.getElem_cons_succ])
  rw [if_pos (by rfl)]
  go_simp
  go_at_call 19
  refine (qof_N _ z hz).mono ?_
  rintro e w13 ⟨bfa, Afa, nfa, cfa, Bfa, mfa, dfa, rfl, fa, b⟩
  replace h1 := h1.on b
  replace h2 := h2.on b
  replace hx := hx.on b
  replace hv := hv.on b
  replace p0 := (b.cell (p := ⟨w.heap.size, 0, none⟩) pl).trans p0
  replace p1 := (b.cell (p := ⟨w.heap.size, 1, none⟩) pl).trans p1
  replace p2 := (b.cell (p := ⟨w.heap.size, 2, none⟩) pl).trans p2
  replace pl := Nat.lt_of_lt_of_le pl b.size
  replace q0 := (b.cell (p := ⟨w.heap.size + 1, 0, none⟩) ql).trans q0
  replace q1 := (b.cell (p := ⟨w.heap.size + 1, 1, none⟩) ql).trans q1
  replace ql := Nat.lt_of_lt_of_le ql b.size
  replace x0 := (b.cell (p := ⟨w4.heap.size, 0, none⟩) xl).trans x0
  replace x1 := (b.cell (p := ⟨w4.heap.size, 1, none⟩) xl).trans x1
  replace x2 := (b.cell (p := ⟨w4.heap.size, 2, none⟩) xl).trans x2
  replace xl := Nat.lt_of_lt_of_le xl b.size
  replace v0 := (b.cell (p := ⟨w6.heap.size, 0, none⟩) vl).trans v0
  replace v1 := (b.cell (p := ⟨w6.heap.size, 1, none⟩) vl).trans v1
  replace v2 := (b.cell (p := ⟨w6.heap.size, 2, none⟩) vl).trans v2
  replace vl := Nat.lt_of_lt_of_le vl b.size
  replace cc := cc.trans (b.mono cc.size)
  clear b
  refine hK.out _ _ ?_ (fun hHeld => ?_)
  · exact ⟨p0, p1, p2, q0, q1, x0, x1, x2, v0, v1, v2⟩
  clear hK K
  try simp only [Act.put, List.getElem_toArray, List.getElem_cons_zero, List.getElem_cons_succ, List.setIfInBounds_toArray, List.set_cons_zero, List.set_cons_succ]
  refine wpAnyH_ready (rs := [25]) (by kernel_rfl) (by simp) ?_
  refine AllReadyH.cons rfl (fun K hK => ?_) AllReadyH.nil
  (try simp only [List.getElem_toArray, List.getElem_cons_zero, List.getElem_cons_succ])
  rw [if_pos (by rfl)]
  go_simp
  go_at_call 20
  refine (rtof_N _ z hz).mono ?_
  rintro e w14 ⟨bfb, Afb, nfb, cfb, Bfb, mfb, dfb, rfl, fb, b⟩
  replace h1 := h1.on b
  replace h2 := h2.on b
  replace hx := hx.on b
  replace hv := hv.on b
  replace fa := fa.on b
  replace p0 := (b.cell (p := ⟨w.heap.size, 0, none⟩) pl).trans p0
  replace p1 := (b.cell (p := ⟨w.heap.size, 1, none⟩) pl).trans p1
  replace p2 := (b.cell (p := ⟨w.heap.size, 2, none⟩) pl).trans p2
  replace pl := Nat.lt_of_lt_of_le pl b.size
  replace q0 := (b.cell (p := ⟨w.heap.size + 1, 0, none⟩) ql).trans q0
  replace q1 := (b.cell (p := ⟨w.heap.size + 1, 1, none⟩) ql).trans q1
  replace ql := Nat.lt_of_lt_of_le ql b.size
  replace x0 := (b.cell (p := ⟨w4.heap.size, 0, none⟩) xl).trans x0
  replace x1 := (b.cell (p := ⟨w4.heap.size, 1, none⟩) xl).trans x1
  replace x2 := (b.cell (p := ⟨w4.heap.size, 2, none⟩) xl).trans x2
  replace xl := Nat.lt_of_lt_of_le xl b.size
  replace v0 := (b.cell (p := ⟨w6.heap.size, 0, none⟩) vl).trans v0
  replace v1 := (b.cell (p := ⟨w6.heap.size, 1, none⟩) vl).trans v1
  replace v2 := (b.cell (p := ⟨w6.heap.size, 2, none⟩) vl).trans v2
  replace vl := Nat.lt_of_lt_of_le vl b.size
  replace cc := cc.trans (b.mono cc.size)
  clear b
  refine hK.out _ _ ?_ (fun hHeld => ?_)
  · exact ⟨p0, p1, p2, q0, q1, x0, x1, x2, v0, v1, v2⟩
  clear hK K
  try simp only [Act.put, List.getElem_toArray, List.getElem_cons_zero, List.getElem_cons_succ, List.setIfInBounds_toArray, List.set_cons_zero, List.set_cons_succ]
  refine wpAnyH_ready (rs := [26]) (by kernel_rfl) (by simp) ?_
  refine AllReadyH.cons rfl (fun K hK => ?_) AllReadyH.nil
  (try simp only [List.getElem_toArray, List.getElem_cons_zero, List.getElem_cons_succ])
  rw [if_pos (by rfl)]
  go_simp
  go_at_call 18
  refine (rtsame_self fa (sn.le (by omega)) fb).mono ?_
  rintro e w15 ⟨rfl, b⟩
  replace h1 := h1.on b
  replace h2 := h2.on b
  replace hx := hx.on b
  replace hv := hv.on b
  replace fa := fa.on b
  replace fb := fb.on b
  replace p0 := (b.cell (p := ⟨w.heap.size, 0, none⟩) pl).trans p0
  replace p1 := (b.cell (p := ⟨w.heap.size, 1, none⟩) pl).trans p1
  replace p2 := (b.cell (p := ⟨w.heap.size, 2, none⟩) pl).trans p2
  replace pl := Nat.lt_of_lt_of_le pl b.size
  replace q0 := (b.cell (p := ⟨w.heap.size + 1, 0, none⟩) ql).trans q0
  replace q1 := (b.cell (p := ⟨w.heap.size + 1, 1, none⟩) ql).trans q1
  replace ql := Nat.lt_of_lt_of_le ql b.size
  replace x0 := (b.cell (p := ⟨w4.heap.size, 0, none⟩) xl).trans x0
  replace x1 := (b.cell (p := ⟨w4.heap.size, 1, none⟩) xl).trans x1
  replace x2 := (b.cell (p := ⟨w4.heap.size, 2, none⟩) xl).trans x2
  replace xl := Nat.lt_of_lt_of_le xl b.size
  replace v0 := (b.cell (p := ⟨w6.heap.size, 0, none⟩) vl).trans v0
  replace v1 := (b.cell (p := ⟨w6.heap.size, 1, none⟩) vl).trans v1
  replace v2 := (b.cell (p := ⟨w6.heap.size, 2, none⟩) vl).trans v2
  replace vl := Nat.lt_of_lt_of_le vl b.size
  replace cc := cc.trans (b.mono cc.size)
  clear b
  refine hK.out _ _ ?_ (fun hHeld => ?_)
  · exact ⟨p0, p1, p2, q0, q1, x0, x1, x2, v0, v1, v2⟩
  clear hK K
  try simp only [Act.put, List.getElem_toArray, List.getElem_cons_zero, List.getElem_cons_succ, List.setIfInBounds_toArray, List.set_cons_zero, List.set_cons_succ]
  refine wpAnyH_take (i := 27) (v := ?_) rfl (by kernel_rfl) (by kernel_rfl) (by kernel_rfl) (fun _ _ _ h => h) (Or.inl ⟨by rfl, ?_⟩) hHeld ?_
  rotate_left
  · (intro w hSw; (try dsimp only at hSw); go_simp; (try with_reducible rfl))
  try simp only [Act.put, List.getElem_toArray, List.getElem_cons_zero, List.getElem_cons_succ, List.setIfInBounds_toArray, List.set_cons_zero, List.set_cons_succ]
  refine wpAnyH_take (i := 28) (v := ?_) rfl (by kernel_rfl) (by kernel_rfl) (by kernel_rfl) (fun _ _ _ h => h) (Or.inl ⟨by rfl, ?_⟩) hHeld ?_
  rotate_left
  · (intro w hSw; (try dsimp only at hSw); go_simp; (try with_reducible rfl))
  try simp only [Act.put, List.getElem_toArray, List.getElem_cons_zero, List.getElem_cons_succ, List.setIfInBounds_toArray, List.set_cons_zero, List.set_cons_succ]
  refine wpAnyH_take (i := 29) (v := ?_) rfl (by kernel_rfl) (by kernel_rfl) (by kernel_rfl) (fun _ _ _ h => h) (Or.inl ⟨by rfl, ?_⟩) hHeld ?_
  rotate_left
  · (intro w hSw; (try dsimp only at hSw); go_simp; (try with_reducible rfl))
  try simp only [Act.put, List.getElem_toArray, List.getElem_cons_zero, List.getElem_cons_succ, List.setIfInBounds_toArray, List.set_cons_zero, List.set_cons_succ]
  refine wpAnyH_done (by kernel_rfl) ?_ _
  clear hHeld
  go_wp2_with fail
  go_ret
  exact ⟨rfl, cc⟩

set_option maxRecDepth 100000 in
set_option maxHeartbeats 8000000 in
theorem RatTells_ok {w : World} {b0 b1 : Bool} {A0 B0 A1 A2 : Option Addr} {n0 c0 m0 d0 n1 c1 n2 c2 : Nat} (t0 : decide ((6 : Int) < (n0 : Int)) = false) (t1 : decide ((6 : Int) < (m0 : Int)) = false) (G1 : ∀ W : World, Below w.heap.size w W → Calls Try.prog 10 #[.agg #[.bool b1, .slice A1 n1 c1], .int .i64 6] W (GotV W (.bool true))) (t3 : decide ((6 : Int) < (n2 : Int)) = false) (G2 : ∀ W : World, Below w.heap.size w W → Calls Try.prog 11 #[.slice A2 n2 c2] W (GotV W (.bool true))) (r : Bool) (GA : ∀ W : World, Below w.heap.size w W → Calls Try.prog 16 #[.agg #[.bool b0, .slice A0 n0 c0, .slice B0 m0 d0]] W (GotV W (.bool r))) (GB : ∀ W : World, Below w.heap.size w W → Calls Try.prog 17 #[.agg #[.bool b0, .slice A0 n0 c0, .slice B0 m0 d0]] W (GotV W (.bool r))) {z : Int} {y : Nat} (h1 : Zn w b1 A1 n1 c1 z) (l1 : (limbs z.natAbs).length ≤ 6) (h2 : Num w A2 n2 c2 y) (l2 : (limbs y).length ≤ 6) (hz : ¬ I64 z) (hy : y ≠ 0) :
    Calls Try.prog 3 #[.agg #[.bool b0, .slice A0 n0 c0, .slice B0 m0 d0], .agg #[.bool b1, .slice A1 n1 c1], .slice A2 n2 c2] w fun e w' => e = .returned (.bool true) ∧ Below w.heap.size w w' := by
  have k1 : (limbs z.natAbs).length ≤ 40 := by omega
  have k2 : (limbs y).length ≤ 40 := by omega
  have su : Sz (mkRat z y) 6 := sz_mk hy l1 l2
  have cc := Below.refl w.heap.size w
  go_enter Try.func3, Try.ntmps3
  go_wp2_with fail
  have bA : Below w.heap.size w ((w.alloc (.cells #[.bool b0, .slice A0 n0 c0, .slice B0 m0 d0] 27)).alloc (.cells #[.bool b1, .slice A1 n1 c1] 25)) := (((Below.refl _ w).alloc (by simp) _).alloc (by simp) _)
  replace h1 := h1.on bA
  replace h2 := h2.on bA
  replace cc := cc.trans (bA.mono cc.size)
  clear bA
  have p0 : ((w.alloc (.cells #[.bool b0, .slice A0 n0 c0, .slice B0 m0 d0] 27)).alloc (.cells #[.bool b1, .slice A1 n1 c1] 25)).cell? ⟨w.heap.size, 0, none⟩ = some (.bool b0) := by simp [go_sem]
  have p1 : ((w.alloc (.cells #[.bool b0, .slice A0 n0 c0, .slice B0 m0 d0] 27)).alloc (.cells #[.bool b1, .slice A1 n1 c1] 25)).cell? ⟨w.heap.size, 1, none⟩ = some (.slice A0 n0 c0) := by simp [go_sem]
  have p2 : ((w.alloc (.cells #[.bool b0, .slice A0 n0 c0, .slice B0 m0 d0] 27)).alloc (.cells #[.bool b1, .slice A1 n1 c1] 25)).cell? ⟨w.heap.size, 2, none⟩ = some (.slice B0 m0 d0) := by simp [go_sem]
  have pl : w.heap.size < ((w.alloc (.cells #[.bool b0, .slice A0 n0 c0, .slice B0 m0 d0] 27)).alloc (.cells #[.bool b1, .slice A1 n1 c1] 25)).heap.size := by simp <;> omega
  have q0 : ((w.alloc (.cells #[.bool b0, .slice A0 n0 c0, .slice B0 m0 d0] 27)).alloc (.cells #[.bool b1, .slice A1 n1 c1] 25)).cell? ⟨w.heap.size + 1, 0, none⟩ = some (.bool b1) := by simp [go_sem]
  have q1 : ((w.alloc (.cells #[.bool b0, .slice A0 n0 c0, .slice B0 m0 d0] 27)).alloc (.cells #[.bool b1, .slice A1 n1 c1] 25)).cell? ⟨w.heap.size + 1, 1, none⟩ = some (.slice A1 n1 c1) := by simp [go_sem]
  have ql : w.heap.size + 1 < ((w.alloc (.cells #[.bool b0, .slice A0 n0 c0, .slice B0 m0 d0] 27)).alloc (.cells #[.bool b1, .slice A1 n1 c1] 25)).heap.size := by simp <;> omega
  generalize (w.alloc (.cells #[.bool b0, .slice A0 n0 c0, .slice B0 m0 d0] 27)).alloc (.cells #[.bool b1, .slice A1 n1 c1] 25) = v1 at *
  refine (G1 _ cc).mono ?_
  rintro e w2 ⟨rfl, b⟩
  replace h1 := h1.on b
  replace h2 := h2.on b
  replace p0 := (b.cell (p := ⟨w.heap.size, 0, none⟩) pl).trans p0
  replace p1 := (b.cell (p := ⟨w.heap.size, 1, none⟩) pl).trans p1
  replace p2 := (b.cell (p := ⟨w.heap.size, 2, none⟩) pl).trans p2
  replace pl := Nat.lt_of_lt_of_le pl b.size
  replace q0 := (b.cell (p := ⟨w.heap.size + 1, 0, none⟩) ql).trans q0
  replace q1 := (b.cell (p := ⟨w.heap.size + 1, 1, none⟩) ql).trans q1
  replace ql := Nat.lt_of_lt_of_le ql b.size
  replace cc := cc.trans (b.mono cc.size)
  clear b
  go_wp2_with fail
  refine (G2 _ cc).mono ?_
  rintro e w3 ⟨rfl, b⟩
  replace h1 := h1.on b
  replace h2 := h2.on b
  replace p0 := (b.cell (p := ⟨w.heap.size, 0, none⟩) pl).trans p0
  replace p1 := (b.cell (p := ⟨w.heap.size, 1, none⟩) pl).trans p1
  replace p2 := (b.cell (p := ⟨w.heap.size, 2, none⟩) pl).trans p2
  replace pl := Nat.lt_of_lt_of_le pl b.size
  replace q0 := (b.cell (p := ⟨w.heap.size + 1, 0, none⟩) ql).trans q0
  replace q1 := (b.cell (p := ⟨w.heap.size + 1, 1, none⟩) ql).trans q1
  replace ql := Nat.lt_of_lt_of_le ql b.size
  replace cc := cc.trans (b.mono cc.size)
  clear b
  go_wp2_with fail
  refine (qmake_N h1 h2 hy k1 k2).mono ?_
  rintro e w4 ⟨bx, Ax, nx, cx, Bx, mx, dx, rfl, hx, b⟩
  replace h1 := h1.on b
  replace h2 := h2.on b
  replace p0 := (b.cell (p := ⟨w.heap.size, 0, none⟩) pl).trans p0
  replace p1 := (b.cell (p := ⟨w.heap.size, 1, none⟩) pl).trans p1
  replace p2 := (b.cell (p := ⟨w.heap.size, 2, none⟩) pl).trans p2
  replace pl := Nat.lt_of_lt_of_le pl b.size
  replace q0 := (b.cell (p := ⟨w.heap.size + 1, 0, none⟩) ql).trans q0
  replace q1 := (b.cell (p := ⟨w.heap.size + 1, 1, none⟩) ql).trans q1
  replace ql := Nat.lt_of_lt_of_le ql b.size
  replace cc := cc.trans (b.mono cc.size)
  clear b
  go_wp2_with fail
  have bA := below_one w4 (.cells #[.bool bx, .slice Ax nx cx, .slice Bx mx dx] 27)
  replace h1 := h1.on bA
  replace h2 := h2.on bA
  replace hx := hx.on bA
  replace p0 := (bA.cell (p := ⟨w.heap.size, 0, none⟩) pl).trans p0
  replace p1 := (bA.cell (p := ⟨w.heap.size, 1, none⟩) pl).trans p1
  replace p2 := (bA.cell (p := ⟨w.heap.size, 2, none⟩) pl).trans p2
  replace pl := Nat.lt_of_lt_of_le pl bA.size
  replace q0 := (bA.cell (p := ⟨w.heap.size + 1, 0, none⟩) ql).trans q0
  replace q1 := (bA.cell (p := ⟨w.heap.size + 1, 1, none⟩) ql).trans q1
  replace ql := Nat.lt_of_lt_of_le ql bA.size
  replace cc := cc.trans (bA.mono cc.size)
  clear bA
  have x0 : (w4.alloc (.cells #[.bool bx, .slice Ax nx cx, .slice Bx mx dx] 27)).cell? ⟨w4.heap.size, 0, none⟩ = some (.bool bx) := by simp [go_sem]
  have x1 : (w4.alloc (.cells #[.bool bx, .slice Ax nx cx, .slice Bx mx dx] 27)).cell? ⟨w4.heap.size, 1, none⟩ = some (.slice Ax nx cx) := by simp [go_sem]
  have x2 : (w4.alloc (.cells #[.bool bx, .slice Ax nx cx, .slice Bx mx dx] 27)).cell? ⟨w4.heap.size, 2, none⟩ = some (.slice Bx mx dx) := by simp [go_sem]
  have xl : w4.heap.size < (w4.alloc (.cells #[.bool bx, .slice Ax nx cx, .slice Bx mx dx] 27)).heap.size := by simp
  generalize w4.alloc (.cells #[.bool bx, .slice Ax nx cx, .slice Bx mx dx] 27) = v5 at *
  refine (rtmake_N h1 h2 hy (Nat.le_trans k1 (by omega)) (Nat.le_trans k2 (by omega))).mono ?_
  rintro e w6 ⟨bv, Av, nv, cv, Bv, mv, dv, rfl, hv, b⟩
  replace h1 := h1.on b
  replace h2 := h2.on b
  replace hx := hx.on b
  replace p0 := (b.cell (p := ⟨w.heap.size, 0, none⟩) pl).trans p0
  replace p1 := (b.cell (p := ⟨w.heap.size, 1, none⟩) pl).trans p1
  replace p2 := (b.cell (p := ⟨w.heap.size, 2, none⟩) pl).trans p2
  replace pl := Nat.lt_of_lt_of_le pl b.size
  replace q0 := (b.cell (p := ⟨w.heap.size + 1, 0, none⟩) ql).trans q0
  replace q1 := (b.cell (p := ⟨w.heap.size + 1, 1, none⟩) ql).trans q1
  replace ql := Nat.lt_of_lt_of_le ql b.size
  replace x0 := (b.cell (p := ⟨w4.heap.size, 0, none⟩) xl).trans x0
  replace x1 := (b.cell (p := ⟨w4.heap.size, 1, none⟩) xl).trans x1
  replace x2 := (b.cell (p := ⟨w4.heap.size, 2, none⟩) xl).trans x2
  replace xl := Nat.lt_of_lt_of_le xl b.size
  replace cc := cc.trans (b.mono cc.size)
  clear b
  go_wp2_with fail
  have bA := below_one w6 (.cells #[.bool bv, .slice Av nv cv, .slice Bv mv dv] 27)
  replace h1 := h1.on bA
  replace h2 := h2.on bA
  replace hx := hx.on bA
  replace hv := hv.on bA
  replace p0 := (bA.cell (p := ⟨w.heap.size, 0, none⟩) pl).trans p0
  replace p1 := (bA.cell (p := ⟨w.heap.size, 1, none⟩) pl).trans p1
  replace p2 := (bA.cell (p := ⟨w.heap.size, 2, none⟩) pl).trans p2
  replace pl := Nat.lt_of_lt_of_le pl bA.size
  replace q0 := (bA.cell (p := ⟨w.heap.size + 1, 0, none⟩) ql).trans q0
  replace q1 := (bA.cell (p := ⟨w.heap.size + 1, 1, none⟩) ql).trans q1
  replace ql := Nat.lt_of_lt_of_le ql bA.size
  replace x0 := (bA.cell (p := ⟨w4.heap.size, 0, none⟩) xl).trans x0
  replace x1 := (bA.cell (p := ⟨w4.heap.size, 1, none⟩) xl).trans x1
  replace x2 := (bA.cell (p := ⟨w4.heap.size, 2, none⟩) xl).trans x2
  replace xl := Nat.lt_of_lt_of_le xl bA.size
  replace cc := cc.trans (bA.mono cc.size)
  clear bA
  have v0 : (w6.alloc (.cells #[.bool bv, .slice Av nv cv, .slice Bv mv dv] 27)).cell? ⟨w6.heap.size, 0, none⟩ = some (.bool bv) := by simp [go_sem]
  have v1 : (w6.alloc (.cells #[.bool bv, .slice Av nv cv, .slice Bv mv dv] 27)).cell? ⟨w6.heap.size, 1, none⟩ = some (.slice Av nv cv) := by simp [go_sem]
  have v2 : (w6.alloc (.cells #[.bool bv, .slice Av nv cv, .slice Bv mv dv] 27)).cell? ⟨w6.heap.size, 2, none⟩ = some (.slice Bv mv dv) := by simp [go_sem]
  have vl : w6.heap.size < (w6.alloc (.cells #[.bool bv, .slice Av nv cv, .slice Bv mv dv] 27)).heap.size := by simp
  generalize w6.alloc (.cells #[.bool bv, .slice Av nv cv, .slice Bv mv dv] 27) = v7 at *
  refine (rzint_no h1 (Nat.le_trans k1 (by omega)) hz).mono ?_
  rintro e w8 ⟨rfl, b⟩
  replace h1 := h1.on b
  replace h2 := h2.on b
  replace hx := hx.on b
  replace hv := hv.on b
  replace p0 := (b.cell (p := ⟨w.heap.size, 0, none⟩) pl).trans p0
  replace p1 := (b.cell (p := ⟨w.heap.size, 1, none⟩) pl).trans p1
  replace p2 := (b.cell (p := ⟨w.heap.size, 2, none⟩) pl).trans p2
  replace pl := Nat.lt_of_lt_of_le pl b.size
  replace q0 := (b.cell (p := ⟨w.heap.size + 1, 0, none⟩) ql).trans q0
  replace q1 := (b.cell (p := ⟨w.heap.size + 1, 1, none⟩) ql).trans q1
  replace ql := Nat.lt_of_lt_of_le ql b.size
  replace x0 := (b.cell (p := ⟨w4.heap.size, 0, none⟩) xl).trans x0
  replace x1 := (b.cell (p := ⟨w4.heap.size, 1, none⟩) xl).trans x1
  replace x2 := (b.cell (p := ⟨w4.heap.size, 2, none⟩) xl).trans x2
  replace xl := Nat.lt_of_lt_of_le xl b.size
  replace v0 := (b.cell (p := ⟨w6.heap.size, 0, none⟩) vl).trans v0
  replace v1 := (b.cell (p := ⟨w6.heap.size, 1, none⟩) vl).trans v1
  replace v2 := (b.cell (p := ⟨w6.heap.size, 2, none⟩) vl).trans v2
  replace vl := Nat.lt_of_lt_of_le vl b.size
  replace cc := cc.trans (b.mono cc.size)
  clear b
  go_wp2_with fail
  have bD : Below w8.heap.size w8 w8.drew := below_drewN (Below.refl _ w8) 1
  replace h1 := h1.on bD
  replace h2 := h2.on bD
  replace hx := hx.on bD
  replace hv := hv.on bD
  replace p0 := (bD.cell (p := ⟨w.heap.size, 0, none⟩) pl).trans p0
  replace p1 := (bD.cell (p := ⟨w.heap.size, 1, none⟩) pl).trans p1
  replace p2 := (bD.cell (p := ⟨w.heap.size, 2, none⟩) pl).trans p2
  replace pl := Nat.lt_of_lt_of_le pl bD.size
  replace q0 := (bD.cell (p := ⟨w.heap.size + 1, 0, none⟩) ql).trans q0
  replace q1 := (bD.cell (p := ⟨w.heap.size + 1, 1, none⟩) ql).trans q1
  replace ql := Nat.lt_of_lt_of_le ql bD.size
  replace x0 := (bD.cell (p := ⟨w4.heap.size, 0, none⟩) xl).trans x0
  replace x1 := (bD.cell (p := ⟨w4.heap.size, 1, none⟩) xl).trans x1
  replace x2 := (bD.cell (p := ⟨w4.heap.size, 2, none⟩) xl).trans x2
  replace xl := Nat.lt_of_lt_of_le xl bD.size
  replace v0 := (bD.cell (p := ⟨w6.heap.size, 0, none⟩) vl).trans v0
  replace v1 := (bD.cell (p := ⟨w6.heap.size, 1, none⟩) vl).trans v1
  replace v2 := (bD.cell (p := ⟨w6.heap.size, 2, none⟩) vl).trans v2
  replace vl := Nat.lt_of_lt_of_le vl bD.size
  replace cc := cc.trans (bD.mono cc.size)
  clear bD
  refine wp_region_held_drew (S := fun w' => w'.cell? ⟨w.heap.size, 0, none⟩ = some (.bool b0) ∧ w'.cell? ⟨w.heap.size, 1, none⟩ = some (.slice A0 n0 c0) ∧ w'.cell? ⟨w.heap.size, 2, none⟩ = some (.slice B0 m0 d0) ∧ w'.cell? ⟨w.heap.size + 1, 0, none⟩ = some (.bool b1) ∧ w'.cell? ⟨w.heap.size + 1, 1, none⟩ = some (.slice A1 n1 c1) ∧ w'.cell? ⟨w4.heap.size, 0, none⟩ = some (.bool bx) ∧ w'.cell? ⟨w4.heap.size, 1, none⟩ = some (.slice Ax nx cx) ∧ w'.cell? ⟨w4.heap.size, 2, none⟩ = some (.slice Bx mx dx) ∧ w'.cell? ⟨w6.heap.size, 0, none⟩ = some (.bool bv) ∧ w'.cell? ⟨w6.heap.size, 1, none⟩ = some (.slice Av nv cv) ∧ w'.cell? ⟨w6.heap.size, 2, none⟩ = some (.slice Bv mv dv)) (by kernel_rfl) ?_ (fun hHeld => ?_)
  · exact ⟨p0, p1, p2, q0, q1, x0, x1, x2, v0, v1, v2⟩
  refine wpAnyH_ready (rs := [0]) (by kernel_rfl) (by simp) ?_
  refine AllReadyH.cons rfl (fun K hK => ?_) AllReadyH.nil
  (try simp only [List.getElem_toArray, List.getElem_cons_zero, List.getElem_cons_succ])
  rw [if_pos (by rfl)]
  go_simp
  go_at_call 12
  refine (alive5_any _).mono ?_
  rintro e w9 ⟨rfl, b⟩
  replace h1 := h1.on b
  replace h2 := h2.on b
  replace hx := hx.on b
  replace hv := hv.on b
  replace p0 := (b.cell (p := ⟨w.heap.size, 0, none⟩) pl).trans p0
  replace p1 := (b.cell (p := ⟨w.heap.size, 1, none⟩) pl).trans p1
  replace p2 := (b.cell (p := ⟨w.heap.size, 2, none⟩) pl).trans p2
  replace pl := Nat.lt_of_lt_of_le pl b.size
  replace q0 := (b.cell (p := ⟨w.heap.size + 1, 0, none⟩) ql).trans q0
  replace q1 := (b.cell (p := ⟨w.heap.size + 1, 1, none⟩) ql).trans q1
  replace ql := Nat.lt_of_lt_of_le ql b.size
  replace x0 := (b.cell (p := ⟨w4.heap.size, 0, none⟩) xl).trans x0
  replace x1 := (b.cell (p := ⟨w4.heap.size, 1, none⟩) xl).trans x1
  replace x2 := (b.cell (p := ⟨w4.heap.size, 2, none⟩) xl).trans x2
  replace xl := Nat.lt_of_lt_of_le xl b.size
  replace v0 := (b.cell (p := ⟨w6.heap.size, 0, none⟩) vl).trans v0
  replace v1 := (b.cell (p := ⟨w6.heap.size, 1, none⟩) vl).trans v1
  replace v2 := (b.cell (p := ⟨w6.heap.size, 2, none⟩) vl).trans v2
  replace vl := Nat.lt_of_lt_of_le vl b.size
  replace cc := cc.trans (b.mono cc.size)
  clear b
  refine hK.out _ _ ?_ (fun hHeld => ?_)
  · exact ⟨p0, p1, p2, q0, q1, x0, x1, x2, v0, v1, v2⟩
  clear hK K
  try simp only [Act.put, List.getElem_toArray, List.getElem_cons_zero, List.getElem_cons_succ, List.setIfInBounds_toArray, List.set_cons_zero, List.set_cons_succ]
  refine wpAnyH_take (i := 1) (v := ?_) rfl (by kernel_rfl) (by kernel_rfl) (by kernel_rfl) (fun _ _ _ h => h) (Or.inl ⟨by rfl, ?_⟩) hHeld ?_
  rotate_left
  · (intro w hSw; (try dsimp only at hSw); go_simp; (try with_reducible rfl))
  try simp only [Act.put, List.getElem_toArray, List.getElem_cons_zero, List.getElem_cons_succ, List.setIfInBounds_toArray, List.set_cons_zero, List.set_cons_succ]
  refine wpAnyH_take (i := 2) (v := ?_) rfl (by kernel_rfl) (by kernel_rfl) (by kernel_rfl) (fun _ _ _ h => h) (Or.inl ⟨by rfl, ?_⟩) hHeld ?_
  rotate_left
  · (intro w hSw; (try dsimp only at hSw); go_simp; (try with_reducible rfl))
  try simp only [Act.put, List.getElem_toArray, List.getElem_cons_zero, List.getElem_cons_succ, List.setIfInBounds_toArray, List.set_cons_zero, List.set_cons_succ]
  refine wpAnyH_take (i := 4) (v := ?_) rfl (by kernel_rfl) (by kernel_rfl) (by kernel_rfl) (fun _ _ _ h => h) (Or.inl ⟨by rfl, ?_⟩) hHeld ?_
  rotate_left
  · (intro w hSw; (try dsimp only at hSw); go_simp; (try with_reducible rfl))
  try simp only [Act.put, List.getElem_toArray, List.getElem_cons_zero, List.getElem_cons_succ, List.setIfInBounds_toArray, List.set_cons_zero, List.set_cons_succ]
  refine wpAnyH_ready (rs := [3]) (by kernel_rfl) (by simp) ?_
  refine AllReadyH.cons rfl (fun K hK => ?_) AllReadyH.nil
  (try simp only [List.getElem_toArray, List.getElem_cons_zero, List.getElem_cons_succ])
  rw [if_pos (by rfl)]
  go_simp
  go_at_call 16
  refine (GA _ cc).mono ?_
  rintro e w10 ⟨rfl, b⟩
  replace h1 := h1.on b
  replace h2 := h2.on b
  replace hx := hx.on b
  replace hv := hv.on b
  replace p0 := (b.cell (p := ⟨w.heap.size, 0, none⟩) pl).trans p0
  replace p1 := (b.cell (p := ⟨w.heap.size, 1, none⟩) pl).trans p1
  replace p2 := (b.cell (p := ⟨w.heap.size, 2, none⟩) pl).trans p2
  replace pl := Nat.lt_of_lt_of_le pl b.size
  replace q0 := (b.cell (p := ⟨w.heap.size + 1, 0, none⟩) ql).trans q0
  replace q1 := (b.cell (p := ⟨w.heap.size + 1, 1, none⟩) ql).trans q1
  replace ql := Nat.lt_of_lt_of_le ql b.size
  replace x0 := (b.cell (p := ⟨w4.heap.size, 0, none⟩) xl).trans x0
  replace x1 := (b.cell (p := ⟨w4.heap.size, 1, none⟩) xl).trans x1
  replace x2 := (b.cell (p := ⟨w4.heap.size, 2, none⟩) xl).trans x2
  replace xl := Nat.lt_of_lt_of_le xl b.size
  replace v0 := (b.cell (p := ⟨w6.heap.size, 0, none⟩) vl).trans v0
  replace v1 := (b.cell (p := ⟨w6.heap.size, 1, none⟩) vl).trans v1
  replace v2 := (b.cell (p := ⟨w6.heap.size, 2, none⟩) vl).trans v2
  replace vl := Nat.lt_of_lt_of_le vl b.size
  replace cc := cc.trans (b.mono cc.size)
  clear b
  refine hK.out _ _ ?_ (fun hHeld => ?_)
  · exact ⟨p0, p1, p2, q0, q1, x0, x1, x2, v0, v1, v2⟩
  clear hK K
  try simp only [Act.put, List.getElem_toArray, List.getElem_cons_zero, List.getElem_cons_succ, List.setIfInBounds_toArray, List.set_cons_zero, List.set_cons_succ]
  refine wpAnyH_ready (rs := [5]) (by kernel_rfl) (by simp) ?_
  refine AllReadyH.cons rfl (fun K hK => ?_) AllReadyH.nil
  (try simp only [List.getElem_toArray, List.getElem_cons_zero, List.getElem_cons_succ])
  rw [if_pos (by rfl)]
  go_simp
  go_at_call 17
  refine (GB _ cc).mono ?_
  rintro e w11 ⟨rfl, b⟩
  replace h1 := h1.on b
  replace h2 := h2.on b
  replace hx := hx.on b
  replace hv := hv.on b
  replace p0 := (b.cell (p := ⟨w.heap.size, 0, none⟩) pl).trans p0
  replace p1 := (b.cell (p := ⟨w.heap.size, 1, none⟩) pl).trans p1
  replace p2 := (b.cell (p := ⟨w.heap.size, 2, none⟩) pl).trans p2
  replace pl := Nat.lt_of_lt_of_le pl b.size
  replace q0 := (b.cell (p := ⟨w.heap.size + 1, 0, none⟩) ql).trans q0
  replace q1 := (b.cell (p := ⟨w.heap.size + 1, 1, none⟩) ql).trans q1
  replace ql := Nat.lt_of_lt_of_le ql b.size
  replace x0 := (b.cell (p := ⟨w4.heap.size, 0, none⟩) xl).trans x0
  replace x1 := (b.cell (p := ⟨w4.heap.size, 1, none⟩) xl).trans x1
  replace x2 := (b.cell (p := ⟨w4.heap.size, 2, none⟩) xl).trans x2
  replace xl := Nat.lt_of_lt_of_le xl b.size
  replace v0 := (b.cell (p := ⟨w6.heap.size, 0, none⟩) vl).trans v0
  replace v1 := (b.cell (p := ⟨w6.heap.size, 1, none⟩) vl).trans v1
  replace v2 := (b.cell (p := ⟨w6.heap.size, 2, none⟩) vl).trans v2
  replace vl := Nat.lt_of_lt_of_le vl b.size
  replace cc := cc.trans (b.mono cc.size)
  clear b
  refine hK.out _ _ ?_ (fun hHeld => ?_)
  · exact ⟨p0, p1, p2, q0, q1, x0, x1, x2, v0, v1, v2⟩
  clear hK K
  try simp only [Act.put, List.getElem_toArray, List.getElem_cons_zero, List.getElem_cons_succ, List.setIfInBounds_toArray, List.set_cons_zero, List.set_cons_succ]
  refine wpAnyH_take (i := 6) (v := ?_) rfl (by kernel_rfl) (by kernel_rfl) (by kernel_rfl) (fun _ _ _ h => h) (Or.inl ⟨by rfl, ?_⟩) hHeld ?_
  rotate_left
  · (intro w hSw; (try dsimp only at hSw); go_simp; (try with_reducible rfl))
  try simp only [Act.put, List.getElem_toArray, List.getElem_cons_zero, List.getElem_cons_succ, List.setIfInBounds_toArray, List.set_cons_zero, List.set_cons_succ]
  refine wpAnyH_take (i := 7) (v := ?_) rfl (by kernel_rfl) (by kernel_rfl) (by kernel_rfl) (fun _ _ _ h => h) (Or.inl ⟨by rfl, ?_⟩) hHeld ?_
  rotate_left
  · (intro w hSw; (try dsimp only at hSw); go_simp; (try with_reducible rfl))
  try simp only [Act.put, List.getElem_toArray, List.getElem_cons_zero, List.getElem_cons_succ, List.setIfInBounds_toArray, List.set_cons_zero, List.set_cons_succ]
  refine wpAnyH_take (i := 8) (v := ?_) rfl (by kernel_rfl) (by kernel_rfl) (by kernel_rfl) (fun _ _ _ h => h) (Or.inl ⟨by rfl, ?_⟩) hHeld ?_
  rotate_left
  · (intro w hSw; (try dsimp only at hSw); go_simp; (try with_reducible rfl))
  try simp only [Act.put, List.getElem_toArray, List.getElem_cons_zero, List.getElem_cons_succ, List.setIfInBounds_toArray, List.set_cons_zero, List.set_cons_succ]
  refine wpAnyH_take (i := 9) (v := ?_) rfl (by kernel_rfl) (by kernel_rfl) (by kernel_rfl) (fun _ _ _ h => h) (Or.inl ⟨by rfl, ?_⟩) hHeld ?_
  rotate_left
  · (intro w hSw; (try dsimp only at hSw); go_simp; (try with_reducible rfl))
  try simp only [Act.put, List.getElem_toArray, List.getElem_cons_zero, List.getElem_cons_succ, List.setIfInBounds_toArray, List.set_cons_zero, List.set_cons_succ]
  refine wpAnyH_take (i := 10) (v := ?_) rfl (by kernel_rfl) (by kernel_rfl) (by kernel_rfl) (fun _ _ _ h => h) (Or.inl ⟨by rfl, ?_⟩) hHeld ?_
  rotate_left
  · (intro w hSw; (try dsimp only at hSw); go_simp; (try with_reducible rfl))
  try simp only [Act.put, List.getElem_toArray, List.getElem_cons_zero, List.getElem_cons_succ, List.setIfInBounds_toArray, List.set_cons_zero, List.set_cons_succ]
  refine wpAnyH_ready (rs := [11]) (by kernel_rfl) (by simp) ?_
  refine AllReadyH.cons rfl (fun K hK => ?_) AllReadyH.nil
  (try simp only [List.getElem_toArray, List.getElem_cons_zero, List.getElem_cons_succ])
  rw [if_pos (by rfl)]
  go_simp
  go_at_call 18
  refine (rtsame_self hx (su.le (by omega)) hv).mono ?_
  rintro e w12 ⟨rfl, b⟩
  replace h1 := h1.on b
  replace h2 := h2.on b
  replace hx := hx.on b
  replace hv := hv.on b
  replace p0 := (b.cell (p := ⟨w.heap.size, 0, none⟩) pl).trans p0
  replace p1 := (b.cell (p := ⟨w.heap.size, 1, none⟩) pl).trans p1
  replace p2 := (b.cell (p := ⟨w.heap.size, 2, none⟩) pl).trans p2
  replace pl := Nat.lt_of_lt_of_le pl b.size
  replace q0 := (b.cell (p := ⟨w.heap.size + 1, 0, none⟩) ql).trans q0
  replace q1 := (b.cell (p := ⟨w.heap.size + 1, 1, none⟩) ql).trans q1
  replace ql := Nat.lt_of_lt_of_le ql b.size
  replace x0 := (b.cell (p := ⟨w4.heap.size, 0, none⟩) xl).trans x0
  replace x1 := (b.cell (p := ⟨w4.heap.size, 1, none⟩) xl).trans x1
  replace x2 := (b.cell (p := ⟨w4.heap.size, 2, none⟩) xl).trans x2
  replace xl := Nat.lt_of_lt_of_le xl b.size
  replace v0 := (b.cell (p := ⟨w6.heap.size, 0, none⟩) vl).trans v0
  replace v1 := (b.cell (p := ⟨w6.heap.size, 1, none⟩) vl).trans v1
  replace v2 := (b.cell (p := ⟨w6.heap.size, 2, none⟩) vl).trans v2
  replace vl := Nat.lt_of_lt_of_le vl b.size
  replace cc := cc.trans (b.mono cc.size)
  clear b
  refine hK.out _ _ ?_ (fun hHeld => ?_)
  · exact ⟨p0, p1, p2, q0, q1, x0, x1, x2, v0, v1, v2⟩
  clear hK K
  try simp only [Act.put, List.getElem_toArray, List.getElem_cons_zero, List.getElem_cons_succ, List.setIfInBounds_toArray, List.set_cons_zero, List.set_cons_succ]
  refine wpAnyH_take (i := 12) (v := ?_) rfl (by kernel_rfl) (by kernel_rfl) (by kernel_rfl) (fun _ _ _ h => h) (Or.inl ⟨by rfl, ?_⟩) hHeld ?_
  rotate_left
  · (intro w hSw; (try dsimp only at hSw); go_simp; (try with_reducible rfl))
  try simp only [Act.put, List.getElem_toArray, List.getElem_cons_zero, List.getElem_cons_succ, List.setIfInBounds_toArray, List.set_cons_zero, List.set_cons_succ]
  refine wpAnyH_take (i := 13) (v := ?_) rfl (by kernel_rfl) (by kernel_rfl) (by kernel_rfl) (fun _ _ _ h => h) (Or.inl ⟨by rfl, ?_⟩) hHeld ?_
  rotate_left
  · (intro w hSw; (try dsimp only at hSw); go_simp; (try with_reducible rfl))
  try simp only [Act.put, List.getElem_toArray, List.getElem_cons_zero, List.getElem_cons_succ, List.setIfInBounds_toArray, List.set_cons_zero, List.set_cons_succ]
  refine wpAnyH_take (i := 14) (v := ?_) rfl (by kernel_rfl) (by kernel_rfl) (by kernel_rfl) (fun _ _ _ h => h) (Or.inl ⟨by rfl, ?_⟩) hHeld ?_
  rotate_left
  · (intro w hSw; (try dsimp only at hSw); go_simp; (try with_reducible rfl))
  try simp only [Act.put, List.getElem_toArray, List.getElem_cons_zero, List.getElem_cons_succ, List.setIfInBounds_toArray, List.set_cons_zero, List.set_cons_succ]
  refine wpAnyH_take (i := 15) (v := ?_) rfl (by kernel_rfl) (by kernel_rfl) (by kernel_rfl) (fun _ _ _ h => h) (Or.inl ⟨by rfl, ?_⟩) hHeld ?_
  rotate_left
  · (intro w hSw; (try dsimp only at hSw); go_simp; (try with_reducible rfl))
  try simp only [Act.put, List.getElem_toArray, List.getElem_cons_zero, List.getElem_cons_succ, List.setIfInBounds_toArray, List.set_cons_zero, List.set_cons_succ]
  refine wpAnyH_take (i := 16) (v := ?_) rfl (by kernel_rfl) (by kernel_rfl) (by kernel_rfl) (fun _ _ _ h => h) (Or.inl ⟨by rfl, ?_⟩) hHeld ?_
  rotate_left
  · (intro w hSw; (try dsimp only at hSw); go_simp; (try with_reducible rfl))
  try simp only [Act.put, List.getElem_toArray, List.getElem_cons_zero, List.getElem_cons_succ, List.setIfInBounds_toArray, List.set_cons_zero, List.set_cons_succ]
  refine wpAnyH_take (i := 17) (v := ?_) rfl (by kernel_rfl) (by kernel_rfl) (by kernel_rfl) (fun _ _ _ h => h) (Or.inl ⟨by rfl, ?_⟩) hHeld ?_
  rotate_left
  · (intro w hSw; (try dsimp only at hSw); go_simp; (try with_reducible rfl))
  try simp only [Act.put, List.getElem_toArray, List.getElem_cons_zero, List.getElem_cons_succ, List.setIfInBounds_toArray, List.set_cons_zero, List.set_cons_succ]
  refine wpAnyH_take (i := 18) (v := ?_) rfl (by kernel_rfl) (by kernel_rfl) (by kernel_rfl) (fun _ _ _ h => h) (Or.inl ⟨by rfl, ?_⟩) hHeld ?_
  rotate_left
  · (intro w hSw; (try dsimp only at hSw); go_simp; (try with_reducible rfl))
  try simp only [Act.put, List.getElem_toArray, List.getElem_cons_zero, List.getElem_cons_succ, List.setIfInBounds_toArray, List.set_cons_zero, List.set_cons_succ]
  refine wpAnyH_take (i := 19) (v := ?_) rfl (by kernel_rfl) (by kernel_rfl) (by kernel_rfl) (fun _ _ _ h => h) (Or.inl ⟨by rfl, ?_⟩) hHeld ?_
  rotate_left
  · (intro w hSw; (try dsimp only at hSw); go_simp; (try with_reducible rfl))
  try simp only [Act.put, List.getElem_toArray, List.getElem_cons_zero, List.getElem_cons_succ, List.setIfInBounds_toArray, List.set_cons_zero, List.set_cons_succ]
  refine wpAnyH_take (i := 20) (v := ?_) rfl (by kernel_rfl) (by kernel_rfl) (by kernel_rfl) (fun _ _ _ h => h) (Or.inl ⟨by rfl, ?_⟩) hHeld ?_
  rotate_left
  · (intro w hSw; (try dsimp only at hSw); go_simp; (try with_reducible rfl))
  try simp only [Act.put, List.getElem_toArray, List.getElem_cons_zero, List.getElem_cons_succ, List.setIfInBounds_toArray, List.set_cons_zero, List.set_cons_succ]
  refine wpAnyH_take (i := 21) (v := ?_) rfl (by kernel_rfl) (by kernel_rfl) (by kernel_rfl) (fun _ _ _ h => h) (Or.inl ⟨by rfl, ?_⟩) hHeld ?_
  rotate_left
  · (intro w hSw; (try dsimp only at hSw); go_simp; (try with_reducible rfl))
  try simp only [Act.put, List.getElem_toArray, List.getElem_cons_zero, List.getElem_cons_succ, List.setIfInBounds_toArray, List.set_cons_zero, List.set_cons_succ]
  refine wpAnyH_take (i := 22) (v := undef) rfl (by kernel_rfl) (by kernel_rfl) (by kernel_rfl) (fun _ _ _ h => h) (Or.inr ⟨by rfl, rfl⟩) hHeld ?_
  try simp only [Act.put, List.getElem_toArray, List.getElem_cons_zero, List.getElem_cons_succ, List.setIfInBounds_toArray, List.set_cons_zero, List.set_cons_succ]
  refine wpAnyH_take (i := 23) (v := undef) rfl (by kernel_rfl) (by kernel_rfl) (by kernel_rfl) (fun _ _ _ h => h) (Or.inr ⟨by rfl, rfl⟩) hHeld ?_
  try simp only [Act.put, List.getElem_toArray, List.getElem_cons_zero, List.getElem_cons_succ, List.setIfInBounds_toArray, List.set_cons_zero, List.set_cons_succ]
  refine wpAnyH_take (i := 24) (v := undef) rfl (by kernel_rfl) (by kernel_rfl) (by kernel_rfl) (fun _ _ _ h => h) (Or.inr ⟨by rfl, rfl⟩) hHeld ?_
  try simp only [Act.put, List.getElem_toArray, List.getElem_cons_zero, List.getElem_cons_succ, List.setIfInBounds_toArray, List.set_cons_zero, List.set_cons_succ]
  refine wpAnyH_take (i := 25) (v := undef) rfl (by kernel_rfl) (by kernel_rfl) (by kernel_rfl) (fun _ _ _ h => h) (Or.inr ⟨by rfl, rfl⟩) hHeld ?_
  try simp only [Act.put, List.getElem_toArray, List.getElem_cons_zero, List.getElem_cons_succ, List.setIfInBounds_toArray, List.set_cons_zero, List.set_cons_succ]
  refine wpAnyH_take (i := 26) (v := undef) rfl (by kernel_rfl) (by kernel_rfl) (by kernel_rfl) (fun _ _ _ h => h) (Or.inr ⟨by rfl, rfl⟩) hHeld ?_
  try simp only [Act.put, List.getElem_toArray, List.getElem_cons_zero, List.getElem_cons_succ, List.setIfInBounds_toArray, List.set_cons_zero, List.set_cons_succ]
  refine wpAnyH_take (i := 27) (v := ?_) rfl (by kernel_rfl) (by kernel_rfl) (by kernel_rfl) (fun _ _ _ h => h) (Or.inl ⟨by rfl, ?_⟩) hHeld ?_
  rotate_left
  · (intro w hSw; (try dsimp only at hSw); go_simp; (try with_reducible rfl))
  try simp only [Act.put, List.getElem_toArray, List.getElem_cons_zero, List.getElem_cons_succ, List.setIfInBounds_toArray, List.set_cons_zero, List.set_cons_succ]
  refine wpAnyH_take (i := 28) (v := ?_) rfl (by kernel_rfl) (by kernel_rfl) (by kernel_rfl) (fun _ _ _ h => h) (Or.inl ⟨by rfl, ?_⟩) hHeld ?_
  rotate_left
  · (intro w hSw; (try dsimp only at hSw); go_simp; (try with_reducible rfl))
  try simp only [Act.put, List.getElem_toArray, List.getElem_cons_zero, List.getElem_cons_succ, List.setIfInBounds_toArray, List.set_cons_zero, List.set_cons_succ]
  refine wpAnyH_take (i := 29) (v := ?_) rfl (by kernel_rfl) (by kernel_rfl) (by kernel_rfl) (fun _ _ _ h => h) (Or.inl ⟨by rfl, ?_⟩) hHeld ?_
  rotate_left
  · (intro w hSw; (try dsimp only at hSw); go_simp; (try with_reducible rfl))
  try simp only [Act.put, List.getElem_toArray, List.getElem_cons_zero, List.getElem_cons_succ, List.setIfInBounds_toArray, List.set_cons_zero, List.set_cons_succ]
  refine wpAnyH_done (by kernel_rfl) ?_ _
  clear hHeld
  go_wp2_with fail
  go_ret
  exact ⟨rfl, cc⟩

set_option maxRecDepth 100000 in
set_option maxHeartbeats 8000000 in
theorem RatTells_zeroI {w : World} {b0 b1 : Bool} {A0 B0 A1 A2 : Option Addr} {n0 c0 m0 d0 n1 c1 n2 c2 : Nat} (t0 : decide ((6 : Int) < (n0 : Int)) = false) (t1 : decide ((6 : Int) < (m0 : Int)) = false) (G1 : ∀ W : World, Below w.heap.size w W → Calls Try.prog 10 #[.agg #[.bool b1, .slice A1 n1 c1], .int .i64 6] W (GotV W (.bool true))) (t3 : decide ((6 : Int) < (n2 : Int)) = false) (G2 : ∀ W : World, Below w.heap.size w W → Calls Try.prog 11 #[.slice A2 n2 c2] W (GotV W (.bool true))) (r : Bool) (GA : ∀ W : World, Below w.heap.size w W → Calls Try.prog 16 #[.agg #[.bool b0, .slice A0 n0 c0, .slice B0 m0 d0]] W (GotV W (.bool r))) (GB : ∀ W : World, Below w.heap.size w W → Calls Try.prog 17 #[.agg #[.bool b0, .slice A0 n0 c0, .slice B0 m0 d0]] W (GotV W (.bool r))) {z : Int} {y : Nat} (h1 : Zn w b1 A1 n1 c1 z) (l1 : (limbs z.natAbs).length ≤ 6) (h2 : Num w A2 n2 c2 y) (l2 : (limbs y).length ≤ 6) (hz : I64 z) (hn2 : n2 = 0) :
    Calls Try.prog 3 #[.agg #[.bool b0, .slice A0 n0 c0, .slice B0 m0 d0], .agg #[.bool b1, .slice A1 n1 c1], .slice A2 n2 c2] w fun e w' => e = .returned (.bool true) ∧ Below w.heap.size w w' := by
  have k1 : (limbs z.natAbs).length ≤ 40 := by omega
  have k2 : (limbs y).length ≤ 40 := by omega
  have sn : Sz ((z : Int) : Rat) 1 := sz_of (len_one hz.abs)
  subst hn2
  have cc := Below.refl w.heap.size w
  go_enter Try.func3, Try.ntmps3
  go_wp2_with fail
  have bA : Below w.heap.size w ((w.alloc (.cells #[.bool b0, .slice A0 n0 c0, .slice B0 m0 d0] 27)).alloc (.cells #[.bool b1, .slice A1 n1 c1] 25)) := (((Below.refl _ w).alloc (by simp) _).alloc (by simp) _)
  replace h1 := h1.on bA
  replace h2 := h2.on bA
  replace cc := cc.trans (bA.mono cc.size)
  clear bA
  have p0 : ((w.alloc (.cells #[.bool b0, .slice A0 n0 c0, .slice B0 m0 d0] 27)).alloc (.cells #[.bool b1, .slice A1 n1 c1] 25)).cell? ⟨w.heap.size, 0, none⟩ = some (.bool b0) := by simp [go_sem]
  have p1 : ((w.alloc (.cells #[.bool b0, .slice A0 n0 c0, .slice B0 m0 d0] 27)).alloc (.cells #[.bool b1, .slice A1 n1 c1] 25)).cell? ⟨w.heap.size, 1, none⟩ = some (.slice A0 n0 c0) := by simp [go_sem]
  have p2 : ((w.alloc (.cells #[.bool b0, .slice A0 n0 c0, .slice B0 m0 d0] 27)).alloc (.cells #[.bool b1, .slice A1 n1 c1] 25)).cell? ⟨w.heap.size, 2, none⟩ = some (.slice B0 m0 d0) := by simp [go_sem]
  have pl : w.heap.size < ((w.alloc (.cells #[.bool b0, .slice A0 n0 c0, .slice B0 m0 d0] 27)).alloc (.cells #[.bool b1, .slice A1 n1 c1] 25)).heap.size := by simp <;> omega
  have q0 : ((w.alloc (.cells #[.bool b0, .slice A0 n0 c0, .slice B0 m0 d0] 27)).alloc (.cells #[.bool b1, .slice A1 n1 c1] 25)).cell? ⟨w.heap.size + 1, 0, none⟩ = some (.bool b1) := by simp [go_sem]
  have q1 : ((w.alloc (.cells #[.bool b0, .slice A0 n0 c0, .slice B0 m0 d0] 27)).alloc (.cells #[.bool b1, .slice A1 n1 c1] 25)).cell? ⟨w.heap.size + 1, 1, none⟩ = some (.slice A1 n1 c1) := by simp [go_sem]
  have ql : w.heap.size + 1 < ((w.alloc (.cells #[.bool b0, .slice A0 n0 c0, .slice B0 m0 d0] 27)).alloc (.cells #[.bool b1, .slice A1 n1 c1] 25)).heap.size := by simp <;> omega
  generalize (w.alloc (.cells #[.bool b0, .slice A0 n0 c0, .slice B0 m0 d0] 27)).alloc (.cells #[.bool b1, .slice A1 n1 c1] 25) = v1 at *
  refine (G1 _ cc).mono ?_
  rintro e w2 ⟨rfl, b⟩
  replace h1 := h1.on b
  replace h2 := h2.on b
  replace p0 := (b.cell (p := ⟨w.heap.size, 0, none⟩) pl).trans p0
  replace p1 := (b.cell (p := ⟨w.heap.size, 1, none⟩) pl).trans p1
  replace p2 := (b.cell (p := ⟨w.heap.size, 2, none⟩) pl).trans p2
  replace pl := Nat.lt_of_lt_of_le pl b.size
  replace q0 := (b.cell (p := ⟨w.heap.size + 1, 0, none⟩) ql).trans q0
  replace q1 := (b.cell (p := ⟨w.heap.size + 1, 1, none⟩) ql).trans q1
  replace ql := Nat.lt_of_lt_of_le ql b.size
  replace cc := cc.trans (b.mono cc.size)
  clear b
  go_wp2_with fail
  refine (G2 _ cc).mono ?_
  rintro e w3 ⟨rfl, b⟩
  replace h1 := h1.on b
  replace h2 := h2.on b
  replace p0 := (b.cell (p := ⟨w.heap.size, 0, none⟩) pl).trans p0
  replace p1 := (b.cell (p := ⟨w.heap.size, 1, none⟩) pl).trans p1
  replace p2 := (b.cell (p := ⟨w.heap.size, 2, none⟩) pl).trans p2
  replace pl := Nat.lt_of_lt_of_le pl b.size
  replace q0 := (b.cell (p := ⟨w.heap.size + 1, 0, none⟩) ql).trans q0
  replace q1 := (b.cell (p := ⟨w.heap.size + 1, 1, none⟩) ql).trans q1
  replace ql := Nat.lt_of_lt_of_le ql b.size
  replace cc := cc.trans (b.mono cc.size)
  clear b
  go_wp2_with fail
  refine (qmake_zero).mono ?_
  rintro e w4 ⟨rfl, b⟩
  replace h1 := h1.on b
  replace h2 := h2.on b
  replace p0 := (b.cell (p := ⟨w.heap.size, 0, none⟩) pl).trans p0
  replace p1 := (b.cell (p := ⟨w.heap.size, 1, none⟩) pl).trans p1
  replace p2 := (b.cell (p := ⟨w.heap.size, 2, none⟩) pl).trans p2
  replace pl := Nat.lt_of_lt_of_le pl b.size
  replace q0 := (b.cell (p := ⟨w.heap.size + 1, 0, none⟩) ql).trans q0
  replace q1 := (b.cell (p := ⟨w.heap.size + 1, 1, none⟩) ql).trans q1
  replace ql := Nat.lt_of_lt_of_le ql b.size
  replace cc := cc.trans (b.mono cc.size)
  clear b
  go_wp2_with fail
  have bA := below_one w4 (.cells #[.bool false, .slice none 0 0, .slice none 0 0] 27)
  replace h1 := h1.on bA
  replace h2 := h2.on bA
  replace p0 := (bA.cell (p := ⟨w.heap.size, 0, none⟩) pl).trans p0
  replace p1 := (bA.cell (p := ⟨w.heap.size, 1, none⟩) pl).trans p1
  replace p2 := (bA.cell (p := ⟨w.heap.size, 2, none⟩) pl).trans p2
  replace pl := Nat.lt_of_lt_of_le pl bA.size
  replace q0 := (bA.cell (p := ⟨w.heap.size + 1, 0, none⟩) ql).trans q0
  replace q1 := (bA.cell (p := ⟨w.heap.size + 1, 1, none⟩) ql).trans q1
  replace ql := Nat.lt_of_lt_of_le ql bA.size
  replace cc := cc.trans (bA.mono cc.size)
  clear bA
  have x0 : (w4.alloc (.cells #[.bool false, .slice none 0 0, .slice none 0 0] 27)).cell? ⟨w4.heap.size, 0, none⟩ = some (.bool false) := by simp [go_sem]
  have x1 : (w4.alloc (.cells #[.bool false, .slice none 0 0, .slice none 0 0] 27)).cell? ⟨w4.heap.size, 1, none⟩ = some (.slice none 0 0) := by simp [go_sem]
  have x2 : (w4.alloc (.cells #[.bool false, .slice none 0 0, .slice none 0 0] 27)).cell? ⟨w4.heap.size, 2, none⟩ = some (.slice none 0 0) := by simp [go_sem]
  have xl : w4.heap.size < (w4.alloc (.cells #[.bool false, .slice none 0 0, .slice none 0 0] 27)).heap.size := by simp
  generalize w4.alloc (.cells #[.bool false, .slice none 0 0, .slice none 0 0] 27) = v5 at *
  refine (rtmake_zero).mono ?_
  rintro e w6 ⟨rfl, b⟩
  replace h1 := h1.on b
  replace h2 := h2.on b
  replace p0 := (b.cell (p := ⟨w.heap.size, 0, none⟩) pl).trans p0
  replace p1 := (b.cell (p := ⟨w.heap.size, 1, none⟩) pl).trans p1
  replace p2 := (b.cell (p := ⟨w.heap.size, 2, none⟩) pl).trans p2
  replace pl := Nat.lt_of_lt_of_le pl b.size
  replace q0 := (b.cell (p := ⟨w.heap.size + 1, 0, none⟩) ql).trans q0
  replace q1 := (b.cell (p := ⟨w.heap.size + 1, 1, none⟩) ql).trans q1
  replace ql := Nat.lt_of_lt_of_le ql b.size
  replace x0 := (b.cell (p := ⟨w4.heap.size, 0, none⟩) xl).trans x0
  replace x1 := (b.cell (p := ⟨w4.heap.size, 1, none⟩) xl).trans x1
  replace x2 := (b.cell (p := ⟨w4.heap.size, 2, none⟩) xl).trans x2
  replace xl := Nat.lt_of_lt_of_le xl b.size
  replace cc := cc.trans (b.mono cc.size)
  clear b
  go_wp2_with fail
  have bA := below_one w6 (.cells #[.bool false, .slice none 0 0, .slice none 0 0] 27)
  replace h1 := h1.on bA
  replace h2 := h2.on bA
  replace p0 := (bA.cell (p := ⟨w.heap.size, 0, none⟩) pl).trans p0
  replace p1 := (bA.cell (p := ⟨w.heap.size, 1, none⟩) pl).trans p1
  replace p2 := (bA.cell (p := ⟨w.heap.size, 2, none⟩) pl).trans p2
  replace pl := Nat.lt_of_lt_of_le pl bA.size
  replace q0 := (bA.cell (p := ⟨w.heap.size + 1, 0, none⟩) ql).trans q0
  replace q1 := (bA.cell (p := ⟨w.heap.size + 1, 1, none⟩) ql).trans q1
  replace ql := Nat.lt_of_lt_of_le ql bA.size
  replace x0 := (bA.cell (p := ⟨w4.heap.size, 0, none⟩) xl).trans x0
  replace x1 := (bA.cell (p := ⟨w4.heap.size, 1, none⟩) xl).trans x1
  replace x2 := (bA.cell (p := ⟨w4.heap.size, 2, none⟩) xl).trans x2
  replace xl := Nat.lt_of_lt_of_le xl bA.size
  replace cc := cc.trans (bA.mono cc.size)
  clear bA
  have y0 : (w6.alloc (.cells #[.bool false, .slice none 0 0, .slice none 0 0] 27)).cell? ⟨w6.heap.size, 0, none⟩ = some (.bool false) := by simp [go_sem]
  have y1 : (w6.alloc (.cells #[.bool false, .slice none 0 0, .slice none 0 0] 27)).cell? ⟨w6.heap.size, 1, none⟩ = some (.slice none 0 0) := by simp [go_sem]
  have y2 : (w6.alloc (.cells #[.bool false, .slice none 0 0, .slice none 0 0] 27)).cell? ⟨w6.heap.size, 2, none⟩ = some (.slice none 0 0) := by simp [go_sem]
  have yl : w6.heap.size < (w6.alloc (.cells #[.bool false, .slice none 0 0, .slice none 0 0] 27)).heap.size := by simp
  generalize w6.alloc (.cells #[.bool false, .slice none 0 0, .slice none 0 0] 27) = v7 at *
  refine (rzint_yes h1 hz).mono ?_
  rintro e w8 ⟨rfl, b⟩
  replace h1 := h1.on b
  replace h2 := h2.on b
  replace p0 := (b.cell (p := ⟨w.heap.size, 0, none⟩) pl).trans p0
  replace p1 := (b.cell (p := ⟨w.heap.size, 1, none⟩) pl).trans p1
  replace p2 := (b.cell (p := ⟨w.heap.size, 2, none⟩) pl).trans p2
  replace pl := Nat.lt_of_lt_of_le pl b.size
  replace q0 := (b.cell (p := ⟨w.heap.size + 1, 0, none⟩) ql).trans q0
  replace q1 := (b.cell (p := ⟨w.heap.size + 1, 1, none⟩) ql).trans q1
  replace ql := Nat.lt_of_lt_of_le ql b.size
  replace x0 := (b.cell (p := ⟨w4.heap.size, 0, none⟩) xl).trans x0
  replace x1 := (b.cell (p := ⟨w4.heap.size, 1, none⟩) xl).trans x1
  replace x2 := (b.cell (p := ⟨w4.heap.size, 2, none⟩) xl).trans x2
  replace xl := Nat.lt_of_lt_of_le xl b.size
  replace y0 := (b.cell (p := ⟨w6.heap.size, 0, none⟩) yl).trans y0
  replace y1 := (b.cell (p := ⟨w6.heap.size, 1, none⟩) yl).trans y1
  replace y2 := (b.cell (p := ⟨w6.heap.size, 2, none⟩) yl).trans y2
  replace yl := Nat.lt_of_lt_of_le yl b.size
  replace cc := cc.trans (b.mono cc.size)
  clear b
  go_wp2_with fail
  have bD : Below w8.heap.size w8 w8.drew := below_drewN (Below.refl _ w8) 1
  replace h1 := h1.on bD
  replace h2 := h2.on bD
  replace p0 := (bD.cell (p := ⟨w.heap.size, 0, none⟩) pl).trans p0
  replace p1 := (bD.cell (p := ⟨w.heap.size, 1, none⟩) pl).trans p1
  replace p2 := (bD.cell (p := ⟨w.heap.size, 2, none⟩) pl).trans p2
  replace pl := Nat.lt_of_lt_of_le pl bD.size
  replace q0 := (bD.cell (p := ⟨w.heap.size + 1, 0, none⟩) ql).trans q0
  replace q1 := (bD.cell (p := ⟨w.heap.size + 1, 1, none⟩) ql).trans q1
  replace ql := Nat.lt_of_lt_of_le ql bD.size
  replace x0 := (bD.cell (p := ⟨w4.heap.size, 0, none⟩) xl).trans x0
  replace x1 := (bD.cell (p := ⟨w4.heap.size, 1, none⟩) xl).trans x1
  replace x2 := (bD.cell (p := ⟨w4.heap.size, 2, none⟩) xl).trans x2
  replace xl := Nat.lt_of_lt_of_le xl bD.size
  replace y0 := (bD.cell (p := ⟨w6.heap.size, 0, none⟩) yl).trans y0
  replace y1 := (bD.cell (p := ⟨w6.heap.size, 1, none⟩) yl).trans y1
  replace y2 := (bD.cell (p := ⟨w6.heap.size, 2, none⟩) yl).trans y2
  replace yl := Nat.lt_of_lt_of_le yl bD.size
  replace cc := cc.trans (bD.mono cc.size)
  clear bD
  refine wp_region_held_drew (S := fun w' => w'.cell? ⟨w.heap.size, 0, none⟩ = some (.bool b0) ∧ w'.cell? ⟨w.heap.size, 1, none⟩ = some (.slice A0 n0 c0) ∧ w'.cell? ⟨w.heap.size, 2, none⟩ = some (.slice B0 m0 d0) ∧ w'.cell? ⟨w.heap.size + 1, 0, none⟩ = some (.bool b1) ∧ w'.cell? ⟨w.heap.size + 1, 1, none⟩ = some (.slice A1 n1 c1) ∧ w'.cell? ⟨w4.heap.size, 0, none⟩ = some (.bool false) ∧ w'.cell? ⟨w4.heap.size, 1, none⟩ = some (.slice none 0 0) ∧ w'.cell? ⟨w4.heap.size, 2, none⟩ = some (.slice none 0 0) ∧ w'.cell? ⟨w6.heap.size, 0, none⟩ = some (.bool false) ∧ w'.cell? ⟨w6.heap.size, 1, none⟩ = some (.slice none 0 0) ∧ w'.cell? ⟨w6.heap.size, 2, none⟩ = some (.slice none 0 0)) (by kernel_rfl) ?_ (fun hHeld => ?_)
  · exact ⟨p0, p1, p2, q0, q1, x0, x1, x2, y0, y1, y2⟩
  refine wpAnyH_ready (rs := [0]) (by kernel_rfl) (by simp) ?_
  refine AllReadyH.cons rfl (fun K hK => ?_) AllReadyH.nil
  (try simp only [List.getElem_toArray, List.getElem_cons_zero, List.getElem_cons_succ])
  rw [if_pos (by rfl)]
  go_simp
  go_at_call 12
  refine (alive5_any _).mono ?_
  rintro e w9 ⟨rfl, b⟩
  replace h1 := h1.on b
  replace h2 := h2.on b
  replace p0 := (b.cell (p := ⟨w.heap.size, 0, none⟩) pl).trans p0
  replace p1 := (b.cell (p := ⟨w.heap.size, 1, none⟩) pl).trans p1
  replace p2 := (b.cell (p := ⟨w.heap.size, 2, none⟩) pl).trans p2
  replace pl := Nat.lt_of_lt_of_le pl b.size
  replace q0 := (b.cell (p := ⟨w.heap.size + 1, 0, none⟩) ql).trans q0
  replace q1 := (b.cell (p := ⟨w.heap.size + 1, 1, none⟩) ql).trans q1
  replace ql := Nat.lt_of_lt_of_le ql b.size
  replace x0 := (b.cell (p := ⟨w4.heap.size, 0, none⟩) xl).trans x0
  replace x1 := (b.cell (p := ⟨w4.heap.size, 1, none⟩) xl).trans x1
  replace x2 := (b.cell (p := ⟨w4.heap.size, 2, none⟩) xl).trans x2
  replace xl := Nat.lt_of_lt_of_le xl b.size
  replace y0 := (b.cell (p := ⟨w6.heap.size, 0, none⟩) yl).trans y0
  replace y1 := (b.cell (p := ⟨w6.heap.size, 1, none⟩) yl).trans y1
  replace y2 := (b.cell (p := ⟨w6.heap.size, 2, none⟩) yl).trans y2
  replace yl := Nat.lt_of_lt_of_le yl b.size
  replace cc := cc.trans (b.mono cc.size)
  clear b
  refine hK.out _ _ ?_ (fun hHeld => ?_)
  · exact ⟨p0, p1, p2, q0, q1, x0, x1, x2, y0, y1, y2⟩
  clear hK K
  try simp only [Act.put, List.getElem_toArray, List.getElem_cons_zero, List.getElem_cons_succ, List.setIfInBounds_toArray, List.set_cons_zero, List.set_cons_succ]
  refine wpAnyH_take (i := 1) (v := ?_) rfl (by kernel_rfl) (by kernel_rfl) (by kernel_rfl) (fun _ _ _ h => h) (Or.inl ⟨by rfl, ?_⟩) hHeld ?_
  rotate_left
  · (intro w hSw; (try dsimp only at hSw); go_simp; (try with_reducible rfl))
  try simp only [Act.put, List.getElem_toArray, List.getElem_cons_zero, List.getElem_cons_succ, List.setIfInBounds_toArray, List.set_cons_zero, List.set_cons_succ]
  refine wpAnyH_take (i := 2) (v := ?_) rfl (by kernel_rfl) (by kernel_rfl) (by kernel_rfl) (fun _ _ _ h => h) (Or.inl ⟨by rfl, ?_⟩) hHeld ?_
  rotate_left
  · (intro w hSw; (try dsimp only at hSw); go_simp; (try with_reducible rfl))
  try simp only [Act.put, List.getElem_toArray, List.getElem_cons_zero, List.getElem_cons_succ, List.setIfInBounds_toArray, List.set_cons_zero, List.set_cons_succ]
  refine wpAnyH_take (i := 4) (v := ?_) rfl (by kernel_rfl) (by kernel_rfl) (by kernel_rfl) (fun _ _ _ h => h) (Or.inl ⟨by rfl, ?_⟩) hHeld ?_
  rotate_left
  · (intro w hSw; (try dsimp only at hSw); go_simp; (try with_reducible rfl))
  try simp only [Act.put, List.getElem_toArray, List.getElem_cons_zero, List.getElem_cons_succ, List.setIfInBounds_toArray, List.set_cons_zero, List.set_cons_succ]
  refine wpAnyH_ready (rs := [3]) (by kernel_rfl) (by simp) ?_
  refine AllReadyH.cons rfl (fun K hK => ?_) AllReadyH.nil
  (try simp only [List.getElem_toArray, List.getElem_cons_zero, List.getElem_cons_succ])
  rw [if_pos (by rfl)]
  go_simp
  go_at_call 16
  refine (GA _ cc).mono ?_
  rintro e w10 ⟨rfl, b⟩
  replace h1 := h1.on b
  replace h2 := h2.on b
  replace p0 := (b.cell (p := ⟨w.heap.size, 0, none⟩) pl).trans p0
  replace p1 := (b.cell (p := ⟨w.heap.size, 1, none⟩) pl).trans p1
  replace p2 := (b.cell (p := ⟨w.heap.size, 2, none⟩) pl).trans p2
  replace pl := Nat.lt_of_lt_of_le pl b.size
  replace q0 := (b.cell (p := ⟨w.heap.size + 1, 0, none⟩) ql).trans q0
  replace q1 := (b.cell (p := ⟨w.heap.size + 1, 1, none⟩) ql).trans q1
  replace ql := Nat.lt_of_lt_of_le ql b.size
  replace x0 := (b.cell (p := ⟨w4.heap.size, 0, none⟩) xl).trans x0
  replace x1 := (b.cell (p := ⟨w4.heap.size, 1, none⟩) xl).trans x1
  replace x2 := (b.cell (p := ⟨w4.heap.size, 2, none⟩) xl).trans x2
  replace xl := Nat.lt_of_lt_of_le xl b.size
  replace y0 := (b.cell (p := ⟨w6.heap.size, 0, none⟩) yl).trans y0
  replace y1 := (b.cell (p := ⟨w6.heap.size, 1, none⟩) yl).trans y1
  replace y2 := (b.cell (p := ⟨w6.heap.size, 2, none⟩) yl).trans y2
  replace yl := Nat.lt_of_lt_of_le yl b.size
  replace cc := cc.trans (b.mono cc.size)
  clear b
  refine hK.out _ _ ?_ (fun hHeld => ?_)
  · exact ⟨p0, p1, p2, q0, q1, x0, x1, x2, y0, y1, y2⟩
  clear hK K
  try simp only [Act.put, List.getElem_toArray, List.getElem_cons_zero, List.getElem_cons_succ, List.setIfInBounds_toArray, List.set_cons_zero, List.set_cons_succ]
  refine wpAnyH_ready (rs := [5]) (by kernel_rfl) (by simp) ?_
  refine AllReadyH.cons rfl (fun K hK => ?_) AllReadyH.nil
  (try simp only [List.getElem_toArray, List.getElem_cons_zero, List.getElem_cons_succ])
  rw [if_pos (by rfl)]
  go_simp
  go_at_call 17
  refine (GB _ cc).mono ?_
  rintro e w11 ⟨rfl, b⟩
  replace h1 := h1.on b
  replace h2 := h2.on b
  replace p0 := (b.cell (p := ⟨w.heap.size, 0, none⟩) pl).trans p0
  replace p1 := (b.cell (p := ⟨w.heap.size, 1, none⟩) pl).trans p1
  replace p2 := (b.cell (p := ⟨w.heap.size, 2, none⟩) pl).trans p2
  replace pl := Nat.lt_of_lt_of_le pl b.size
  replace q0 := (b.cell (p := ⟨w.heap.size + 1, 0, none⟩) ql).trans q0
  replace q1 := (b.cell (p := ⟨w.heap.size + 1, 1, none⟩) ql).trans q1
  replace ql := Nat.lt_of_lt_of_le ql b.size
  replace x0 := (b.cell (p := ⟨w4.heap.size, 0, none⟩) xl).trans x0
  replace x1 := (b.cell (p := ⟨w4.heap.size, 1, none⟩) xl).trans x1
  replace x2 := (b.cell (p := ⟨w4.heap.size, 2, none⟩) xl).trans x2
  replace xl := Nat.lt_of_lt_of_le xl b.size
  replace y0 := (b.cell (p := ⟨w6.heap.size, 0, none⟩) yl).trans y0
  replace y1 := (b.cell (p := ⟨w6.heap.size, 1, none⟩) yl).trans y1
  replace y2 := (b.cell (p := ⟨w6.heap.size, 2, none⟩) yl).trans y2
  replace yl := Nat.lt_of_lt_of_le yl b.size
  replace cc := cc.trans (b.mono cc.size)
  clear b
  refine hK.out _ _ ?_ (fun hHeld => ?_)
  · exact ⟨p0, p1, p2, q0, q1, x0, x1, x2, y0, y1, y2⟩
  clear hK K
  try simp only [Act.put, List.getElem_toArray, List.getElem_cons_zero, List.getElem_cons_succ, List.setIfInBounds_toArray, List.set_cons_zero, List.set_cons_succ]
  refine wpAnyH_take (i := 6) (v := ?_) rfl (by kernel_rfl) (by kernel_rfl) (by kernel_rfl) (fun _ _ _ h => h) (Or.inl ⟨by rfl, ?_⟩) hHeld ?_
  rotate_left
  · (intro w hSw; (try dsimp only at hSw); go_simp; (try with_reducible rfl))
  try simp only [Act.put, List.getElem_toArray, List.getElem_cons_zero, List.getElem_cons_succ, List.setIfInBounds_toArray, List.set_cons_zero, List.set_cons_succ]
  refine wpAnyH_take (i := 7) (v := ?_) rfl (by kernel_rfl) (by kernel_rfl) (by kernel_rfl) (fun _ _ _ h => h) (Or.inl ⟨by rfl, ?_⟩) hHeld ?_
  rotate_left
  · (intro w hSw; (try dsimp only at hSw); go_simp; (try with_reducible rfl))
  try simp only [Act.put, List.getElem_toArray, List.getElem_cons_zero, List.getElem_cons_succ, List.setIfInBounds_toArray, List.set_cons_zero, List.set_cons_succ]
  refine wpAnyH_take (i := 8) (v := ?_) rfl (by kernel_rfl) (by kernel_rfl) (by kernel_rfl) (fun _ _ _ h => h) (Or.inl ⟨by rfl, ?_⟩) hHeld ?_
  rotate_left
  · (intro w hSw; (try dsimp only at hSw); go_simp; (try with_reducible rfl))
  try simp only [Act.put, List.getElem_toArray, List.getElem_cons_zero, List.getElem_cons_succ, List.setIfInBounds_toArray, List.set_cons_zero, List.set_cons_succ]
  refine wpAnyH_take (i := 9) (v := ?_) rfl (by kernel_rfl) (by kernel_rfl) (by kernel_rfl) (fun _ _ _ h => h) (Or.inl ⟨by rfl, ?_⟩) hHeld ?_
  rotate_left
  · (intro w hSw; (try dsimp only at hSw); go_simp; (try with_reducible rfl))
  try simp only [Act.put, List.getElem_toArray, List.getElem_cons_zero, List.getElem_cons_succ, List.setIfInBounds_toArray, List.set_cons_zero, List.set_cons_succ]
  refine wpAnyH_take (i := 10) (v := ?_) rfl (by kernel_rfl) (by kernel_rfl) (by kernel_rfl) (fun _ _ _ h => h) (Or.inl ⟨by rfl, ?_⟩) hHeld ?_
  rotate_left
  · (intro w hSw; (try dsimp only at hSw); go_simp; (try with_reducible rfl))
  try simp only [Act.put, List.getElem_toArray, List.getElem_cons_zero, List.getElem_cons_succ, List.setIfInBounds_toArray, List.set_cons_zero, List.set_cons_succ]
  refine wpAnyH_ready (rs := [11]) (by kernel_rfl) (by simp) ?_
  refine AllReadyH.cons rfl (fun K hK => ?_) AllReadyH.nil
  (try simp only [List.getElem_toArray, List.getElem_cons_zero, List.getElem_cons_succ])
  rw [if_pos (by rfl)]
  go_simp
  go_at_call 18
  refine (rtsame_none _).mono ?_
  rintro e w12 ⟨rfl, b⟩
  replace h1 := h1.on b
  replace h2 := h2.on b
  replace p0 := (b.cell (p := ⟨w.heap.size, 0, none⟩) pl).trans p0
  replace p1 := (b.cell (p := ⟨w.heap.size, 1, none⟩) pl).trans p1
  replace p2 := (b.cell (p := ⟨w.heap.size, 2, none⟩) pl).trans p2
  replace pl := Nat.lt_of_lt_of_le pl b.size
  replace q0 := (b.cell (p := ⟨w.heap.size + 1, 0, none⟩) ql).trans q0
  replace q1 := (b.cell (p := ⟨w.heap.size + 1, 1, none⟩) ql).trans q1
  replace ql := Nat.lt_of_lt_of_le ql b.size
  replace x0 := (b.cell (p := ⟨w4.heap.size, 0, none⟩) xl).trans x0
  replace x1 := (b.cell (p := ⟨w4.heap.size, 1, none⟩) xl).trans x1
  replace x2 := (b.cell (p := ⟨w4.heap.size, 2, none⟩) xl).trans x2
  replace xl := Nat.lt_of_lt_of_le xl b.size
  replace y0 := (b.cell (p := ⟨w6.heap.size, 0, none⟩) yl).trans y0
  replace y1 := (b.cell (p := ⟨w6.heap.size, 1, none⟩) yl).trans y1
  replace y2 := (b.cell (p := ⟨w6.heap.size, 2, none⟩) yl).trans y2
  replace yl := Nat.lt_of_lt_of_le yl b.size
  replace cc := cc.trans (b.mono cc.size)
  clear b
  refine hK.out _ _ ?_ (fun hHeld => ?_)
  · exact ⟨p0, p1, p2, q0, q1, x0, x1, x2, y0, y1, y2⟩
  clear hK K
  try simp only [Act.put, List.getElem_toArray, List.getElem_cons_zero, List.getElem_cons_succ, List.setIfInBounds_toArray, List.set_cons_zero, List.set_cons_succ]
  refine wpAnyH_take (i := 12) (v := ?_) rfl (by kernel_rfl) (by kernel_rfl) (by kernel_rfl) (fun _ _ _ h => h) (Or.inl ⟨by rfl, ?_⟩) hHeld ?_
  rotate_left
  · (intro w hSw; (try dsimp only at hSw); go_simp; (try with_reducible rfl))
  try simp only [Act.put, List.getElem_toArray, List.getElem_cons_zero, List.getElem_cons_succ, List.setIfInBounds_toArray, List.set_cons_zero, List.set_cons_succ]
  refine wpAnyH_take (i := 13) (v := ?_) rfl (by kernel_rfl) (by kernel_rfl) (by kernel_rfl) (fun _ _ _ h => h) (Or.inl ⟨by rfl, ?_⟩) hHeld ?_
  rotate_left
  · (intro w hSw; (try dsimp only at hSw); go_simp; (try with_reducible rfl))
  try simp only [Act.put, List.getElem_toArray, List.getElem_cons_zero, List.getElem_cons_succ, List.setIfInBounds_toArray, List.set_cons_zero, List.set_cons_succ]
  refine wpAnyH_take (i := 14) (v := ?_) rfl (by kernel_rfl) (by kernel_rfl) (by kernel_rfl) (fun _ _ _ h => h) (Or.inl ⟨by rfl, ?_⟩) hHeld ?_
  rotate_left
  · (intro w hSw; (try dsimp only at hSw); go_simp; (try with_reducible rfl))
  try simp only [Act.put, List.getElem_toArray, List.getElem_cons_zero, List.getElem_cons_succ, List.setIfInBounds_toArray, List.set_cons_zero, List.set_cons_succ]
  refine wpAnyH_take (i := 15) (v := ?_) rfl (by kernel_rfl) (by kernel_rfl) (by kernel_rfl) (fun _ _ _ h => h) (Or.inl ⟨by rfl, ?_⟩) hHeld ?_
  rotate_left
  · (intro w hSw; (try dsimp only at hSw); go_simp; (try with_reducible rfl))
  try simp only [Act.put, List.getElem_toArray, List.getElem_cons_zero, List.getElem_cons_succ, List.setIfInBounds_toArray, List.set_cons_zero, List.set_cons_succ]
  refine wpAnyH_take (i := 16) (v := ?_) rfl (by kernel_rfl) (by kernel_rfl) (by kernel_rfl) (fun _ _ _ h => h) (Or.inl ⟨by rfl, ?_⟩) hHeld ?_
  rotate_left
  · (intro w hSw; (try dsimp only at hSw); go_simp; (try with_reducible rfl))
  try simp only [Act.put, List.getElem_toArray, List.getElem_cons_zero, List.getElem_cons_succ, List.setIfInBounds_toArray, List.set_cons_zero, List.set_cons_succ]
  refine wpAnyH_take (i := 17) (v := ?_) rfl (by kernel_rfl) (by kernel_rfl) (by kernel_rfl) (fun _ _ _ h => h) (Or.inl ⟨by rfl, ?_⟩) hHeld ?_
  rotate_left
  · (intro w hSw; (try dsimp only at hSw); go_simp; (try with_reducible rfl))
  try simp only [Act.put, List.getElem_toArray, List.getElem_cons_zero, List.getElem_cons_succ, List.setIfInBounds_toArray, List.set_cons_zero, List.set_cons_succ]
  refine wpAnyH_take (i := 18) (v := ?_) rfl (by kernel_rfl) (by kernel_rfl) (by kernel_rfl) (fun _ _ _ h => h) (Or.inl ⟨by rfl, ?_⟩) hHeld ?_
  rotate_left
  · (intro w hSw; (try dsimp only at hSw); go_simp; (try with_reducible rfl))
  try simp only [Act.put, List.getElem_toArray, List.getElem_cons_zero, List.getElem_cons_succ, List.setIfInBounds_toArray, List.set_cons_zero, List.set_cons_succ]
  refine wpAnyH_take (i := 19) (v := ?_) rfl (by kernel_rfl) (by kernel_rfl) (by kernel_rfl) (fun _ _ _ h => h) (Or.inl ⟨by rfl, ?_⟩) hHeld ?_
  rotate_left
  · (intro w hSw; (try dsimp only at hSw); go_simp; (try with_reducible rfl))
  try simp only [Act.put, List.getElem_toArray, List.getElem_cons_zero, List.getElem_cons_succ, List.setIfInBounds_toArray, List.set_cons_zero, List.set_cons_succ]
  refine wpAnyH_take (i := 20) (v := ?_) rfl (by kernel_rfl) (by kernel_rfl) (by kernel_rfl) (fun _ _ _ h => h) (Or.inl ⟨by rfl, ?_⟩) hHeld ?_
  rotate_left
  · (intro w hSw; (try dsimp only at hSw); go_simp; (try with_reducible rfl))
  try simp only [Act.put, List.getElem_toArray, List.getElem_cons_zero, List.getElem_cons_succ, List.setIfInBounds_toArray, List.set_cons_zero, List.set_cons_succ]
  refine wpAnyH_take (i := 21) (v := ?_) rfl (by kernel_rfl) (by kernel_rfl) (by kernel_rfl) (fun _ _ _ h => h) (Or.inl ⟨by rfl, ?_⟩) hHeld ?_
  rotate_left
  · (intro w hSw; (try dsimp only at hSw); go_simp; (try with_reducible rfl))
  try simp only [Act.put, List.getElem_toArray, List.getElem_cons_zero, List.getElem_cons_succ, List.setIfInBounds_toArray, List.set_cons_zero, List.set_cons_succ]
  refine wpAnyH_take (i := 22) (v := ?_) rfl (by kernel_rfl) (by kernel_rfl) (by kernel_rfl) (fun _ _ _ h => h) (Or.inl ⟨by rfl, ?_⟩) hHeld ?_
  rotate_left
  · (intro w hSw; (try dsimp only at hSw); go_simp; (try with_reducible rfl))
  try simp only [Act.put, List.getElem_toArray, List.getElem_cons_zero, List.getElem_cons_succ, List.setIfInBounds_toArray, List.set_cons_zero, List.set_cons_succ]
  refine wpAnyH_take (i := 24) (v := ?_) rfl (by kernel_rfl) (by kernel_rfl) (by kernel_rfl) (fun _ _ _ h => h) (Or.inl ⟨by rfl, ?_⟩) hHeld ?_
  rotate_left
  · (intro w hSw; (try dsimp only at hSw); go_simp; (try with_reducible rfl))
  try simp only [Act.put, List.getElem_toArray, List.getElem_cons_zero, List.getElem_cons_succ, List.setIfInBounds_toArray, List.set_cons_zero, List.set_cons_succ]
  refine wpAnyH_ready (rs := [23]) (by kernel_rfl) (by simp) ?_
  refine AllReadyH.cons rfl (fun K hK => ?_) AllReadyH.nil
  (try simp only [List.getElem_toArray, List.getElem_cons_zero, List.getElem_cons_succ])
  rw [if_pos (by rfl)]
  go_simp
  go_at_call 19
  refine (qof_N _ z hz).mono ?_
  rintro e w13 ⟨bfa, Afa, nfa, cfa, Bfa, mfa, dfa, rfl, fa, b⟩
  replace h1 := h1.on b
  replace h2 := h2.on b
  replace p0 := (b.cell (p := ⟨w.heap.size, 0, none⟩) pl).trans p0
  replace p1 := (b.cell (p := ⟨w.heap.size, 1, none⟩) pl).trans p1
  replace p2 := (b.cell (p := ⟨w.heap.size, 2, none⟩) pl).trans p2
  replace pl := Nat.lt_of_lt_of_le pl b.size
  replace q0 := (b.cell (p := ⟨w.heap.size + 1, 0, none⟩) ql).trans q0
  replace q1 := (b.cell (p := ⟨w.heap.size + 1, 1, none⟩) ql).trans q1
  replace ql := Nat.lt_of_lt_of_le ql b.size
  replace x0 := (b.cell (p := ⟨w4.heap.size, 0, none⟩) xl).trans x0
  replace x1 := (b.cell (p := ⟨w4.heap.size, 1, none⟩) xl).trans x1
  replace x2 := (b.cell (p := ⟨w4.heap.size, 2, none⟩) xl).trans x2
  replace xl := Nat.lt_of_lt_of_le xl b.size
  replace y0 := (b.cell (p := ⟨w6.heap.size, 0, none⟩) yl).trans y0
  replace y1 := (b.cell (p := ⟨w6.heap.size, 1, none⟩) yl).trans y1
  replace y2 := (b.cell (p := ⟨w6.heap.size, 2, none⟩) yl).trans y2
  replace yl := Nat.lt_of_lt_of_le yl b.size
  replace cc := cc.trans (b.mono cc.size)
  clear b
  refine hK.out _ _ ?_ (fun hHeld => ?_)
  · exact ⟨p0, p1, p2, q0, q1, x0, x1, x2, y0, y1, y2⟩
  clear hK K
  try simp only [Act.put, List.getElem_toArray, List.getElem_cons_zero, List.getElem_cons_succ, List.setIfInBounds_toArray, List.set_cons_zero, List.set_cons_succ]
  refine wpAnyH_ready (rs := [25]) (by kernel_rfl) (by simp) ?_
  refine AllReadyH.cons rfl (fun K hK => ?_) AllReadyH.nil
  (try simp only [List.getElem_toArray, List.getElem_cons_zero, List.getElem_cons_succ])
  rw [if_pos (by rfl)]
  go_simp
  go_at_call 20
  refine (rtof_N _ z hz).mono ?_
  rintro e w14 ⟨bfb, Afb, nfb, cfb, Bfb, mfb, dfb, rfl, fb, b⟩
  replace h1 := h1.on b
  replace h2 := h2.on b
  replace fa := fa.on b
  replace p0 := (b.cell (p := ⟨w.heap.size, 0, none⟩) pl).trans p0
  replace p1 := (b.cell (p := ⟨w.heap.size, 1, none⟩) pl).trans p1
  replace p2 := (b.cell (p := ⟨w.heap.size, 2, none⟩) pl).trans p2
  replace pl := Nat.lt_of_lt_of_le pl b.size
  replace q0 := (b.cell (p := ⟨w.heap.size + 1, 0, none⟩) ql).trans q0
  replace q1 := (b.cell (p := ⟨w.heap.size + 1, 1, none⟩) ql).trans q1
  replace ql := Nat.lt_of_lt_of_le ql b.size
  replace x0 := (b.cell (p := ⟨w4.heap.size, 0, none⟩) xl).trans x0
  replace x1 := (b.cell (p := ⟨w4.heap.size, 1, none⟩) xl).trans x1
  replace x2 := (b.cell (p := ⟨w4.heap.size, 2, none⟩) xl).trans x2
  replace xl := Nat.lt_of_lt_of_le xl b.size
  replace y0 := (b.cell (p := ⟨w6.heap.size, 0, none⟩) yl).trans y0
  replace y1 := (b.cell (p := ⟨w6.heap.size, 1, none⟩) yl).trans y1
  replace y2 := (b.cell (p := ⟨w6.heap.size, 2, none⟩) yl).trans y2
  replace yl := Nat.lt_of_lt_of_le yl b.size
  replace cc := cc.trans (b.mono cc.size)
  clear b
  refine hK.out _ _ ?_ (fun hHeld => ?_)
  · exact ⟨p0, p1, p2, q0, q1, x0, x1, x2, y0, y1, y2⟩
  clear hK K
  try simp only [Act.put, List.getElem_toArray, List.getElem_cons_zero, List.getElem_cons_succ, List.setIfInBounds_toArray, List.set_cons_zero, List.set_cons_succ]
  refine wpAnyH_ready (rs := [26]) (by kernel_rfl) (by simp) ?_
  refine AllReadyH.cons rfl (fun K hK => ?_) AllReadyH.nil
  (try simp only [List.getElem_toArray, List.getElem_cons_zero, List.getElem_cons_succ])
  rw [if_pos (by rfl)]
  go_simp
  go_at_call 18
  refine (rtsame_self fa (sn.le (by omega)) fb).mono ?_
  rintro e w15 ⟨rfl, b⟩
  replace h1 := h1.on b
  replace h2 := h2.on b
  replace fa := fa.on b
  replace fb := fb.on b
  replace p0 := (b.cell (p := ⟨w.heap.size, 0, none⟩) pl).trans p0
  replace p1 := (b.cell (p := ⟨w.heap.size, 1, none⟩) pl).trans p1
  replace p2 := (b.cell (p := ⟨w.heap.size, 2, none⟩) pl).trans p2
  replace pl := Nat.lt_of_lt_of_le pl b.size
  replace q0 := (b.cell (p := ⟨w.heap.size + 1, 0, none⟩) ql).trans q0
  replace q1 := (b.cell (p := ⟨w.heap.size + 1, 1, none⟩) ql).trans q1
  replace ql := Nat.lt_of_lt_of_le ql b.size
  replace x0 := (b.cell (p := ⟨w4.heap.size, 0, none⟩) xl).trans x0
  replace x1 := (b.cell (p := ⟨w4.heap.size, 1, none⟩) xl).trans x1
  replace x2 := (b.cell (p := ⟨w4.heap.size, 2, none⟩) xl).trans x2
  replace xl := Nat.lt_of_lt_of_le xl b.size
  replace y0 := (b.cell (p := ⟨w6.heap.size, 0, none⟩) yl).trans y0
  replace y1 := (b.cell (p := ⟨w6.heap.size, 1, none⟩) yl).trans y1
  replace y2 := (b.cell (p := ⟨w6.heap.size, 2, none⟩) yl).trans y2
  replace yl := Nat.lt_of_lt_of_le yl b.size
  replace cc := cc.trans (b.mono cc.size)
  clear b
  refine hK.out _ _ ?_ (fun hHeld => ?_)
  · exact ⟨p0, p1, p2, q0, q1, x0, x1, x2, y0, y1, y2⟩
  clear hK K
  try simp only [Act.put, List.getElem_toArray, List.getElem_cons_zero, List.getElem_cons_succ, List.setIfInBounds_toArray, List.set_cons_zero, List.set_cons_succ]
  refine wpAnyH_take (i := 27) (v := ?_) rfl (by kernel_rfl) (by kernel_rfl) (by kernel_rfl) (fun _ _ _ h => h) (Or.inl ⟨by rfl, ?_⟩) hHeld ?_
  rotate_left
  · (intro w hSw; (try dsimp only at hSw); go_simp; (try with_reducible rfl))
  try simp only [Act.put, List.getElem_toArray, List.getElem_cons_zero, List.getElem_cons_succ, List.setIfInBounds_toArray, List.set_cons_zero, List.set_cons_succ]
  refine wpAnyH_take (i := 28) (v := ?_) rfl (by kernel_rfl) (by kernel_rfl) (by kernel_rfl) (fun _ _ _ h => h) (Or.inl ⟨by rfl, ?_⟩) hHeld ?_
  rotate_left
  · (intro w hSw; (try dsimp only at hSw); go_simp; (try with_reducible rfl))
  try simp only [Act.put, List.getElem_toArray, List.getElem_cons_zero, List.getElem_cons_succ, List.setIfInBounds_toArray, List.set_cons_zero, List.set_cons_succ]
  refine wpAnyH_take (i := 29) (v := ?_) rfl (by kernel_rfl) (by kernel_rfl) (by kernel_rfl) (fun _ _ _ h => h) (Or.inl ⟨by rfl, ?_⟩) hHeld ?_
  rotate_left
  · (intro w hSw; (try dsimp only at hSw); go_simp; (try with_reducible rfl))
  try simp only [Act.put, List.getElem_toArray, List.getElem_cons_zero, List.getElem_cons_succ, List.setIfInBounds_toArray, List.set_cons_zero, List.set_cons_succ]
  refine wpAnyH_done (by kernel_rfl) ?_ _
  clear hHeld
  go_wp2_with fail
  go_ret
  exact ⟨rfl, cc⟩

set_option maxRecDepth 100000 in
set_option maxHeartbeats 8000000 in
theorem RatTells_zero {w : World} {b0 b1 : Bool} {A0 B0 A1 A2 : Option Addr} {n0 c0 m0 d0 n1 c1 n2 c2 : Nat} (t0 : decide ((6 : Int) < (n0 : Int)) = false) (t1 : decide ((6 : Int) < (m0 : Int)) = false) (G1 : ∀ W : World, Below w.heap.size w W → Calls Try.prog 10 #[.agg #[.bool b1, .slice A1 n1 c1], .int .i64 6] W (GotV W (.bool true))) (t3 : decide ((6 : Int) < (n2 : Int)) = false) (G2 : ∀ W : World, Below w.heap.size w W → Calls Try.prog 11 #[.slice A2 n2 c2] W (GotV W (.bool true))) (r : Bool) (GA : ∀ W : World, Below w.heap.size w W → Calls Try.prog 16 #[.agg #[.bool b0, .slice A0 n0 c0, .slice B0 m0 d0]] W (GotV W (.bool r))) (GB : ∀ W : World, Below w.heap.size w W → Calls Try.prog 17 #[.agg #[.bool b0, .slice A0 n0 c0, .slice B0 m0 d0]] W (GotV W (.bool r))) {z : Int} {y : Nat} (h1 : Zn w b1 A1 n1 c1 z) (l1 : (limbs z.natAbs).length ≤ 6) (h2 : Num w A2 n2 c2 y) (l2 : (limbs y).length ≤ 6) (hz : ¬ I64 z) (hn2 : n2 = 0) :
    Calls Try.prog 3 #[.agg #[.bool b0, .slice A0 n0 c0, .slice B0 m0 d0], .agg #[.bool b1, .slice A1 n1 c1], .slice A2 n2 c2] w fun e w' => e = .returned (.bool true) ∧ Below w.heap.size w w' := by
  have k1 : (limbs z.natAbs).length ≤ 40 := by omega
  have k2 : (limbs y).length ≤ 40 := by omega
  subst hn2
  have cc := Below.refl w.heap.size w
  go_enter Try.func3, Try.ntmps3
  go_wp2_with fail
  have bA : Below w.heap.size w ((w.alloc (.cells #[.bool b0, .slice A0 n0 c0, .slice B0 m0 d0] 27)).alloc (.cells #[.bool b1, .slice A1 n1 c1] 25)) := (((Below.refl _ w).alloc (by simp) _).alloc (by simp) _)
  replace h1 := h1.on bA
  replace h2 := h2.on bA
  replace cc := cc.trans (bA.mono cc.size)
  clear bA
  have p0 : ((w.alloc (.cells #[.bool b0, .slice A0 n0 c0, .slice B0 m0 d0] 27)).alloc (.cells #[.bool b1, .slice A1 n1 c1] 25)).cell? ⟨w.heap.size, 0, none⟩ = some (.bool b0) := by simp [go_sem]
  have p1 : ((w.alloc (.cells #[.bool b0, .slice A0 n0 c0, .slice B0 m0 d0] 27)).alloc (.cells #[.bool b1, .slice A1 n1 c1] 25)).cell? ⟨w.heap.size, 1, none⟩ = some (.slice A0 n0 c0) := by simp [go_sem]
  have p2 : ((w.alloc (.cells #[.bool b0, .slice A0 n0 c0, .slice B0 m0 d0] 27)).alloc (.cells #[.bool b1, .slice A1 n1 c1] 25)).cell? ⟨w.heap.size, 2, none⟩ = some (.slice B0 m0 d0) := by simp [go_sem]
  have pl : w.heap.size < ((w.alloc (.cells #[.bool b0, .slice A0 n0 c0, .slice B0 m0 d0] 27)).alloc (.cells #[.bool b1, .slice A1 n1 c1] 25)).heap.size := by simp <;> omega
  have q0 : ((w.alloc (.cells #[.bool b0, .slice A0 n0 c0, .slice B0 m0 d0] 27)).alloc (.cells #[.bool b1, .slice A1 n1 c1] 25)).cell? ⟨w.heap.size + 1, 0, none⟩ = some (.bool b1) := by simp [go_sem]
  have q1 : ((w.alloc (.cells #[.bool b0, .slice A0 n0 c0, .slice B0 m0 d0] 27)).alloc (.cells #[.bool b1, .slice A1 n1 c1] 25)).cell? ⟨w.heap.size + 1, 1, none⟩ = some (.slice A1 n1 c1) := by simp [go_sem]
  have ql : w.heap.size + 1 < ((w.alloc (.cells #[.bool b0, .slice A0 n0 c0, .slice B0 m0 d0] 27)).alloc (.cells #[.bool b1, .slice A1 n1 c1] 25)).heap.size := by simp <;> omega
  generalize (w.alloc (.cells #[.bool b0, .slice A0 n0 c0, .slice B0 m0 d0] 27)).alloc (.cells #[.bool b1, .slice A1 n1 c1] 25) = v1 at *
  refine (G1 _ cc).mono ?_
  rintro e w2 ⟨rfl, b⟩
  replace h1 := h1.on b
  replace h2 := h2.on b
  replace p0 := (b.cell (p := ⟨w.heap.size, 0, none⟩) pl).trans p0
  replace p1 := (b.cell (p := ⟨w.heap.size, 1, none⟩) pl).trans p1
  replace p2 := (b.cell (p := ⟨w.heap.size, 2, none⟩) pl).trans p2
  replace pl := Nat.lt_of_lt_of_le pl b.size
  replace q0 := (b.cell (p := ⟨w.heap.size + 1, 0, none⟩) ql).trans q0
  replace q1 := (b.cell (p := ⟨w.heap.size + 1, 1, none⟩) ql).trans q1
  replace ql := Nat.lt_of_lt_of_le ql b.size
  replace cc := cc.trans (b.mono cc.size)
  clear b
  go_wp2_with fail
  refine (G2 _ cc).mono ?_
  rintro e w3 ⟨rfl, b⟩
  replace h1 := h1.on b
  replace h2 := h2.on b
  replace p0 := (b.cell (p := ⟨w.heap.size, 0, none⟩) pl).trans p0
  replace p1 := (b.cell (p := ⟨w.heap.size, 1, none⟩) pl).trans p1
  replace p2 := (b.cell (p := ⟨w.heap.size, 2, none⟩) pl).trans p2
  replace pl := Nat.lt_of_lt_of_le pl b.size
  replace q0 := (b.cell (p := ⟨w.heap.size + 1, 0, none⟩) ql).trans q0
  replace q1 := (b.cell (p := ⟨w.heap.size + 1, 1, none⟩) ql).trans q1
  replace ql := Nat.lt_of_lt_of_le ql b.size
  replace cc := cc.trans (b.mono cc.size)
  clear b
  go_wp2_with fail
  refine (qmake_zero).mono ?_
  rintro e w4 ⟨rfl, b⟩
  replace h1 := h1.on b
  replace h2 := h2.on b
  replace p0 := (b.cell (p := ⟨w.heap.size, 0, none⟩) pl).trans p0
  replace p1 := (b.cell (p := ⟨w.heap.size, 1, none⟩) pl).trans p1
  replace p2 := (b.cell (p := ⟨w.heap.size, 2, none⟩) pl).trans p2
  replace pl := Nat.lt_of_lt_of_le pl b.size
  replace q0 := (b.cell (p := ⟨w.heap.size + 1, 0, none⟩) ql).trans q0
  replace q1 := (b.cell (p := ⟨w.heap.size + 1, 1, none⟩) ql).trans q1
  replace ql := Nat.lt_of_lt_of_le ql b.size
  replace cc := cc.trans (b.mono cc.size)
  clear b
  go_wp2_with fail
  have bA := below_one w4 (.cells #[.bool false, .slice none 0 0, .slice none 0 0] 27)
  replace h1 := h1.on bA
  replace h2 := h2.on bA
  replace p0 := (bA.cell (p := ⟨w.heap.size, 0, none⟩) pl).trans p0
  replace p1 := (bA.cell (p := ⟨w.heap.size, 1, none⟩) pl).trans p1
  replace p2 := (bA.cell (p := ⟨w.heap.size, 2, none⟩) pl).trans p2
  replace pl := Nat.lt_of_lt_of_le pl bA.size
  replace q0 := (bA.cell (p := ⟨w.heap.size + 1, 0, none⟩) ql).trans q0
  replace q1 := (bA.cell (p := ⟨w.heap.size + 1, 1, none⟩) ql).trans q1
  replace ql := Nat.lt_of_lt_of_le ql bA.size
  replace cc := cc.trans (bA.mono cc.size)
  clear bA
  have x0 : (w4.alloc (.cells #[.bool false, .slice none 0 0, .slice none 0 0] 27)).cell? ⟨w4.heap.size, 0, none⟩ = some (.bool false) := by simp [go_sem]
  have x1 : (w4.alloc (.cells #[.bool false, .slice none 0 0, .slice none 0 0] 27)).cell? ⟨w4.heap.size, 1, none⟩ = some (.slice none 0 0) := by simp [go_sem]
  have x2 : (w4.alloc (.cells #[.bool false, .slice none 0 0, .slice none 0 0] 27)).cell? ⟨w4.heap.size, 2, none⟩ = some (.slice none 0 0) := by simp [go_sem]
  have xl : w4.heap.size < (w4.alloc (.cells #[.bool false, .slice none 0 0, .slice none 0 0] 27)).heap.size := by simp
  generalize w4.alloc (.cells #[.bool false, .slice none 0 0, .slice none 0 0] 27) = v5 at *
  refine (rtmake_zero).mono ?_
  rintro e w6 ⟨rfl, b⟩
  replace h1 := h1.on b
  replace h2 := h2.on b
  replace p0 := (b.cell (p := ⟨w.heap.size, 0, none⟩) pl).trans p0
  replace p1 := (b.cell (p := ⟨w.heap.size, 1, none⟩) pl).trans p1
  replace p2 := (b.cell (p := ⟨w.heap.size, 2, none⟩) pl).trans p2
  replace pl := Nat.lt_of_lt_of_le pl b.size
  replace q0 := (b.cell (p := ⟨w.heap.size + 1, 0, none⟩) ql).trans q0
  replace q1 := (b.cell (p := ⟨w.heap.size + 1, 1, none⟩) ql).trans q1
  replace ql := Nat.lt_of_lt_of_le ql b.size
  replace x0 := (b.cell (p := ⟨w4.heap.size, 0, none⟩) xl).trans x0
  replace x1 := (b.cell (p := ⟨w4.heap.size, 1, none⟩) xl).trans x1
  replace x2 := (b.cell (p := ⟨w4.heap.size, 2, none⟩) xl).trans x2
  replace xl := Nat.lt_of_lt_of_le xl b.size
  replace cc := cc.trans (b.mono cc.size)
  clear b
  go_wp2_with fail
  have bA := below_one w6 (.cells #[.bool false, .slice none 0 0, .slice none 0 0] 27)
  replace h1 := h1.on bA
  replace h2 := h2.on bA
  replace p0 := (bA.cell (p := ⟨w.heap.size, 0, none⟩) pl).trans p0
  replace p1 := (bA.cell (p := ⟨w.heap.size, 1, none⟩) pl).trans p1
  replace p2 := (bA.cell (p := ⟨w.heap.size, 2, none⟩) pl).trans p2
  replace pl := Nat.lt_of_lt_of_le pl bA.size
  replace q0 := (bA.cell (p := ⟨w.heap.size + 1, 0, none⟩) ql).trans q0
  replace q1 := (bA.cell (p := ⟨w.heap.size + 1, 1, none⟩) ql).trans q1
  replace ql := Nat.lt_of_lt_of_le ql bA.size
  replace x0 := (bA.cell (p := ⟨w4.heap.size, 0, none⟩) xl).trans x0
  replace x1 := (bA.cell (p := ⟨w4.heap.size, 1, none⟩) xl).trans x1
  replace x2 := (bA.cell (p := ⟨w4.heap.size, 2, none⟩) xl).trans x2
  replace xl := Nat.lt_of_lt_of_le xl bA.size
  replace cc := cc.trans (bA.mono cc.size)
  clear bA
  have y0 : (w6.alloc (.cells #[.bool false, .slice none 0 0, .slice none 0 0] 27)).cell? ⟨w6.heap.size, 0, none⟩ = some (.bool false) := by simp [go_sem]
  have y1 : (w6.alloc (.cells #[.bool false, .slice none 0 0, .slice none 0 0] 27)).cell? ⟨w6.heap.size, 1, none⟩ = some (.slice none 0 0) := by simp [go_sem]
  have y2 : (w6.alloc (.cells #[.bool false, .slice none 0 0, .slice none 0 0] 27)).cell? ⟨w6.heap.size, 2, none⟩ = some (.slice none 0 0) := by simp [go_sem]
  have yl : w6.heap.size < (w6.alloc (.cells #[.bool false, .slice none 0 0, .slice none 0 0] 27)).heap.size := by simp
  generalize w6.alloc (.cells #[.bool false, .slice none 0 0, .slice none 0 0] 27) = v7 at *
  refine (rzint_no h1 (Nat.le_trans k1 (by omega)) hz).mono ?_
  rintro e w8 ⟨rfl, b⟩
  replace h1 := h1.on b
  replace h2 := h2.on b
  replace p0 := (b.cell (p := ⟨w.heap.size, 0, none⟩) pl).trans p0
  replace p1 := (b.cell (p := ⟨w.heap.size, 1, none⟩) pl).trans p1
  replace p2 := (b.cell (p := ⟨w.heap.size, 2, none⟩) pl).trans p2
  replace pl := Nat.lt_of_lt_of_le pl b.size
  replace q0 := (b.cell (p := ⟨w.heap.size + 1, 0, none⟩) ql).trans q0
  replace q1 := (b.cell (p := ⟨w.heap.size + 1, 1, none⟩) ql).trans q1
  replace ql := Nat.lt_of_lt_of_le ql b.size
  replace x0 := (b.cell (p := ⟨w4.heap.size, 0, none⟩) xl).trans x0
  replace x1 := (b.cell (p := ⟨w4.heap.size, 1, none⟩) xl).trans x1
  replace x2 := (b.cell (p := ⟨w4.heap.size, 2, none⟩) xl).trans x2
  replace xl := Nat.lt_of_lt_of_le xl b.size
  replace y0 := (b.cell (p := ⟨w6.heap.size, 0, none⟩) yl).trans y0
  replace y1 := (b.cell (p := ⟨w6.heap.size, 1, none⟩) yl).trans y1
  replace y2 := (b.cell (p := ⟨w6.heap.size, 2, none⟩) yl).trans y2
  replace yl := Nat.lt_of_lt_of_le yl b.size
  replace cc := cc.trans (b.mono cc.size)
  clear b
  go_wp2_with fail
  have bD : Below w8.heap.size w8 w8.drew := below_drewN (Below.refl _ w8) 1
  replace h1 := h1.on bD
  replace h2 := h2.on bD
  replace p0 := (bD.cell (p := ⟨w.heap.size, 0, none⟩) pl).trans p0
  replace p1 := (bD.cell (p := ⟨w.heap.size, 1, none⟩) pl).trans p1
  replace p2 := (bD.cell (p := ⟨w.heap.size, 2, none⟩) pl).trans p2
  replace pl := Nat.lt_of_lt_of_le pl bD.size
  replace q0 := (bD.cell (p := ⟨w.heap.size + 1, 0, none⟩) ql).trans q0
  replace q1 := (bD.cell (p := ⟨w.heap.size + 1, 1, none⟩) ql).trans q1
  replace ql := Nat.lt_of_lt_of_le ql bD.size
  replace x0 := (bD.cell (p := ⟨w4.heap.size, 0, none⟩) xl).trans x0
  replace x1 := (bD.cell (p := ⟨w4.heap.size, 1, none⟩) xl).trans x1
  replace x2 := (bD.cell (p := ⟨w4.heap.size, 2, none⟩) xl).trans x2
  replace xl := Nat.lt_of_lt_of_le xl bD.size
  replace y0 := (bD.cell (p := ⟨w6.heap.size, 0, none⟩) yl).trans y0
  replace y1 := (bD.cell (p := ⟨w6.heap.size, 1, none⟩) yl).trans y1
  replace y2 := (bD.cell (p := ⟨w6.heap.size, 2, none⟩) yl).trans y2
  replace yl := Nat.lt_of_lt_of_le yl bD.size
  replace cc := cc.trans (bD.mono cc.size)
  clear bD
  refine wp_region_held_drew (S := fun w' => w'.cell? ⟨w.heap.size, 0, none⟩ = some (.bool b0) ∧ w'.cell? ⟨w.heap.size, 1, none⟩ = some (.slice A0 n0 c0) ∧ w'.cell? ⟨w.heap.size, 2, none⟩ = some (.slice B0 m0 d0) ∧ w'.cell? ⟨w.heap.size + 1, 0, none⟩ = some (.bool b1) ∧ w'.cell? ⟨w.heap.size + 1, 1, none⟩ = some (.slice A1 n1 c1) ∧ w'.cell? ⟨w4.heap.size, 0, none⟩ = some (.bool false) ∧ w'.cell? ⟨w4.heap.size, 1, none⟩ = some (.slice none 0 0) ∧ w'.cell? ⟨w4.heap.size, 2, none⟩ = some (.slice none 0 0) ∧ w'.cell? ⟨w6.heap.size, 0, none⟩ = some (.bool false) ∧ w'.cell? ⟨w6.heap.size, 1, none⟩ = some (.slice none 0 0) ∧ w'.cell? ⟨w6.heap.size, 2, none⟩ = some (.slice none 0 0)) (by kernel_rfl) ?_ (fun hHeld => ?_)
  · exact ⟨p0, p1, p2, q0, q1, x0, x1, x2, y0, y1, y2⟩
  refine wpAnyH_ready (rs := [0]) (by kernel_rfl) (by simp) ?_
  refine AllReadyH.cons rfl (fun K hK => ?_) AllReadyH.nil
  (try simp only [List.getElem_toArray, List.getElem_cons_zero, List.getElem_cons_succ])
  rw [if_pos (by rfl)]
  go_simp
  go_at_call 12
  refine (alive5_any _).mono ?_
  rintro e w9 ⟨rfl, b⟩
  replace h1 := h1.on b
  replace h2 := h2.on b
  replace p0 := (b.cell (p := ⟨w.heap.size, 0, none⟩) pl).trans p0
  replace p1 := (b.cell (p := ⟨w.heap.size, 1, none⟩) pl).trans p1
  replace p2 := (b.cell (p := ⟨w.heap.size, 2, none⟩) pl).trans p2
  replace pl := Nat.lt_of_lt_of_le pl b.size
  replace q0 := (b.cell (p := ⟨w.heap.size + 1, 0, none⟩) ql).trans q0
  replace q1 := (b.cell (p := ⟨w.heap.size + 1, 1, none⟩) ql).trans q1
  replace ql := Nat.lt_of_lt_of_le ql b.size
  replace x0 := (b.cell (p := ⟨w4.heap.size, 0, none⟩) xl).trans x0
  replace x1 := (b.cell (p := ⟨w4.heap.size, 1, none⟩) xl).trans x1
  replace x2 := (b.cell (p := ⟨w4.heap.size, 2, none⟩) xl).trans x2
  replace xl := Nat.lt_of_lt_of_le xl b.size
  replace y0 := (b.cell (p := ⟨w6.heap.size, 0, none⟩) yl).trans y0
  replace y1 := (b.cell (p := ⟨w6.heap.size, 1, none⟩) yl).trans y1
  replace y2 := (b.cell (p := ⟨w6.heap.size, 2, none⟩) yl).trans y2
  replace yl := Nat.lt_of_lt_of_le yl b.size
  replace cc := cc.trans (b.mono cc.size)
  clear b
  refine hK.out _ _ ?_ (fun hHeld => ?_)
  · exact ⟨p0, p1, p2, q0, q1, x0, x1, x2, y0, y1, y2⟩
  clear hK K
  try simp only [Act.put, List.getElem_toArray, List.getElem_cons_zero, List.getElem_cons_succ, List.setIfInBounds_toArray, List.set_cons_zero, List.set_cons_succ]
  refine wpAnyH_take (i := 1) (v := ?_) rfl (by kernel_rfl) (by kernel_rfl) (by kernel_rfl) (fun _ _ _ h => h) (Or.inl ⟨by rfl, ?_⟩) hHeld ?_
  rotate_left
  · (intro w hSw; (try dsimp only at hSw); go_simp; (try with_reducible rfl))
  try simp only [Act.put, List.getElem_toArray, List.getElem_cons_zero, List.getElem_cons_succ, List.setIfInBounds_toArray, List.set_cons_zero, List.set_cons_succ]
  refine wpAnyH_take (i := 2) (v := ?_) rfl (by kernel_rfl) (by kernel_rfl) (by kernel_rfl) (fun _ _ _ h => h) (Or.inl ⟨by rfl, ?_⟩) hHeld ?_
  rotate_left
  · (intro w hSw; (try dsimp only at hSw); go_simp; (try with_reducible rfl))
  try simp only [Act.put, List.getElem_toArray, List.getElem_cons_zero, List.getElem_cons_succ, List.setIfInBounds_toArray, List.set_cons_zero, List.set_cons_succ]
  refine wpAnyH_take (i := 4) (v := ?_) rfl (by kernel_rfl) (by kernel_rfl) (by kernel_rfl) (fun _ _ _ h => h) (Or.inl ⟨by rfl, ?_⟩) hHeld ?_
  rotate_left
  · (intro w hSw; (try dsimp only at hSw); go_simp; (try with_reducible rfl))
  try simp only [Act.put, List.getElem_toArray, List.getElem_cons_zero, List.getElem_cons_succ, List.setIfInBounds_toArray, List.set_cons_zero, List.set_cons_succ]
  refine wpAnyH_ready (rs := [3]) (by kernel_rfl) (by simp) ?_
  refine AllReadyH.cons rfl (fun K hK => ?_) AllReadyH.nil
  (try simp only [List.getElem_toArray, List.getElem_cons_zero, List.getElem_cons_succ])
  rw [if_pos (by rfl)]
  go_simp
  go_at_call 16
  refine (GA _ cc).mono ?_
  rintro e w10 ⟨rfl, b⟩
  replace h1 := h1.on b
  replace h2 := h2.on b
  replace p0 := (b.cell (p := ⟨w.heap.size, 0, none⟩) pl).trans p0
  replace p1 := (b.cell (p := ⟨w.heap.size, 1, none⟩) pl).trans p1
  replace p2 := (b.cell (p := ⟨w.heap.size, 2, none⟩) pl).trans p2
  replace pl := Nat.lt_of_lt_of_le pl b.size
  replace q0 := (b.cell (p := ⟨w.heap.size + 1, 0, none⟩) ql).trans q0
  replace q1 := (b.cell (p := ⟨w.heap.size + 1, 1, none⟩) ql).trans q1
  replace ql := Nat.lt_of_lt_of_le ql b.size
  replace x0 := (b.cell (p := ⟨w4.heap.size, 0, none⟩) xl).trans x0
  replace x1 := (b.cell (p := ⟨w4.heap.size, 1, none⟩) xl).trans x1
  replace x2 := (b.cell (p := ⟨w4.heap.size, 2, none⟩) xl).trans x2
  replace xl := Nat.lt_of_lt_of_le xl b.size
  replace y0 := (b.cell (p := ⟨w6.heap.size, 0, none⟩) yl).trans y0
  replace y1 := (b.cell (p := ⟨w6.heap.size, 1, none⟩) yl).trans y1
  replace y2 := (b.cell (p := ⟨w6.heap.size, 2, none⟩) yl).trans y2
  replace yl := Nat.lt_of_lt_of_le yl b.size
  replace cc := cc.trans (b.mono cc.size)
  clear b
  refine hK.out _ _ ?_ (fun hHeld => ?_)
  · exact ⟨p0, p1, p2, q0, q1, x0, x1, x2, y0, y1, y2⟩
  clear hK K
  try simp only [Act.put, List.getElem_toArray, List.getElem_cons_zero, List.getElem_cons_succ, List.setIfInBounds_toArray, List.set_cons_zero, List.set_cons_succ]
  refine wpAnyH_ready (rs := [5]) (by kernel_rfl) (by simp) ?_
  refine AllReadyH.cons rfl (fun K hK => ?_) AllReadyH.nil
  (try simp only [List.getElem_toArray, List.getElem_cons_zero, List.getElem_cons_succ])
  rw [if_pos (by rfl)]
  go_simp
  go_at_call 17
  refine (GB _ cc).mono ?_
  rintro e w11 ⟨rfl, b⟩
  replace h1 := h1.on b
  replace h2 := h2.on b
  replace p0 := (b.cell (p := ⟨w.heap.size, 0, none⟩) pl).trans p0
  replace p1 := (b.cell (p := ⟨w.heap.size, 1, none⟩) pl).trans p1
  replace p2 := (b.cell (p := ⟨w.heap.size, 2, none⟩) pl).trans p2
  replace pl := Nat.lt_of_lt_of_le pl b.size
  replace q0 := (b.cell (p := ⟨w.heap.size + 1, 0, none⟩) ql).trans q0
  replace q1 := (b.cell (p := ⟨w.heap.size + 1, 1, none⟩) ql).trans q1
  replace ql := Nat.lt_of_lt_of_le ql b.size
  replace x0 := (b.cell (p := ⟨w4.heap.size, 0, none⟩) xl).trans x0
  replace x1 := (b.cell (p := ⟨w4.heap.size, 1, none⟩) xl).trans x1
  replace x2 := (b.cell (p := ⟨w4.heap.size, 2, none⟩) xl).trans x2
  replace xl := Nat.lt_of_lt_of_le xl b.size
  replace y0 := (b.cell (p := ⟨w6.heap.size, 0, none⟩) yl).trans y0
  replace y1 := (b.cell (p := ⟨w6.heap.size, 1, none⟩) yl).trans y1
  replace y2 := (b.cell (p := ⟨w6.heap.size, 2, none⟩) yl).trans y2
  replace yl := Nat.lt_of_lt_of_le yl b.size
  replace cc := cc.trans (b.mono cc.size)
  clear b
  refine hK.out _ _ ?_ (fun hHeld => ?_)
  · exact ⟨p0, p1, p2, q0, q1, x0, x1, x2, y0, y1, y2⟩
  clear hK K
  try simp only [Act.put, List.getElem_toArray, List.getElem_cons_zero, List.getElem_cons_succ, List.setIfInBounds_toArray, List.set_cons_zero, List.set_cons_succ]
  refine wpAnyH_take (i := 6) (v := ?_) rfl (by kernel_rfl) (by kernel_rfl) (by kernel_rfl) (fun _ _ _ h => h) (Or.inl ⟨by rfl, ?_⟩) hHeld ?_
  rotate_left
  · (intro w hSw; (try dsimp only at hSw); go_simp; (try with_reducible rfl))
  try simp only [Act.put, List.getElem_toArray, List.getElem_cons_zero, List.getElem_cons_succ, List.setIfInBounds_toArray, List.set_cons_zero, List.set_cons_succ]
  refine wpAnyH_take (i := 7) (v := ?_) rfl (by kernel_rfl) (by kernel_rfl) (by kernel_rfl) (fun _ _ _ h => h) (Or.inl ⟨by rfl, ?_⟩) hHeld ?_
  rotate_left
  · (intro w hSw; (try dsimp only at hSw); go_simp; (try with_reducible rfl))
  try simp only [Act.put, List.getElem_toArray, List.getElem_cons_zero, List.getElem_cons_succ, List.setIfInBounds_toArray, List.set_cons_zero, List.set_cons_succ]
  refine wpAnyH_take (i := 8) (v := ?_) rfl (by kernel_rfl) (by kernel_rfl) (by kernel_rfl) (fun _ _ _ h => h) (Or.inl ⟨by rfl, ?_⟩) hHeld ?_
  rotate_left
  · (intro w hSw; (try dsimp only at hSw); go_simp; (try with_reducible rfl))
  try simp only [Act.put, List.getElem_toArray, List.getElem_cons_zero, List.getElem_cons_succ, List.setIfInBounds_toArray, List.set_cons_zero, List.set_cons_succ]
  refine wpAnyH_take (i := 9) (v := ?_) rfl (by kernel_rfl) (by kernel_rfl) (by kernel_rfl) (fun _ _ _ h => h) (Or.inl ⟨by rfl, ?_⟩) hHeld ?_
  rotate_left
  · (intro w hSw; (try dsimp only at hSw); go_simp; (try with_reducible rfl))
  try simp only [Act.put, List.getElem_toArray, List.getElem_cons_zero, List.getElem_cons_succ, List.setIfInBounds_toArray, List.set_cons_zero, List.set_cons_succ]
  refine wpAnyH_take (i := 10) (v := ?_) rfl (by kernel_rfl) (by kernel_rfl) (by kernel_rfl) (fun _ _ _ h => h) (Or.inl ⟨by rfl, ?_⟩) hHeld ?_
  rotate_left
  · (intro w hSw; (try dsimp only at hSw); go_simp; (try with_reducible rfl))
  try simp only [Act.put, List.getElem_toArray, List.getElem_cons_zero, List.getElem_cons_succ, List.setIfInBounds_toArray, List.set_cons_zero, List.set_cons_succ]
  refine wpAnyH_ready (rs := [11]) (by kernel_rfl) (by simp) ?_
  refine AllReadyH.cons rfl (fun K hK => ?_) AllReadyH.nil
  (try simp only [List.getElem_toArray, List.getElem_cons_zero, List.getElem_cons_succ])
  rw [if_pos (by rfl)]
  go_simp
  go_at_call 18
  refine (rtsame_none _).mono ?_
  rintro e w12 ⟨rfl, b⟩
  replace h1 := h1.on b
  replace h2 := h2.on b
  replace p0 := (b.cell (p := ⟨w.heap.size, 0, none⟩) pl).trans p0
  replace p1 := (b.cell (p := ⟨w.heap.size, 1, none⟩) pl).trans p1
  replace p2 := (b.cell (p := ⟨w.heap.size, 2, none⟩) pl).trans p2
  replace pl := Nat.lt_of_lt_of_le pl b.size
  replace q0 := (b.cell (p := ⟨w.heap.size + 1, 0, none⟩) ql).trans q0
  replace q1 := (b.cell (p := ⟨w.heap.size + 1, 1, none⟩) ql).trans q1
  replace ql := Nat.lt_of_lt_of_le ql b.size
  replace x0 := (b.cell (p := ⟨w4.heap.size, 0, none⟩) xl).trans x0
  replace x1 := (b.cell (p := ⟨w4.heap.size, 1, none⟩) xl).trans x1
  replace x2 := (b.cell (p := ⟨w4.heap.size, 2, none⟩) xl).trans x2
  replace xl := Nat.lt_of_lt_of_le xl b.size
  replace y0 := (b.cell (p := ⟨w6.heap.size, 0, none⟩) yl).trans y0
  replace y1 := (b.cell (p := ⟨w6.heap.size, 1, none⟩) yl).trans y1
  replace y2 := (b.cell (p := ⟨w6.heap.size, 2, none⟩) yl).trans y2
  replace yl := Nat.lt_of_lt_of_le yl b.size
  replace cc := cc.trans (b.mono cc.size)
  clear b
  refine hK.out _ _ ?_ (fun hHeld => ?_)
  · exact ⟨p0, p1, p2, q0, q1, x0, x1, x2, y0, y1, y2⟩
  clear hK K
  try simp only [Act.put, List.getElem_toArray, List.getElem_cons_zero, List.getElem_cons_succ, List.setIfInBounds_toArray, List.set_cons_zero, List.set_cons_succ]
  refine wpAnyH_take (i := 12) (v := ?_) rfl (by kernel_rfl) (by kernel_rfl) (by kernel_rfl) (fun _ _ _ h => h) (Or.inl ⟨by rfl, ?_⟩) hHeld ?_
  rotate_left
  · (intro w hSw; (try dsimp only at hSw); go_simp; (try with_reducible rfl))
  try simp only [Act.put, List.getElem_toArray, List.getElem_cons_zero, List.getElem_cons_succ, List.setIfInBounds_toArray, List.set_cons_zero, List.set_cons_succ]
  refine wpAnyH_take (i := 13) (v := ?_) rfl (by kernel_rfl) (by kernel_rfl) (by kernel_rfl) (fun _ _ _ h => h) (Or.inl ⟨by rfl, ?_⟩) hHeld ?_
  rotate_left
  · (intro w hSw; (try dsimp only at hSw); go_simp; (try with_reducible rfl))
  try simp only [Act.put, List.getElem_toArray, List.getElem_cons_zero, List.getElem_cons_succ, List.setIfInBounds_toArray, List.set_cons_zero, List.set_cons_succ]
  refine wpAnyH_take (i := 14) (v := ?_) rfl (by kernel_rfl) (by kernel_rfl) (by kernel_rfl) (fun _ _ _ h => h) (Or.inl ⟨by rfl, ?_⟩) hHeld ?_
  rotate_left
  · (intro w hSw; (try dsimp only at hSw); go_simp; (try with_reducible rfl))
  try simp only [Act.put, List.getElem_toArray, List.getElem_cons_zero, List.getElem_cons_succ, List.setIfInBounds_toArray, List.set_cons_zero, List.set_cons_succ]
  refine wpAnyH_take (i := 15) (v := ?_) rfl (by kernel_rfl) (by kernel_rfl) (by kernel_rfl) (fun _ _ _ h => h) (Or.inl ⟨by rfl, ?_⟩) hHeld ?_
  rotate_left
  · (intro w hSw; (try dsimp only at hSw); go_simp; (try with_reducible rfl))
  try simp only [Act.put, List.getElem_toArray, List.getElem_cons_zero, List.getElem_cons_succ, List.setIfInBounds_toArray, List.set_cons_zero, List.set_cons_succ]
  refine wpAnyH_take (i := 16) (v := ?_) rfl (by kernel_rfl) (by kernel_rfl) (by kernel_rfl) (fun _ _ _ h => h) (Or.inl ⟨by rfl, ?_⟩) hHeld ?_
  rotate_left
  · (intro w hSw; (try dsimp only at hSw); go_simp; (try with_reducible rfl))
  try simp only [Act.put, List.getElem_toArray, List.getElem_cons_zero, List.getElem_cons_succ, List.setIfInBounds_toArray, List.set_cons_zero, List.set_cons_succ]
  refine wpAnyH_take (i := 17) (v := ?_) rfl (by kernel_rfl) (by kernel_rfl) (by kernel_rfl) (fun _ _ _ h => h) (Or.inl ⟨by rfl, ?_⟩) hHeld ?_
  rotate_left
  · (intro w hSw; (try dsimp only at hSw); go_simp; (try with_reducible rfl))
  try simp only [Act.put, List.getElem_toArray, List.getElem_cons_zero, List.getElem_cons_succ, List.setIfInBounds_toArray, List.set_cons_zero, List.set_cons_succ]
  refine wpAnyH_take (i := 18) (v := ?_) rfl (by kernel_rfl) (by kernel_rfl) (by kernel_rfl) (fun _ _ _ h => h) (Or.inl ⟨by rfl, ?_⟩) hHeld ?_
  rotate_left
  · (intro w hSw; (try dsimp only at hSw); go_simp; (try with_reducible rfl))
  try simp only [Act.put, List.getElem_toArray, List.getElem_cons_zero, List.getElem_cons_succ, List.setIfInBounds_toArray, List.set_cons_zero, List.set_cons_succ]
  refine wpAnyH_take (i := 19) (v := ?_) rfl (by kernel_rfl) (by kernel_rfl) (by kernel_rfl) (fun _ _ _ h => h) (Or.inl ⟨by rfl, ?_⟩) hHeld ?_
  rotate_left
  · (intro w hSw; (try dsimp only at hSw); go_simp; (try with_reducible rfl))
  try simp only [Act.put, List.getElem_toArray, List.getElem_cons_zero, List.getElem_cons_succ, List.setIfInBounds_toArray, List.set_cons_zero, List.set_cons_succ]
  refine wpAnyH_take (i := 20) (v := ?_) rfl (by kernel_rfl) (by kernel_rfl) (by kernel_rfl) (fun _ _ _ h => h) (Or.inl ⟨by rfl, ?_⟩) hHeld ?_
  rotate_left
  · (intro w hSw; (try dsimp only at hSw); go_simp; (try with_reducible rfl))
  try simp only [Act.put, List.getElem_toArray, List.getElem_cons_zero, List.getElem_cons_succ, List.setIfInBounds_toArray, List.set_cons_zero, List.set_cons_succ]
  refine wpAnyH_take (i := 21) (v := ?_) rfl (by kernel_rfl) (by kernel_rfl) (by kernel_rfl) (fun _ _ _ h => h) (Or.inl ⟨by rfl, ?_⟩) hHeld ?_
  rotate_left
  · (intro w hSw; (try dsimp only at hSw); go_simp; (try with_reducible rfl))
  try simp only [Act.put, List.getElem_toArray, List.getElem_cons_zero, List.getElem_cons_succ, List.setIfInBounds_toArray, List.set_cons_zero, List.set_cons_succ]
  refine wpAnyH_take (i := 22) (v := undef) rfl (by kernel_rfl) (by kernel_rfl) (by kernel_rfl) (fun _ _ _ h => h) (Or.inr ⟨by rfl, rfl⟩) hHeld ?_
  try simp only [Act.put, List.getElem_toArray, List.getElem_cons_zero, List.getElem_cons_succ, List.setIfInBounds_toArray, List.set_cons_zero, List.set_cons_succ]
  refine wpAnyH_take (i := 23) (v := undef) rfl (by kernel_rfl) (by kernel_rfl) (by kernel_rfl) (fun _ _ _ h => h) (Or.inr ⟨by rfl, rfl⟩) hHeld ?_
  try simp only [Act.put, List.getElem_toArray, List.getElem_cons_zero, List.getElem_cons_succ, List.setIfInBounds_toArray, List.set_cons_zero, List.set_cons_succ]
  refine wpAnyH_take (i := 24) (v := undef) rfl (by kernel_rfl) (by kernel_rfl) (by kernel_rfl) (fun _ _ _ h => h) (Or.inr ⟨by rfl, rfl⟩) hHeld ?_
  try simp only [Act.put, List.getElem_toArray, List.getElem_cons_zero, List.getElem_cons_succ, List.setIfInBounds_toArray, List.set_cons_zero, List.set_cons_succ]
  refine wpAnyH_take (i := 25) (v := undef) rfl (by kernel_rfl) (by kernel_rfl) (by kernel_rfl) (fun _ _ _ h => h) (Or.inr ⟨by rfl, rfl⟩) hHeld ?_
  try simp only [Act.put, List.getElem_toArray, List.getElem_cons_zero, List.getElem_cons_succ, List.setIfInBounds_toArray, List.set_cons_zero, List.set_cons_succ]
  refine wpAnyH_take (i := 26) (v := undef) rfl (by kernel_rfl) (by kernel_rfl) (by kernel_rfl) (fun _ _ _ h => h) (Or.inr ⟨by rfl, rfl⟩) hHeld ?_
  try simp only [Act.put, List.getElem_toArray, List.getElem_cons_zero, List.getElem_cons_succ, List.setIfInBounds_toArray, List.set_cons_zero, List.set_cons_succ]
  refine wpAnyH_take (i := 27) (v := ?_) rfl (by kernel_rfl) (by kernel_rfl) (by kernel_rfl) (fun _ _ _ h => h) (Or.inl ⟨by rfl, ?_⟩) hHeld ?_
  rotate_left
  · (intro w hSw; (try dsimp only at hSw); go_simp; (try with_reducible rfl))
  try simp only [Act.put, List.getElem_toArray, List.getElem_cons_zero, List.getElem_cons_succ, List.setIfInBounds_toArray, List.set_cons_zero, List.set_cons_succ]
  refine wpAnyH_take (i := 28) (v := ?_) rfl (by kernel_rfl) (by kernel_rfl) (by kernel_rfl) (fun _ _ _ h => h) (Or.inl ⟨by rfl, ?_⟩) hHeld ?_
  rotate_left
  · (intro w hSw; (try dsimp only at hSw); go_simp; (try with_reducible rfl))
  try simp only [Act.put, List.getElem_toArray, List.getElem_cons_zero, List.getElem_cons_succ, List.setIfInBounds_toArray, List.set_cons_zero, List.set_cons_succ]
  refine wpAnyH_take (i := 29) (v := ?_) rfl (by kernel_rfl) (by kernel_rfl) (by kernel_rfl) (fun _ _ _ h => h) (Or.inl ⟨by rfl, ?_⟩) hHeld ?_
  rotate_left
  · (intro w hSw; (try dsimp only at hSw); go_simp; (try with_reducible rfl))
  try simp only [Act.put, List.getElem_toArray, List.getElem_cons_zero, List.getElem_cons_succ, List.setIfInBounds_toArray, List.set_cons_zero, List.set_cons_succ]
  refine wpAnyH_done (by kernel_rfl) ?_ _
  clear hHeld
  go_wp2_with fail
  go_ret
  exact ⟨rfl, cc⟩

theorem RatTells_walk {w : World} (b0 : Bool) {A0 : Option Addr} {n0 c0 : Nat} {l0 : List Nat} (hl0 : Lim w.heap.size w A0 n0 c0 l0) (hs0 : n0 ≤ 9223372036854775807) {B0 : Option Addr} {m0 d0 : Nat} {k0 : List Nat} (hk0 : Lim w.heap.size w B0 m0 d0 k0) (ht0 : m0 ≤ 9223372036854775807) (b1 : Bool) {A1 : Option Addr} {n1 c1 : Nat} {l1 : List Nat} (hl1 : Lim w.heap.size w A1 n1 c1 l1) (hs1 : n1 ≤ 9223372036854775807) {A2 : Option Addr} {n2 c2 : Nat} {l2 : List Nat} (hl2 : Lim w.heap.size w A2 n2 c2 l2) (hs2 : n2 ≤ 9223372036854775807) :
    Calls Try.prog 3 #[.agg #[.bool b0, .slice A0 n0 c0, .slice B0 m0 d0], .agg #[.bool b1, .slice A1 n1 c1], .slice A2 n2 c2] w fun e w' => e = .returned (.bool true) ∧ Below w.heap.size w w' := by
  have F : ∀ r, (decide ((n1 : Int) ≤ 6) && okZ b1 n1 l1) = r → ∀ W : World, Below w.heap.size w W → Calls Try.prog 10 #[.agg #[.bool b1, .slice A1 n1 c1], .int .i64 6] W (GotV W (.bool r)) := fun r hr W hW => rzfew_any 6 r (hl1.on hW) hs1 hr
  have R : ∀ r, canon l2 = r → ∀ W : World, Below w.heap.size w W → Calls Try.prog 11 #[.slice A2 n2 c2] W (GotV W (.bool r)) := fun r hr W hW => (rright_any _ _ _ _ _ r _ (hl2.on hW) hs2 hr).mono fun _ _ ⟨he, hw⟩ => ⟨he, by rw [← hw]; exact Below.refl _ _⟩
  cases t0 : decide ((6 : Int) < (n0 : Int)) with
  | true => exact RatTells_no0 t0
  | false =>
  cases t1 : decide ((6 : Int) < (m0 : Int)) with
  | true => exact RatTells_no1 t0 t1
  | false =>
  cases e1 : (decide ((n1 : Int) ≤ 6) && okZ b1 n1 l1) with
  | false => exact RatTells_no2 t0 t1 (F false e1)
  | true =>
  cases t3 : decide ((6 : Int) < (n2 : Int)) with
  | true => exact RatTells_no3 t0 t1 (F true e1) t3
  | false =>
  cases e2 : canon l2 with
  | false => exact RatTells_no4 t0 t1 (F true e1) t3 (R false e2)
  | true =>
  have u0 := of_decide_eq_false t0
  have u1 := of_decide_eq_false t1
  have u3 := of_decide_eq_false t3
  have GA : ∀ r, okR b0 n0 l0 m0 k0 = r → ∀ W : World, Below w.heap.size w W → Calls Try.prog 16 #[.agg #[.bool b0, .slice A0 n0 c0, .slice B0 m0 d0]] W (GotV W (.bool r)) := fun r hr W hW => qright_any (hl0.on hW) (hk0.on hW) (by omega) (by omega) r hr
  have GB : ∀ r, okR b0 n0 l0 m0 k0 = r → ∀ W : World, Below w.heap.size w W → Calls Try.prog 17 #[.agg #[.bool b0, .slice A0 n0 c0, .slice B0 m0 d0]] W (GotV W (.bool r)) := fun r hr W hW => rtright_any (hl0.on hW) (hk0.on hW) (by omega) (by omega) r hr
  obtain ⟨h1, j1⟩ := few_zn 6 hl1 e1
  have h2 := hl2.num e2
  have j2 : (limbs (val l2)).length ≤ 6 := by rw [← h2.len]; omega
  by_cases hy : val l2 = 0
  · have hn2 : n2 = 0 := by rw [h2.len, hy, limbs_zero]; rfl
    by_cases hz : I64 (sgn b1 (val l1))
    · exact RatTells_zeroI t0 t1 (F true e1) t3 (R true e2) _ (GA _ rfl) (GB _ rfl) h1 j1 h2 j2 hz hn2
    · exact RatTells_zero t0 t1 (F true e1) t3 (R true e2) _ (GA _ rfl) (GB _ rfl) h1 j1 h2 j2 hz hn2
  · by_cases hz : I64 (sgn b1 (val l1))
    · exact RatTells_okI t0 t1 (F true e1) t3 (R true e2) _ (GA _ rfl) (GB _ rfl) h1 j1 h2 j2 hz hy
    · exact RatTells_ok t0 t1 (F true e1) t3 (R true e2) _ (GA _ rfl) (GB _ rfl) h1 j1 h2 j2 hz hy

end Go.Proofs.Ytgnhioffamfakaa
