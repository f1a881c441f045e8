/-
  The walk of BlockTwice.
-/
import Derived.Test.YtlmcpgahjfepjaaWRight11
namespace Go.Proofs.Ytlmcpgahjfepjaa
set_option maxRecDepth 100000
open Go.RowKit
set_option linter.unusedVariables false
set_option linter.unusedSimpArgs false

set_option maxRecDepth 100000 in
set_option maxHeartbeats 8000000 in
theorem BlockTwice_few {w : World} {k : Int} {A : Option Addr} {n c : Nat} (h : 20 < n) :
    Calls Try.prog 6 #[.int .i64 k, .slice A n c] w fun e w' => e = .returned (.bool true) ∧ Below w.heap.size w w' := by
  have t0 : decide (20 < (n : Int)) = true := decide_eq_true (by omega)
  have u0 : decide (20 < n) = true := decide_eq_true (by omega)
  have cc := Below.refl w.heap.size w
  go_enter Try.func6, Try.ntmps6
  go_wp2_with fail
  refine (alive11_any _).mono ?_
  rintro e w1 ⟨rfl, b⟩
  replace cc := cc.trans (b.mono cc.size)
  clear b
  go_wp2_with fail
  go_ret
  exact ⟨rfl, cc⟩

set_option maxRecDepth 100000 in
set_option maxHeartbeats 8000000 in
theorem BlockTwice_kind {w : World} {k : Int} {A : Option Addr} {n c : Nat} (h20 : n ≤ 20) (h2 : k ≠ 2) (h3 : k ≠ 3) :
    Calls Try.prog 6 #[.int .i64 k, .slice A n c] w fun e w' => e = .returned (.bool true) ∧ Below w.heap.size w w' := by
  have t0 : decide (20 < (n : Int)) = false := decide_eq_false (by omega)
  have u0 : decide (20 < n) = false := decide_eq_false (by omega)
  have t1 : (k == 2) = false := beq_eq_false_iff_ne.2 h2
  have t2 : (k == 3) = false := beq_eq_false_iff_ne.2 h3
  have t3 : (k != 2) = true := by simp; exact h2
  have t4 : (k != 3) = true := by simp; exact h3
  clear h2 h3
  have cc := Below.refl w.heap.size w
  go_enter Try.func6, Try.ntmps6
  go_wp2_with fail
  refine (alive11_any _).mono ?_
  rintro e w1 ⟨rfl, b⟩
  replace cc := cc.trans (b.mono cc.size)
  clear b
  go_wp2_with fail
  go_ret
  exact ⟨rfl, cc⟩

set_option maxRecDepth 100000 in
set_option maxHeartbeats 8000000 in
theorem BlockTwice_no2 {w : World} {A : Option Addr} {n c : Nat} {L : List Int} (hA : IR w A n c L) (h20 : n ≤ 20) (CP : ∀ {W : World}, IR W A n c L → Calls Try.prog 8 #[.int .i64 2, .slice A n c] W (GotBp W 0 0 [] [] 1)) :
    Calls Try.prog 6 #[.int .i64 2, .slice A n c] w fun e w' => e = .returned (.bool true) ∧ Below w.heap.size w w' := by
  have t0 : decide (20 < (n : Int)) = false := decide_eq_false (by omega)
  have u0 : decide (20 < n) = false := decide_eq_false (by omega)
  have cc := Below.refl w.heap.size w
  go_enter Try.func6, Try.ntmps6
  go_wp2_with fail
  refine (CP hA).mono ?_
  rintro e w1 ⟨Ax, nx, cx, Bx, mx, dx, rfl, hCx, hWx, b⟩
  replace hA := hA.on b
  replace cc := cc.trans (b.mono cc.size)
  clear b
  go_wp2_with fail
  have bA := below_one w1 (.cells #[.int .i64 0, .int .i64 0, .slice Ax nx cx, .slice Bx mx dx] 26)
  replace hA := hA.on bA
  replace hCx := hCx.on bA
  replace hWx := hWx.on bA
  replace cc := cc.trans (bA.mono cc.size)
  clear bA
  have bx0 : (w1.alloc (.cells #[.int .i64 0, .int .i64 0, .slice Ax nx cx, .slice Bx mx dx] 26)).cell? ⟨w1.heap.size, 0, none⟩ = some (.int .i64 0) := by simp [go_sem]
  have bx1 : (w1.alloc (.cells #[.int .i64 0, .int .i64 0, .slice Ax nx cx, .slice Bx mx dx] 26)).cell? ⟨w1.heap.size, 1, none⟩ = some (.int .i64 0) := by simp [go_sem]
  have bx2 : (w1.alloc (.cells #[.int .i64 0, .int .i64 0, .slice Ax nx cx, .slice Bx mx dx] 26)).cell? ⟨w1.heap.size, 2, none⟩ = some (.slice Ax nx cx) := by simp [go_sem]
  have bx3 : (w1.alloc (.cells #[.int .i64 0, .int .i64 0, .slice Ax nx cx, .slice Bx mx dx] 26)).cell? ⟨w1.heap.size, 3, none⟩ = some (.slice Bx mx dx) := by simp [go_sem]
  have bxl : w1.heap.size < (w1.alloc (.cells #[.int .i64 0, .int .i64 0, .slice Ax nx cx, .slice Bx mx dx] 26)).heap.size := by simp
  generalize w1.alloc (.cells #[.int .i64 0, .int .i64 0, .slice Ax nx cx, .slice Bx mx dx] 26) = v2 at *
  go_wp2_with fail
  refine (alive11_any _).mono ?_
  rintro e w3 ⟨rfl, b⟩
  replace hA := hA.on b
  replace hCx := hCx.on b
  replace hWx := hWx.on b
  replace bx0 := (b.cell (p := ⟨w1.heap.size, 0, none⟩) bxl).trans bx0
  replace bx1 := (b.cell (p := ⟨w1.heap.size, 1, none⟩) bxl).trans bx1
  replace bx2 := (b.cell (p := ⟨w1.heap.size, 2, none⟩) bxl).trans bx2
  replace bx3 := (b.cell (p := ⟨w1.heap.size, 3, none⟩) bxl).trans bx3
  replace bxl := Nat.lt_of_lt_of_le bxl b.size
  replace cc := cc.trans (b.mono cc.size)
  clear b
  go_wp2_with fail
  go_ret
  exact ⟨rfl, cc⟩

set_option maxRecDepth 100000 in
set_option maxHeartbeats 8000000 in
theorem BlockTwice_low2 {w : World} {A : Option Addr} {n c : Nat} {L : List Int} (hA : IR w A n c L) (h20 : n ≤ 20) {S : Int} {CC : List Nat} (hS : S < 255) (CP : ∀ {W : World}, IR W A n c L → Calls Try.prog 8 #[.int .i64 2, .slice A n c] W (GotBp W 2 S CC [] 0)) :
    Calls Try.prog 6 #[.int .i64 2, .slice A n c] w fun e w' => e = .returned (.bool true) ∧ Below w.heap.size w w' := by
  have t0 : decide (20 < (n : Int)) = false := decide_eq_false (by omega)
  have u0 : decide (20 < n) = false := decide_eq_false (by omega)
  have t1 : decide (S < 255) = true := decide_eq_true hS
  clear hS
  have cc := Below.refl w.heap.size w
  go_enter Try.func6, Try.ntmps6
  go_wp2_with fail
  refine (CP hA).mono ?_
  rintro e w1 ⟨Ax, nx, cx, Bx, mx, dx, rfl, hCx, hWx, b⟩
  replace hA := hA.on b
  replace cc := cc.trans (b.mono cc.size)
  clear b
  go_wp2_with fail
  have bA := below_one w1 (.cells #[.int .i64 2, .int .i64 S, .slice Ax nx cx, .slice Bx mx dx] 26)
  replace hA := hA.on bA
  replace hCx := hCx.on bA
  replace hWx := hWx.on bA
  replace cc := cc.trans (bA.mono cc.size)
  clear bA
  have bx0 : (w1.alloc (.cells #[.int .i64 2, .int .i64 S, .slice Ax nx cx, .slice Bx mx dx] 26)).cell? ⟨w1.heap.size, 0, none⟩ = some (.int .i64 2) := by simp [go_sem]
  have bx1 : (w1.alloc (.cells #[.int .i64 2, .int .i64 S, .slice Ax nx cx, .slice Bx mx dx] 26)).cell? ⟨w1.heap.size, 1, none⟩ = some (.int .i64 S) := by simp [go_sem]
  have bx2 : (w1.alloc (.cells #[.int .i64 2, .int .i64 S, .slice Ax nx cx, .slice Bx mx dx] 26)).cell? ⟨w1.heap.size, 2, none⟩ = some (.slice Ax nx cx) := by simp [go_sem]
  have bx3 : (w1.alloc (.cells #[.int .i64 2, .int .i64 S, .slice Ax nx cx, .slice Bx mx dx] 26)).cell? ⟨w1.heap.size, 3, none⟩ = some (.slice Bx mx dx) := by simp [go_sem]
  have bxl : w1.heap.size < (w1.alloc (.cells #[.int .i64 2, .int .i64 S, .slice Ax nx cx, .slice Bx mx dx] 26)).heap.size := by simp
  generalize w1.alloc (.cells #[.int .i64 2, .int .i64 S, .slice Ax nx cx, .slice Bx mx dx] 26) = v2 at *
  go_wp2_with fail
  refine (alive11_any _).mono ?_
  rintro e w3 ⟨rfl, b⟩
  replace hA := hA.on b
  replace hCx := hCx.on b
  replace hWx := hWx.on b
  replace bx0 := (b.cell (p := ⟨w1.heap.size, 0, none⟩) bxl).trans bx0
  replace bx1 := (b.cell (p := ⟨w1.heap.size, 1, none⟩) bxl).trans bx1
  replace bx2 := (b.cell (p := ⟨w1.heap.size, 2, none⟩) bxl).trans bx2
  replace bx3 := (b.cell (p := ⟨w1.heap.size, 3, none⟩) bxl).trans bx3
  replace bxl := Nat.lt_of_lt_of_le bxl b.size
  replace cc := cc.trans (b.mono cc.size)
  clear b
  go_wp2_with fail
  go_ret
  exact ⟨rfl, cc⟩

set_option maxRecDepth 100000 in
set_option maxHeartbeats 8000000 in
theorem BlockTwice_yes2 {w : World} {A : Option Addr} {n c : Nat} {L : List Int} (hA : IR w A n c L) (h20 : n ≤ 20) {S : Int} {CC : List Nat} {M : List Int} (hS : 255 ≤ S) (CP : ∀ {W : World}, IR W A n c L → Calls Try.prog 8 #[.int .i64 2, .slice A n c] W (GotBp W 2 S CC [] 0)) (D0 : ∀ {W : World} {A B : Option Addr} {n c m d : Nat}, BR W A n c CC → IR W B m d [] → Calls Try.prog 10 #[.agg #[.int .i64 2, .int .i64 S, .slice A n c, .slice B m d]] W (GotI W M)) (PB : ∀ {W : World} {A : Option Addr} {n c : Nat}, IR W A n c M → Calls Try.prog 8 #[.int .i64 2, .slice A n c] W (GotBp W 2 S CC [] 0)) (S0 : ∀ {W : World} {Aa Ba Ab Bb : Option Addr} {na ca ma da nb cb mb db : Nat}, BR W Aa na ca CC → IR W Ba ma da [] → BR W Ab nb cb CC → IR W Bb mb db [] → Calls Try.prog 9 #[.agg #[.int .i64 2, .int .i64 S, .slice Aa na ca, .slice Ba ma da], .agg #[.int .i64 2, .int .i64 S, .slice Ab nb cb, .slice Bb mb db]] W (GotV W (.bool true))) (S1 : ∀ {W : World} {Aa Ba Ab Bb : Option Addr} {na ca ma da nb cb mb db : Nat}, BR W Aa na ca CC → IR W Ba ma da [] → BR W Ab nb cb CC → IR W Bb mb db [] → Calls Try.prog 25 #[.agg #[.int .i64 2, .int .i64 S, .slice Aa na ca, .slice Ba ma da], .agg #[.int .i64 2, .int .i64 S, .slice Ab nb cb, .slice Bb mb db]] W (GotV W (.bool true))) :
    Calls Try.prog 6 #[.int .i64 2, .slice A n c] w fun e w' => e = .returned (.bool true) ∧ Below w.heap.size w w' := by
  have t0 : decide (20 < (n : Int)) = false := decide_eq_false (by omega)
  have u0 : decide (20 < n) = false := decide_eq_false (by omega)
  have t1 : decide (S < 255) = false := decide_eq_false (by omega)
  clear hS
  have cc := Below.refl w.heap.size w
  go_enter Try.func6, Try.ntmps6
  go_wp2_with fail
  refine (CP hA).mono ?_
  rintro e w1 ⟨Ax, nx, cx, Bx, mx, dx, rfl, hCx, hWx, b⟩
  replace hA := hA.on b
  replace cc := cc.trans (b.mono cc.size)
  clear b
  go_wp2_with fail
  have bA := below_one w1 (.cells #[.int .i64 2, .int .i64 S, .slice Ax nx cx, .slice Bx mx dx] 26)
  replace hA := hA.on bA
  replace hCx := hCx.on bA
  replace hWx := hWx.on bA
  replace cc := cc.trans (bA.mono cc.size)
  clear bA
  have bx0 : (w1.alloc (.cells #[.int .i64 2, .int .i64 S, .slice Ax nx cx, .slice Bx mx dx] 26)).cell? ⟨w1.heap.size, 0, none⟩ = some (.int .i64 2) := by simp [go_sem]
  have bx1 : (w1.alloc (.cells #[.int .i64 2, .int .i64 S, .slice Ax nx cx, .slice Bx mx dx] 26)).cell? ⟨w1.heap.size, 1, none⟩ = some (.int .i64 S) := by simp [go_sem]
  have bx2 : (w1.alloc (.cells #[.int .i64 2, .int .i64 S, .slice Ax nx cx, .slice Bx mx dx] 26)).cell? ⟨w1.heap.size, 2, none⟩ = some (.slice Ax nx cx) := by simp [go_sem]
  have bx3 : (w1.alloc (.cells #[.int .i64 2, .int .i64 S, .slice Ax nx cx, .slice Bx mx dx] 26)).cell? ⟨w1.heap.size, 3, none⟩ = some (.slice Bx mx dx) := by simp [go_sem]
  have bxl : w1.heap.size < (w1.alloc (.cells #[.int .i64 2, .int .i64 S, .slice Ax nx cx, .slice Bx mx dx] 26)).heap.size := by simp
  generalize w1.alloc (.cells #[.int .i64 2, .int .i64 S, .slice Ax nx cx, .slice Bx mx dx] 26) = v2 at *
  go_wp2_with fail
  refine (D0 hCx hWx).mono ?_
  rintro e w3 ⟨Az, nz, cz, rfl, hz, b⟩
  replace hA := hA.on b
  replace hCx := hCx.on b
  replace hWx := hWx.on b
  replace bx0 := (b.cell (p := ⟨w1.heap.size, 0, none⟩) bxl).trans bx0
  replace bx1 := (b.cell (p := ⟨w1.heap.size, 1, none⟩) bxl).trans bx1
  replace bx2 := (b.cell (p := ⟨w1.heap.size, 2, none⟩) bxl).trans bx2
  replace bx3 := (b.cell (p := ⟨w1.heap.size, 3, none⟩) bxl).trans bx3
  replace bxl := Nat.lt_of_lt_of_le bxl b.size
  replace cc := cc.trans (b.mono cc.size)
  clear b
  go_wp2_with fail
  refine (PB hz).mono ?_
  rintro e w4 ⟨Ay, ny, cy, By, my, dy, rfl, hCy, hWy, b⟩
  replace hA := hA.on b
  replace hCx := hCx.on b
  replace hWx := hWx.on b
  replace hz := hz.on b
  replace bx0 := (b.cell (p := ⟨w1.heap.size, 0, none⟩) bxl).trans bx0
  replace bx1 := (b.cell (p := ⟨w1.heap.size, 1, none⟩) bxl).trans bx1
  replace bx2 := (b.cell (p := ⟨w1.heap.size, 2, none⟩) bxl).trans bx2
  replace bx3 := (b.cell (p := ⟨w1.heap.size, 3, none⟩) bxl).trans bx3
  replace bxl := Nat.lt_of_lt_of_le bxl b.size
  replace cc := cc.trans (b.mono cc.size)
  clear b
  go_wp2_with fail
  have bA := below_one w4 (.cells #[.int .i64 2, .int .i64 S, .slice Ay ny cy, .slice By my dy] 26)
  replace hA := hA.on bA
  replace hCx := hCx.on bA
  replace hWx := hWx.on bA
  replace hz := hz.on bA
  replace hCy := hCy.on bA
  replace hWy := hWy.on bA
  replace bx0 := (bA.cell (p := ⟨w1.heap.size, 0, none⟩) bxl).trans bx0
  replace bx1 := (bA.cell (p := ⟨w1.heap.size, 1, none⟩) bxl).trans bx1
  replace bx2 := (bA.cell (p := ⟨w1.heap.size, 2, none⟩) bxl).trans bx2
  replace bx3 := (bA.cell (p := ⟨w1.heap.size, 3, none⟩) bxl).trans bx3
  replace bxl := Nat.lt_of_lt_of_le bxl bA.size
  replace cc := cc.trans (bA.mono cc.size)
  clear bA
  have bz0 : (w4.alloc (.cells #[.int .i64 2, .int .i64 S, .slice Ay ny cy, .slice By my dy] 26)).cell? ⟨w4.heap.size, 0, none⟩ = some (.int .i64 2) := by simp [go_sem]
  have bz1 : (w4.alloc (.cells #[.int .i64 2, .int .i64 S, .slice Ay ny cy, .slice By my dy] 26)).cell? ⟨w4.heap.size, 1, none⟩ = some (.int .i64 S) := by simp [go_sem]
  have bz2 : (w4.alloc (.cells #[.int .i64 2, .int .i64 S, .slice Ay ny cy, .slice By my dy] 26)).cell? ⟨w4.heap.size, 2, none⟩ = some (.slice Ay ny cy) := by simp [go_sem]
  have bz3 : (w4.alloc (.cells #[.int .i64 2, .int .i64 S, .slice Ay ny cy, .slice By my dy] 26)).cell? ⟨w4.heap.size, 3, none⟩ = some (.slice By my dy) := by simp [go_sem]
  have bzl : w4.heap.size < (w4.alloc (.cells #[.int .i64 2, .int .i64 S, .slice Ay ny cy, .slice By my dy] 26)).heap.size := by simp
  generalize w4.alloc (.cells #[.int .i64 2, .int .i64 S, .slice Ay ny cy, .slice By my dy] 26) = v5 at *
  go_wp2_with fail
  refine (alive11_any _).mono ?_
  rintro e w6 ⟨rfl, b⟩
  replace hA := hA.on b
  replace hCx := hCx.on b
  replace hWx := hWx.on b
  replace hz := hz.on b
  replace hCy := hCy.on b
  replace hWy := hWy.on b
  replace bx0 := (b.cell (p := ⟨w1.heap.size, 0, none⟩) bxl).trans bx0
  replace bx1 := (b.cell (p := ⟨w1.heap.size, 1, none⟩) bxl).trans bx1
  replace bx2 := (b.cell (p := ⟨w1.heap.size, 2, none⟩) bxl).trans bx2
  replace bx3 := (b.cell (p := ⟨w1.heap.size, 3, none⟩) bxl).trans bx3
  replace bxl := Nat.lt_of_lt_of_le bxl b.size
  replace bz0 := (b.cell (p := ⟨w4.heap.size, 0, none⟩) bzl).trans bz0
  replace bz1 := (b.cell (p := ⟨w4.heap.size, 1, none⟩) bzl).trans bz1
  replace bz2 := (b.cell (p := ⟨w4.heap.size, 2, none⟩) bzl).trans bz2
  replace bz3 := (b.cell (p := ⟨w4.heap.size, 3, none⟩) bzl).trans bz3
  replace bzl := Nat.lt_of_lt_of_le bzl b.size
  replace cc := cc.trans (b.mono cc.size)
  clear b
  go_wp2_with fail
  refine (S0 hCx hWx hCy hWy).mono ?_
  rintro e w7 ⟨rfl, b⟩
  replace hA := hA.on b
  replace hCx := hCx.on b
  replace hWx := hWx.on b
  replace hz := hz.on b
  replace hCy := hCy.on b
  replace hWy := hWy.on b
  replace bx0 := (b.cell (p := ⟨w1.heap.size, 0, none⟩) bxl).trans bx0
  replace bx1 := (b.cell (p := ⟨w1.heap.size, 1, none⟩) bxl).trans bx1
  replace bx2 := (b.cell (p := ⟨w1.heap.size, 2, none⟩) bxl).trans bx2
  replace bx3 := (b.cell (p := ⟨w1.heap.size, 3, none⟩) bxl).trans bx3
  replace bxl := Nat.lt_of_lt_of_le bxl b.size
  replace bz0 := (b.cell (p := ⟨w4.heap.size, 0, none⟩) bzl).trans bz0
  replace bz1 := (b.cell (p := ⟨w4.heap.size, 1, none⟩) bzl).trans bz1
  replace bz2 := (b.cell (p := ⟨w4.heap.size, 2, none⟩) bzl).trans bz2
  replace bz3 := (b.cell (p := ⟨w4.heap.size, 3, none⟩) bzl).trans bz3
  replace bzl := Nat.lt_of_lt_of_le bzl b.size
  replace cc := cc.trans (b.mono cc.size)
  clear b
  go_wp2_with fail
  refine (S1 hCy hWy hCx hWx).mono ?_
  rintro e w8 ⟨rfl, b⟩
  replace hA := hA.on b
  replace hCx := hCx.on b
  replace hWx := hWx.on b
  replace hz := hz.on b
  replace hCy := hCy.on b
  replace hWy := hWy.on b
  replace bx0 := (b.cell (p := ⟨w1.heap.size, 0, none⟩) bxl).trans bx0
  replace bx1 := (b.cell (p := ⟨w1.heap.size, 1, none⟩) bxl).trans bx1
  replace bx2 := (b.cell (p := ⟨w1.heap.size, 2, none⟩) bxl).trans bx2
  replace bx3 := (b.cell (p := ⟨w1.heap.size, 3, none⟩) bxl).trans bx3
  replace bxl := Nat.lt_of_lt_of_le bxl b.size
  replace bz0 := (b.cell (p := ⟨w4.heap.size, 0, none⟩) bzl).trans bz0
  replace bz1 := (b.cell (p := ⟨w4.heap.size, 1, none⟩) bzl).trans bz1
  replace bz2 := (b.cell (p := ⟨w4.heap.size, 2, none⟩) bzl).trans bz2
  replace bz3 := (b.cell (p := ⟨w4.heap.size, 3, none⟩) bzl).trans bz3
  replace bzl := Nat.lt_of_lt_of_le bzl b.size
  replace cc := cc.trans (b.mono cc.size)
  clear b
  go_wp2_with fail
  go_ret
  exact ⟨rfl, cc⟩

set_option maxRecDepth 100000 in
set_option maxHeartbeats 8000000 in
theorem BlockTwice_no3 {w : World} {A : Option Addr} {n c : Nat} {L : List Int} (hA : IR w A n c L) (h20 : n ≤ 20) (CP : ∀ {W : World}, IR W A n c L → Calls Try.prog 8 #[.int .i64 3, .slice A n c] W (GotBp W 0 0 [] [] 1)) :
    Calls Try.prog 6 #[.int .i64 3, .slice A n c] w fun e w' => e = .returned (.bool true) ∧ Below w.heap.size w w' := by
  have t0 : decide (20 < (n : Int)) = false := decide_eq_false (by omega)
  have u0 : decide (20 < n) = false := decide_eq_false (by omega)
  have cc := Below.refl w.heap.size w
  go_enter Try.func6, Try.ntmps6
  go_wp2_with fail
  refine (CP hA).mono ?_
  rintro e w1 ⟨Ax, nx, cx, Bx, mx, dx, rfl, hCx, hWx, b⟩
  replace hA := hA.on b
  replace cc := cc.trans (b.mono cc.size)
  clear b
  go_wp2_with fail
  have bA := below_one w1 (.cells #[.int .i64 0, .int .i64 0, .slice Ax nx cx, .slice Bx mx dx] 26)
  replace hA := hA.on bA
  replace hCx := hCx.on bA
  replace hWx := hWx.on bA
  replace cc := cc.trans (bA.mono cc.size)
  clear bA
  have bx0 : (w1.alloc (.cells #[.int .i64 0, .int .i64 0, .slice Ax nx cx, .slice Bx mx dx] 26)).cell? ⟨w1.heap.size, 0, none⟩ = some (.int .i64 0) := by simp [go_sem]
  have bx1 : (w1.alloc (.cells #[.int .i64 0, .int .i64 0, .slice Ax nx cx, .slice Bx mx dx] 26)).cell? ⟨w1.heap.size, 1, none⟩ = some (.int .i64 0) := by simp [go_sem]
  have bx2 : (w1.alloc (.cells #[.int .i64 0, .int .i64 0, .slice Ax nx cx, .slice Bx mx dx] 26)).cell? ⟨w1.heap.size, 2, none⟩ = some (.slice Ax nx cx) := by simp [go_sem]
  have bx3 : (w1.alloc (.cells #[.int .i64 0, .int .i64 0, .slice Ax nx cx, .slice Bx mx dx] 26)).cell? ⟨w1.heap.size, 3, none⟩ = some (.slice Bx mx dx) := by simp [go_sem]
  have bxl : w1.heap.size < (w1.alloc (.cells #[.int .i64 0, .int .i64 0, .slice Ax nx cx, .slice Bx mx dx] 26)).heap.size := by simp
  generalize w1.alloc (.cells #[.int .i64 0, .int .i64 0, .slice Ax nx cx, .slice Bx mx dx] 26) = v2 at *
  go_wp2_with fail
  refine (alive11_any _).mono ?_
  rintro e w3 ⟨rfl, b⟩
  replace hA := hA.on b
  replace hCx := hCx.on b
  replace hWx := hWx.on b
  replace bx0 := (b.cell (p := ⟨w1.heap.size, 0, none⟩) bxl).trans bx0
  replace bx1 := (b.cell (p := ⟨w1.heap.size, 1, none⟩) bxl).trans bx1
  replace bx2 := (b.cell (p := ⟨w1.heap.size, 2, none⟩) bxl).trans bx2
  replace bx3 := (b.cell (p := ⟨w1.heap.size, 3, none⟩) bxl).trans bx3
  replace bxl := Nat.lt_of_lt_of_le bxl b.size
  replace cc := cc.trans (b.mono cc.size)
  clear b
  go_wp2_with fail
  go_ret
  exact ⟨rfl, cc⟩

set_option maxRecDepth 100000 in
set_option maxHeartbeats 8000000 in
theorem BlockTwice_low3 {w : World} {A : Option Addr} {n c : Nat} {L : List Int} (hA : IR w A n c L) (h20 : n ≤ 20) {S : Int} {CC : List Nat} (hS : S < 255) (CP : ∀ {W : World}, IR W A n c L → Calls Try.prog 8 #[.int .i64 3, .slice A n c] W (GotBp W 3 S CC [] 0)) :
    Calls Try.prog 6 #[.int .i64 3, .slice A n c] w fun e w' => e = .returned (.bool true) ∧ Below w.heap.size w w' := by
  have t0 : decide (20 < (n : Int)) = false := decide_eq_false (by omega)
  have u0 : decide (20 < n) = false := decide_eq_false (by omega)
  have t1 : decide (S < 255) = true := decide_eq_true hS
  clear hS
  have cc := Below.refl w.heap.size w
  go_enter Try.func6, Try.ntmps6
  go_wp2_with fail
  refine (CP hA).mono ?_
  rintro e w1 ⟨Ax, nx, cx, Bx, mx, dx, rfl, hCx, hWx, b⟩
  replace hA := hA.on b
  replace cc := cc.trans (b.mono cc.size)
  clear b
  go_wp2_with fail
  have bA := below_one w1 (.cells #[.int .i64 3, .int .i64 S, .slice Ax nx cx, .slice Bx mx dx] 26)
  replace hA := hA.on bA
  replace hCx := hCx.on bA
  replace hWx := hWx.on bA
  replace cc := cc.trans (bA.mono cc.size)
  clear bA
  have bx0 : (w1.alloc (.cells #[.int .i64 3, .int .i64 S, .slice Ax nx cx, .slice Bx mx dx] 26)).cell? ⟨w1.heap.size, 0, none⟩ = some (.int .i64 3) := by simp [go_sem]
  have bx1 : (w1.alloc (.cells #[.int .i64 3, .int .i64 S, .slice Ax nx cx, .slice Bx mx dx] 26)).cell? ⟨w1.heap.size, 1, none⟩ = some (.int .i64 S) := by simp [go_sem]
  have bx2 : (w1.alloc (.cells #[.int .i64 3, .int .i64 S, .slice Ax nx cx, .slice Bx mx dx] 26)).cell? ⟨w1.heap.size, 2, none⟩ = some (.slice Ax nx cx) := by simp [go_sem]
  have bx3 : (w1.alloc (.cells #[.int .i64 3, .int .i64 S, .slice Ax nx cx, .slice Bx mx dx] 26)).cell? ⟨w1.heap.size, 3, none⟩ = some (.slice Bx mx dx) := by simp [go_sem]
  have bxl : w1.heap.size < (w1.alloc (.cells #[.int .i64 3, .int .i64 S, .slice Ax nx cx, .slice Bx mx dx] 26)).heap.size := by simp
  generalize w1.alloc (.cells #[.int .i64 3, .int .i64 S, .slice Ax nx cx, .slice Bx mx dx] 26) = v2 at *
  go_wp2_with fail
  refine (alive11_any _).mono ?_
  rintro e w3 ⟨rfl, b⟩
  replace hA := hA.on b
  replace hCx := hCx.on b
  replace hWx := hWx.on b
  replace bx0 := (b.cell (p := ⟨w1.heap.size, 0, none⟩) bxl).trans bx0
  replace bx1 := (b.cell (p := ⟨w1.heap.size, 1, none⟩) bxl).trans bx1
  replace bx2 := (b.cell (p := ⟨w1.heap.size, 2, none⟩) bxl).trans bx2
  replace bx3 := (b.cell (p := ⟨w1.heap.size, 3, none⟩) bxl).trans bx3
  replace bxl := Nat.lt_of_lt_of_le bxl b.size
  replace cc := cc.trans (b.mono cc.size)
  clear b
  go_wp2_with fail
  go_ret
  exact ⟨rfl, cc⟩

set_option maxRecDepth 100000 in
set_option maxHeartbeats 8000000 in
theorem BlockTwice_yes3 {w : World} {A : Option Addr} {n c : Nat} {L : List Int} (hA : IR w A n c L) (h20 : n ≤ 20) {S : Int} {CC : List Nat} {M : List Int} (hS : 255 ≤ S) (CP : ∀ {W : World}, IR W A n c L → Calls Try.prog 8 #[.int .i64 3, .slice A n c] W (GotBp W 3 S CC [] 0)) (D0 : ∀ {W : World} {A B : Option Addr} {n c m d : Nat}, BR W A n c CC → IR W B m d [] → Calls Try.prog 10 #[.agg #[.int .i64 3, .int .i64 S, .slice A n c, .slice B m d]] W (GotI W M)) (PB : ∀ {W : World} {A : Option Addr} {n c : Nat}, IR W A n c M → Calls Try.prog 8 #[.int .i64 3, .slice A n c] W (GotBp W 3 S CC [] 0)) (S0 : ∀ {W : World} {Aa Ba Ab Bb : Option Addr} {na ca ma da nb cb mb db : Nat}, BR W Aa na ca CC → IR W Ba ma da [] → BR W Ab nb cb CC → IR W Bb mb db [] → Calls Try.prog 9 #[.agg #[.int .i64 3, .int .i64 S, .slice Aa na ca, .slice Ba ma da], .agg #[.int .i64 3, .int .i64 S, .slice Ab nb cb, .slice Bb mb db]] W (GotV W (.bool true))) (S1 : ∀ {W : World} {Aa Ba Ab Bb : Option Addr} {na ca ma da nb cb mb db : Nat}, BR W Aa na ca CC → IR W Ba ma da [] → BR W Ab nb cb CC → IR W Bb mb db [] → Calls Try.prog 25 #[.agg #[.int .i64 3, .int .i64 S, .slice Aa na ca, .slice Ba ma da], .agg #[.int .i64 3, .int .i64 S, .slice Ab nb cb, .slice Bb mb db]] W (GotV W (.bool true))) :
    Calls Try.prog 6 #[.int .i64 3, .slice A n c] w fun e w' => e = .returned (.bool true) ∧ Below w.heap.size w w' := by
  have t0 : decide (20 < (n : Int)) = false := decide_eq_false (by omega)
  have u0 : decide (20 < n) = false := decide_eq_false (by omega)
  have t1 : decide (S < 255) = false := decide_eq_false (by omega)
  clear hS
  have cc := Below.refl w.heap.size w
  go_enter Try.func6, Try.ntmps6
  go_wp2_with fail
  refine (CP hA).mono ?_
  rintro e w1 ⟨Ax, nx, cx, Bx, mx, dx, rfl, hCx, hWx, b⟩
  replace hA := hA.on b
  replace cc := cc.trans (b.mono cc.size)
  clear b
  go_wp2_with fail
  have bA := below_one w1 (.cells #[.int .i64 3, .int .i64 S, .slice Ax nx cx, .slice Bx mx dx] 26)
  replace hA := hA.on bA
  replace hCx := hCx.on bA
  replace hWx := hWx.on bA
  replace cc := cc.trans (bA.mono cc.size)
  clear bA
  have bx0 : (w1.alloc (.cells #[.int .i64 3, .int .i64 S, .slice Ax nx cx, .slice Bx mx dx] 26)).cell? ⟨w1.heap.size, 0, none⟩ = some (.int .i64 3) := by simp [go_sem]
  have bx1 : (w1.alloc (.cells #[.int .i64 3, .int .i64 S, .slice Ax nx cx, .slice Bx mx dx] 26)).cell? ⟨w1.heap.size, 1, none⟩ = some (.int .i64 S) := by simp [go_sem]
  have bx2 : (w1.alloc (.cells #[.int .i64 3, .int .i64 S, .slice Ax nx cx, .slice Bx mx dx] 26)).cell? ⟨w1.heap.size, 2, none⟩ = some (.slice Ax nx cx) := by simp [go_sem]
  have bx3 : (w1.alloc (.cells #[.int .i64 3, .int .i64 S, .slice Ax nx cx, .slice Bx mx dx] 26)).cell? ⟨w1.heap.size, 3, none⟩ = some (.slice Bx mx dx) := by simp [go_sem]
  have bxl : w1.heap.size < (w1.alloc (.cells #[.int .i64 3, .int .i64 S, .slice Ax nx cx, .slice Bx mx dx] 26)).heap.size := by simp
  generalize w1.alloc (.cells #[.int .i64 3, .int .i64 S, .slice Ax nx cx, .slice Bx mx dx] 26) = v2 at *
  go_wp2_with fail
  refine (D0 hCx hWx).mono ?_
  rintro e w3 ⟨Az, nz, cz, rfl, hz, b⟩
  replace hA := hA.on b
  replace hCx := hCx.on b
  replace hWx := hWx.on b
  replace bx0 := (b.cell (p := ⟨w1.heap.size, 0, none⟩) bxl).trans bx0
  replace bx1 := (b.cell (p := ⟨w1.heap.size, 1, none⟩) bxl).trans bx1
  replace bx2 := (b.cell (p := ⟨w1.heap.size, 2, none⟩) bxl).trans bx2
  replace bx3 := (b.cell (p := ⟨w1.heap.size, 3, none⟩) bxl).trans bx3
  replace bxl := Nat.lt_of_lt_of_le bxl b.size
  replace cc := cc.trans (b.mono cc.size)
  clear b
  go_wp2_with fail
  refine (PB hz).mono ?_
  rintro e w4 ⟨Ay, ny, cy, By, my, dy, rfl, hCy, hWy, b⟩
  replace hA := hA.on b
  replace hCx := hCx.on b
  replace hWx := hWx.on b
  replace hz := hz.on b
  replace bx0 := (b.cell (p := ⟨w1.heap.size, 0, none⟩) bxl).trans bx0
  replace bx1 := (b.cell (p := ⟨w1.heap.size, 1, none⟩) bxl).trans bx1
  replace bx2 := (b.cell (p := ⟨w1.heap.size, 2, none⟩) bxl).trans bx2
  replace bx3 := (b.cell (p := ⟨w1.heap.size, 3, none⟩) bxl).trans bx3
  replace bxl := Nat.lt_of_lt_of_le bxl b.size
  replace cc := cc.trans (b.mono cc.size)
  clear b
  go_wp2_with fail
  have bA := below_one w4 (.cells #[.int .i64 3, .int .i64 S, .slice Ay ny cy, .slice By my dy] 26)
  replace hA := hA.on bA
  replace hCx := hCx.on bA
  replace hWx := hWx.on bA
  replace hz := hz.on bA
  replace hCy := hCy.on bA
  replace hWy := hWy.on bA
  replace bx0 := (bA.cell (p := ⟨w1.heap.size, 0, none⟩) bxl).trans bx0
  replace bx1 := (bA.cell (p := ⟨w1.heap.size, 1, none⟩) bxl).trans bx1
  replace bx2 := (bA.cell (p := ⟨w1.heap.size, 2, none⟩) bxl).trans bx2
  replace bx3 := (bA.cell (p := ⟨w1.heap.size, 3, none⟩) bxl).trans bx3
  replace bxl := Nat.lt_of_lt_of_le bxl bA.size
  replace cc := cc.trans (bA.mono cc.size)
  clear bA
  have bz0 : (w4.alloc (.cells #[.int .i64 3, .int .i64 S, .slice Ay ny cy, .slice By my dy] 26)).cell? ⟨w4.heap.size, 0, none⟩ = some (.int .i64 3) := by simp [go_sem]
  have bz1 : (w4.alloc (.cells #[.int .i64 3, .int .i64 S, .slice Ay ny cy, .slice By my dy] 26)).cell? ⟨w4.heap.size, 1, none⟩ = some (.int .i64 S) := by simp [go_sem]
  have bz2 : (w4.alloc (.cells #[.int .i64 3, .int .i64 S, .slice Ay ny cy, .slice By my dy] 26)).cell? ⟨w4.heap.size, 2, none⟩ = some (.slice Ay ny cy) := by simp [go_sem]
  have bz3 : (w4.alloc (.cells #[.int .i64 3, .int .i64 S, .slice Ay ny cy, .slice By my dy] 26)).cell? ⟨w4.heap.size, 3, none⟩ = some (.slice By my dy) := by simp [go_sem]
  have bzl : w4.heap.size < (w4.alloc (.cells #[.int .i64 3, .int .i64 S, .slice Ay ny cy, .slice By my dy] 26)).heap.size := by simp
  generalize w4.alloc (.cells #[.int .i64 3, .int .i64 S, .slice Ay ny cy, .slice By my dy] 26) = v5 at *
  go_wp2_with fail
  refine (alive11_any _).mono ?_
  rintro e w6 ⟨rfl, b⟩
  replace hA := hA.on b
  replace hCx := hCx.on b
  replace hWx := hWx.on b
  replace hz := hz.on b
  replace hCy := hCy.on b
  replace hWy := hWy.on b
  replace bx0 := (b.cell (p := ⟨w1.heap.size, 0, none⟩) bxl).trans bx0
  replace bx1 := (b.cell (p := ⟨w1.heap.size, 1, none⟩) bxl).trans bx1
  replace bx2 := (b.cell (p := ⟨w1.heap.size, 2, none⟩) bxl).trans bx2
  replace bx3 := (b.cell (p := ⟨w1.heap.size, 3, none⟩) bxl).trans bx3
  replace bxl := Nat.lt_of_lt_of_le bxl b.size
  replace bz0 := (b.cell (p := ⟨w4.heap.size, 0, none⟩) bzl).trans bz0
  replace bz1 := (b.cell (p := ⟨w4.heap.size, 1, none⟩) bzl).trans bz1
  replace bz2 := (b.cell (p := ⟨w4.heap.size, 2, none⟩) bzl).trans bz2
  replace bz3 := (b.cell (p := ⟨w4.heap.size, 3, none⟩) bzl).trans bz3
  replace bzl := Nat.lt_of_lt_of_le bzl b.size
  replace cc := cc.trans (b.mono cc.size)
  clear b
  go_wp2_with fail
  refine (S0 hCx hWx hCy hWy).mono ?_
  rintro e w7 ⟨rfl, b⟩
  replace hA := hA.on b
  replace hCx := hCx.on b
  replace hWx := hWx.on b
  replace hz := hz.on b
  replace hCy := hCy.on b
  replace hWy := hWy.on b
  replace bx0 := (b.cell (p := ⟨w1.heap.size, 0, none⟩) bxl).trans bx0
  replace bx1 := (b.cell (p := ⟨w1.heap.size, 1, none⟩) bxl).trans bx1
  replace bx2 := (b.cell (p := ⟨w1.heap.size, 2, none⟩) bxl).trans bx2
  replace bx3 := (b.cell (p := ⟨w1.heap.size, 3, none⟩) bxl).trans bx3
  replace bxl := Nat.lt_of_lt_of_le bxl b.size
  replace bz0 := (b.cell (p := ⟨w4.heap.size, 0, none⟩) bzl).trans bz0
  replace bz1 := (b.cell (p := ⟨w4.heap.size, 1, none⟩) bzl).trans bz1
  replace bz2 := (b.cell (p := ⟨w4.heap.size, 2, none⟩) bzl).trans bz2
  replace bz3 := (b.cell (p := ⟨w4.heap.size, 3, none⟩) bzl).trans bz3
  replace bzl := Nat.lt_of_lt_of_le bzl b.size
  replace cc := cc.trans (b.mono cc.size)
  clear b
  go_wp2_with fail
  refine (S1 hCy hWy hCx hWx).mono ?_
  rintro e w8 ⟨rfl, b⟩
  replace hA := hA.on b
  replace hCx := hCx.on b
  replace hWx := hWx.on b
  replace hz := hz.on b
  replace hCy := hCy.on b
  replace hWy := hWy.on b
  replace bx0 := (b.cell (p := ⟨w1.heap.size, 0, none⟩) bxl).trans bx0
  replace bx1 := (b.cell (p := ⟨w1.heap.size, 1, none⟩) bxl).trans bx1
  replace bx2 := (b.cell (p := ⟨w1.heap.size, 2, none⟩) bxl).trans bx2
  replace bx3 := (b.cell (p := ⟨w1.heap.size, 3, none⟩) bxl).trans bx3
  replace bxl := Nat.lt_of_lt_of_le bxl b.size
  replace bz0 := (b.cell (p := ⟨w4.heap.size, 0, none⟩) bzl).trans bz0
  replace bz1 := (b.cell (p := ⟨w4.heap.size, 1, none⟩) bzl).trans bz1
  replace bz2 := (b.cell (p := ⟨w4.heap.size, 2, none⟩) bzl).trans bz2
  replace bz3 := (b.cell (p := ⟨w4.heap.size, 3, none⟩) bzl).trans bz3
  replace bzl := Nat.lt_of_lt_of_le bzl b.size
  replace cc := cc.trans (b.mono cc.size)
  clear b
  go_wp2_with fail
  go_ret
  exact ⟨rfl, cc⟩

theorem pk_ld {k s : Int} (hk : k = 2 ∨ k = 3) (hs : 255 ≤ s) {c : Nat} (hc : c ≤ 255) : pk k s (ld k s c) = c := by
  have h9 : Kind9 k := by unfold Kind9; omega
  have hd : den9 k = 255 := by unfold den9; rcases hk with rfl | rfl <;> rfl
  have hm : max s 1 = s := by omega
  have hr := rn_half (s * num10 k c) (d := 255) (by omega)
  have el : ld k s c = rn (s * num10 k c) 255 := by unfold ld; rw [hd]; rfl
  unfold pk
  rw [hm]
  refine lpl_uniq hc fun i hi => ?_
  unfold dst
  rw [hd, el]
  generalize rn (s * num10 k c) 255 = x at *
  rw [Int.mul_comm s] at hr
  have hr1 := hr.1
  have hr2 := hr.2
  rw [show ((255 : Nat) : Int) = 255 from rfl] at hr1 hr2
  rcases Nat.lt_trichotomy i c with e | e | e
  · have h1 := num10_up h9 e hc
    have h2 := Int.mul_le_mul_of_nonneg_right (show 1 ≤ num10 k c - num10 k i by omega) (show (0 : Int) ≤ s by omega)
    rw [Int.sub_mul] at h2
    generalize num10 k c * s = a at *
    generalize num10 k i * s = b at *
    omega
  · subst e; exact ⟨Int.le_refl _, fun h => absurd h (Nat.lt_irrefl _)⟩
  · have h1 := num10_up h9 e hi
    have h2 := Int.mul_le_mul_of_nonneg_right (show 1 ≤ num10 k i - num10 k c by omega) (show (0 : Int) ≤ s by omega)
    rw [Int.sub_mul] at h2
    generalize num10 k c * s = a at *
    generalize num10 k i * s = b at *
    exact ⟨by omega, fun h => by omega⟩
theorem low_line : near10 2 (-1) 1 = 0 := near10_own (by unfold Kind9; omega) (by omega) (by omega) (by decide +kernel)
theorem ld_line (s : Int) : ld 2 s 0 = -s := by
  have e : num10 2 0 = -255 := by decide +kernel
  have := rn_self (-s) (d := 255) (by omega)
  unfold ld
  rw [e, show s * -255 = -s * ((255 : Nat) : Int) by omega]
  exact this
theorem back11_same {k : Int} {L : List Int} (hk : k = 2 ∨ k = 3) (ho : OkP k L) : gr (back11 k L) = gr L := by
  have h9 : Kind9 k := by unfold Kind9; omega
  rcases hk with rfl | rfl
  · have h1 := back11_gr (L := L) h9
    have h2 := gr_pos (back11 2 L)
    rcases grk_some L L.length with e | ⟨j, hj, e⟩
    · have e : gr L = 0 := e
      omega
    · have e : L[j]?.getD 0 = gr L ∨ L[j]?.getD 0 = -gr L := e
      rcases Int.lt_or_le 0 (gr L) with h0 | h0
      · have hb := back11_at (k := 2) hj
        have hg := gr_ge (L := back11 2 L) (j := j) (by rw [back11_len]; exact hj)
        rcases e with e | e
        · rw [e, pk_top h9 h0, ld_top h9] at hb; omega
        · rw [e, pk_low h0, low_line, ld_line] at hb; omega
      · omega
  · exact (back11_top h9 ho (by decide)).symm
theorem back11_ok {k : Int} {L : List Int} (hk : k = 2 ∨ k = 3) (hi : ∀ x ∈ L, I64 x) (ho : OkP k L) : OkP k (back11 k L) := by
  have h9 : Kind9 k := by unfold Kind9; omega
  refine ⟨by omega, all_at fun j hj => ⟨(back11_fit h9 hi ho j).2, fun e => ?_⟩⟩
  rw [back11_len] at hj
  obtain rfl : k = 3 := by omega
  rw [back11_at hj]
  exact (ld_in h9 (gr_pos L) (pk_le _ _ _)).2.2 (by decide)
theorem back11_codes {k : Int} {L : List Int} (hk : k = 2 ∨ k = 3) (ho : OkP k L) (hs : 255 ≤ gr L) : (back11 k L).map (pk k (gr (back11 k L))) = L.map (pk k (gr L)) := by
  rw [back11_same hk ho]
  unfold back11
  rw [List.map_map, List.map_map]
  refine List.map_congr_left fun x _ => ?_
  exact pk_ld hk hs (pk_le _ _ _)
theorem rSame_same {w : World} {ka sa : Int} {Aa Ba : Option Addr} {na ca ma da : Nat} {kb sb : Int} {Ab Bb : Option Addr} {nb cb mb db : Nat} {C : List Nat} {W : List Int} (hCa : BR w Aa na ca C) (hWa : IR w Ba ma da W) (hna : na ≤ 9223372036854775807) (hma : ma ≤ 9223372036854775807) (hCb : BR w Ab nb cb C) (hWb : IR w Bb mb db W) (hnb : nb ≤ 9223372036854775807) (hmb : mb ≤ 9223372036854775807) (hk : ka = kb) (hs : sa = sb) : Calls Try.prog 9 #[.agg #[.int .i64 ka, .int .i64 sa, .slice Aa na ca, .slice Ba ma da], .agg #[.int .i64 kb, .int .i64 sb, .slice Ab nb cb, .slice Bb mb db]] w (GotV w (.bool true)) := by
  have h := rSame_N (ka := ka) (kb := kb) (sa := sa) (sb := sb) hCa hWa hna hma hCb hWb hnb hmb
  rw [decide_eq_true ⟨hk, hs, rfl, rfl⟩] at h
  exact h
theorem BlockTwice_walk {w : World} (k : Int) (wk : (Lit.int .i64 k).wf = true) {A : Option Addr} {n c : Nat} {L : List Int} (hA : IR w A n c L) (hn : n ≤ 9223372036854775807) (hi : ∀ x ∈ L, I64 x) : Calls Try.prog 6 #[.int .i64 k, .slice A n c] w fun e w' => e = .returned (.bool true) ∧ Below w.heap.size w w' := by
  have hk := i64_wf wk
  have hl := hA.1
  by_cases h0 : 20 < n
  · exact BlockTwice_few h0
  have h20 : n ≤ 20 := by omega
  by_cases h2 : k = 2 ∨ k = 3
  · have k4 : k ≠ 4 := by omega
    by_cases ho : OkP k L
    · have hO := okB_pk ho (by omega)
      obtain ⟨e1, e2, e3⟩ := pk_not4 k L k4
      have k9 : Kind9 k := by unfold Kind9; omega
      have CP : ∀ {W : World}, IR W A n c L → Calls Try.prog 8 #[.int .i64 k, .slice A n c] W (GotBp W k (gr L) (L.map (pk k (gr L))) [] 0) := fun h => by have := bkPack_yes hk h hi h20 ho; rwa [e1, e2, e3] at this
      by_cases hS : gr L < 255
      · rcases h2 with rfl | rfl
        · exact BlockTwice_low2 hA h20 hS CP
        · exact BlockTwice_low3 hA h20 hS CP
      · rw [e1, e2, e3] at hO
        have D0 : ∀ {W : World} {A B : Option Addr} {n c m d : Nat}, BR W A n c (L.map (pk k (gr L))) → IR W B m d [] → Calls Try.prog 10 #[.agg #[.int .i64 k, .int .i64 (gr L), .slice A n c, .slice B m d]] W (GotI W (back11 k L)) := fun h g => by have := bkLoad_N h g hO (gr_i64 hi ho); rwa [show ldB k (gr L) (L.map (pk k (gr L))) [] = back11 k L from if_neg k4] at this
        have PB : ∀ {W : World} {A : Option Addr} {n c : Nat}, IR W A n c (back11 k L) → Calls Try.prog 8 #[.int .i64 k, .slice A n c] W (GotBp W k (gr L) (L.map (pk k (gr L))) [] 0) := fun h => by
          have h2' := bkPack_yes hk h (all_at fun j _ => (back11_fit k9 hi ho j).1) (by have := h.1; rw [back11_len] at this; omega) (back11_ok h2 hi ho)
          obtain ⟨g1, g2, g3⟩ := pk_not4 k (back11 k L) k4
          rw [g1, g2, g3, back11_codes h2 ho (by omega), back11_same h2 ho] at h2'
          exact h2'
        have sz : ∀ {W : World} {A : Option Addr} {n c : Nat}, BR W A n c (L.map (pk k (gr L))) → n ≤ 9223372036854775807 := fun h => by have := h.1; simp at this; omega
        have sw : ∀ {W : World} {A : Option Addr} {n c : Nat}, IR W A n c [] → n ≤ 9223372036854775807 := fun h => by have := h.1; simp at this; omega
        rcases h2 with rfl | rfl
        · exact BlockTwice_yes2 hA h20 (by omega) CP D0 PB (fun a b c d => rSame_same a b (sz a) (sw b) c d (sz c) (sw d) rfl rfl) (fun a b c d => bkSame_same a b (sz a) (sw b) c d (sz c) (sw d) rfl rfl)
        · exact BlockTwice_yes3 hA h20 (by omega) CP D0 PB (fun a b c d => rSame_same a b (sz a) (sw b) c d (sz c) (sw d) rfl rfl) (fun a b c d => bkSame_same a b (sz a) (sw b) c d (sz c) (sw d) rfl rfl)
    · rcases h2 with rfl | rfl
      · exact BlockTwice_no2 hA h20 (fun h => bkPack_no hk h hi h20 ho)
      · exact BlockTwice_no3 hA h20 (fun h => bkPack_no hk h hi h20 ho)
  · exact BlockTwice_kind h20 (by omega) (by omega)

end Go.Proofs.Ytlmcpgahjfepjaa
