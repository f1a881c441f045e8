/-
  The walk of BlockRight.
-/
import Derived.Test.YtlmcpgahjfepjaaGreatWOrd11
namespace Go.Proofs.YtlmcpgahjfepjaaGreat
set_option maxRecDepth 100000
open Go.RowKit
set_option linter.unusedVariables false
set_option linter.unusedSimpArgs false

set_option maxRecDepth 100000 in
set_option maxHeartbeats 8000000 in
theorem BlockRight_few {w : World} {k : Int} {A : Option Addr} {n c : Nat} (h : 20 < n) :
    Calls Tryz.prog 4 #[.int .i64 k, .slice A n c] w fun e w' => e = .returned (.bool true) ∧ Below w.heap.size w w' := by
  have t0 : decide (20 < (n : Int)) = true := decide_eq_true (by omega)
  have u0 : decide (20 < n) = true := decide_eq_true (by omega)
  have cc := Below.refl w.heap.size w
  go_enter Tryz.func4, Tryz.ntmps4
  go_wp2_with fail
  refine (alive11_any _).mono ?_
  rintro e w1 ⟨rfl, b⟩
  replace cc := cc.trans (b.mono cc.size)
  clear b
  go_wp2_with fail
  go_ret
  exact ⟨rfl, cc⟩

set_option maxRecDepth 100000 in
set_option maxHeartbeats 8000000 in
theorem BlockRight_no {w : World} {k : Int} {A : Option Addr} {n c : Nat} {L : List Int} (hA : IR w A n c L) (h20 : n ≤ 20) (CP : ∀ {W : World}, IR W A n c L → Calls Tryz.prog 16 #[.int .i64 k, .slice A n c] W (GotBp W 0 0 [] [] 1)) :
    Calls Tryz.prog 4 #[.int .i64 k, .slice A n c] w fun e w' => e = .returned (.bool true) ∧ Below w.heap.size w w' := by
  have t0 : decide (20 < (n : Int)) = false := decide_eq_false (by omega)
  have u0 : decide (20 < n) = false := decide_eq_false (by omega)
  have cc := Below.refl w.heap.size w
  go_enter Tryz.func4, Tryz.ntmps4
  go_wp2_with fail
  refine (CP hA).mono ?_
  rintro e w1 ⟨Ax, nx, cx, Bx, mx, dx, rfl, hCx, hWx, b⟩
  replace hA := hA.on b
  replace cc := cc.trans (b.mono cc.size)
  clear b
  go_wp2_with fail
  have bA := below_one w1 (.cells #[.int .i64 0, .int .i64 0, .slice Ax nx cx, .slice Bx mx dx] 25)
  replace hA := hA.on bA
  replace hCx := hCx.on bA
  replace hWx := hWx.on bA
  replace cc := cc.trans (bA.mono cc.size)
  clear bA
  have bx0 : (w1.alloc (.cells #[.int .i64 0, .int .i64 0, .slice Ax nx cx, .slice Bx mx dx] 25)).cell? ⟨w1.heap.size, 0, none⟩ = some (.int .i64 0) := by simp [go_sem]
  have bx1 : (w1.alloc (.cells #[.int .i64 0, .int .i64 0, .slice Ax nx cx, .slice Bx mx dx] 25)).cell? ⟨w1.heap.size, 1, none⟩ = some (.int .i64 0) := by simp [go_sem]
  have bx2 : (w1.alloc (.cells #[.int .i64 0, .int .i64 0, .slice Ax nx cx, .slice Bx mx dx] 25)).cell? ⟨w1.heap.size, 2, none⟩ = some (.slice Ax nx cx) := by simp [go_sem]
  have bx3 : (w1.alloc (.cells #[.int .i64 0, .int .i64 0, .slice Ax nx cx, .slice Bx mx dx] 25)).cell? ⟨w1.heap.size, 3, none⟩ = some (.slice Bx mx dx) := by simp [go_sem]
  have bxl : w1.heap.size < (w1.alloc (.cells #[.int .i64 0, .int .i64 0, .slice Ax nx cx, .slice Bx mx dx] 25)).heap.size := by simp
  generalize w1.alloc (.cells #[.int .i64 0, .int .i64 0, .slice Ax nx cx, .slice Bx mx dx] 25) = v2 at *
  go_wp2_with fail
  refine (alive11_any _).mono ?_
  rintro e w3 ⟨rfl, b⟩
  replace hA := hA.on b
  replace hCx := hCx.on b
  replace hWx := hWx.on b
  replace bx0 := (b.cell (p := ⟨w1.heap.size, 0, none⟩) bxl).trans bx0
  replace bx1 := (b.cell (p := ⟨w1.heap.size, 1, none⟩) bxl).trans bx1
  replace bx2 := (b.cell (p := ⟨w1.heap.size, 2, none⟩) bxl).trans bx2
  replace bx3 := (b.cell (p := ⟨w1.heap.size, 3, none⟩) bxl).trans bx3
  replace bxl := Nat.lt_of_lt_of_le bxl b.size
  replace cc := cc.trans (b.mono cc.size)
  clear b
  go_wp2_with fail
  go_ret
  exact ⟨rfl, cc⟩

set_option maxRecDepth 100000 in
set_option maxHeartbeats 8000000 in
theorem BlockRight_w {w : World} {k : Int} {A : Option Addr} {n c : Nat} {L : List Int} (hA : IR w A n c L) (h20 : n ≤ 20) {S : Int} {CC : List Nat} {E M : List Int} (hM : M.length ≤ 4096) (hCE : CC.length + E.length ≤ 4096) (hk : k = 4) (CP : ∀ {W : World}, IR W A n c L → Calls Tryz.prog 16 #[.int .i64 k, .slice A n c] W (GotBp W k S CC E 0)) (R0 : ∀ {W : World} {A B : Option Addr} {n c m d : Nat}, BR W A n c CC → IR W B m d E → Calls Tryz.prog 7 #[.agg #[.int .i64 k, .int .i64 S, .slice A n c, .slice B m d]] W (GotV W (.bool true))) (R1 : ∀ {W : World} {A B : Option Addr} {n c m d : Nat}, BR W A n c CC → IR W B m d E → Calls Tryz.prog 8 #[.agg #[.int .i64 k, .int .i64 S, .slice A n c, .slice B m d]] W (GotV W (.bool true))) (D0 : ∀ {W : World} {A B : Option Addr} {n c m d : Nat}, BR W A n c CC → IR W B m d E → Calls Tryz.prog 14 #[.agg #[.int .i64 k, .int .i64 S, .slice A n c, .slice B m d]] W (GotI W M)) (L0 : ∀ {W : World} {A B : Option Addr} {n0 c m d : Nat}, BR W A n0 c CC → IR W B m d E → Calls Tryz.prog 11 #[.agg #[.int .i64 k, .int .i64 S, .slice A n0 c, .slice B m d]] W (GotV W (.int .i64 (n : Int)))) (PW : ∀ {W : World} {A : Option Addr} {n c : Nat}, IR W A n c M → Calls Tryz.prog 16 #[.int .i64 4, .slice A n c] W (GotBp W 4 0 [] M 0)) (D1 : ∀ {W : World} {A B : Option Addr} {n c m d : Nat}, BR W A n c [] → IR W B m d M → Calls Tryz.prog 14 #[.agg #[.int .i64 4, .int .i64 0, .slice A n c, .slice B m d]] W (GotI W M)) :
    Calls Tryz.prog 4 #[.int .i64 k, .slice A n c] w fun e w' => e = .returned (.bool true) ∧ Below w.heap.size w w' := by
  have t0 : decide (20 < (n : Int)) = false := decide_eq_false (by omega)
  have u0 : decide (20 < n) = false := decide_eq_false (by omega)
  subst hk
  have cc := Below.refl w.heap.size w
  go_enter Tryz.func4, Tryz.ntmps4
  go_wp2_with fail
  refine (CP hA).mono ?_
  rintro e w1 ⟨Ax, nx, cx, Bx, mx, dx, rfl, hCx, hWx, b⟩
  replace hA := hA.on b
  replace cc := cc.trans (b.mono cc.size)
  clear b
  go_wp2_with fail
  have bA := below_one w1 (.cells #[.int .i64 4, .int .i64 S, .slice Ax nx cx, .slice Bx mx dx] 25)
  replace hA := hA.on bA
  replace hCx := hCx.on bA
  replace hWx := hWx.on bA
  replace cc := cc.trans (bA.mono cc.size)
  clear bA
  have bx0 : (w1.alloc (.cells #[.int .i64 4, .int .i64 S, .slice Ax nx cx, .slice Bx mx dx] 25)).cell? ⟨w1.heap.size, 0, none⟩ = some (.int .i64 4) := by simp [go_sem]
  have bx1 : (w1.alloc (.cells #[.int .i64 4, .int .i64 S, .slice Ax nx cx, .slice Bx mx dx] 25)).cell? ⟨w1.heap.size, 1, none⟩ = some (.int .i64 S) := by simp [go_sem]
  have bx2 : (w1.alloc (.cells #[.int .i64 4, .int .i64 S, .slice Ax nx cx, .slice Bx mx dx] 25)).cell? ⟨w1.heap.size, 2, none⟩ = some (.slice Ax nx cx) := by simp [go_sem]
  have bx3 : (w1.alloc (.cells #[.int .i64 4, .int .i64 S, .slice Ax nx cx, .slice Bx mx dx] 25)).cell? ⟨w1.heap.size, 3, none⟩ = some (.slice Bx mx dx) := by simp [go_sem]
  have bxl : w1.heap.size < (w1.alloc (.cells #[.int .i64 4, .int .i64 S, .slice Ax nx cx, .slice Bx mx dx] 25)).heap.size := by simp
  generalize w1.alloc (.cells #[.int .i64 4, .int .i64 S, .slice Ax nx cx, .slice Bx mx dx] 25) = v2 at *
  go_wp2_with fail
  refine (R0 hCx hWx).mono ?_
  rintro e w3 ⟨rfl, b⟩
  replace hA := hA.on b
  replace hCx := hCx.on b
  replace hWx := hWx.on b
  replace bx0 := (b.cell (p := ⟨w1.heap.size, 0, none⟩) bxl).trans bx0
  replace bx1 := (b.cell (p := ⟨w1.heap.size, 1, none⟩) bxl).trans bx1
  replace bx2 := (b.cell (p := ⟨w1.heap.size, 2, none⟩) bxl).trans bx2
  replace bx3 := (b.cell (p := ⟨w1.heap.size, 3, none⟩) bxl).trans bx3
  replace bxl := Nat.lt_of_lt_of_le bxl b.size
  replace cc := cc.trans (b.mono cc.size)
  clear b
  go_wp2_with fail
  refine (R1 hCx hWx).mono ?_
  rintro e w4 ⟨rfl, b⟩
  replace hA := hA.on b
  replace hCx := hCx.on b
  replace hWx := hWx.on b
  replace bx0 := (b.cell (p := ⟨w1.heap.size, 0, none⟩) bxl).trans bx0
  replace bx1 := (b.cell (p := ⟨w1.heap.size, 1, none⟩) bxl).trans bx1
  replace bx2 := (b.cell (p := ⟨w1.heap.size, 2, none⟩) bxl).trans bx2
  replace bx3 := (b.cell (p := ⟨w1.heap.size, 3, none⟩) bxl).trans bx3
  replace bxl := Nat.lt_of_lt_of_le bxl b.size
  replace cc := cc.trans (b.mono cc.size)
  clear b
  go_wp2_with fail
  refine (L0 hCx hWx).mono ?_
  rintro e w5 ⟨rfl, b⟩
  replace hA := hA.on b
  replace hCx := hCx.on b
  replace hWx := hWx.on b
  replace bx0 := (b.cell (p := ⟨w1.heap.size, 0, none⟩) bxl).trans bx0
  replace bx1 := (b.cell (p := ⟨w1.heap.size, 1, none⟩) bxl).trans bx1
  replace bx2 := (b.cell (p := ⟨w1.heap.size, 2, none⟩) bxl).trans bx2
  replace bx3 := (b.cell (p := ⟨w1.heap.size, 3, none⟩) bxl).trans bx3
  replace bxl := Nat.lt_of_lt_of_le bxl b.size
  replace cc := cc.trans (b.mono cc.size)
  clear b
  go_wp2_with fail
  refine (D0 hCx hWx).mono ?_
  rintro e w6 ⟨Az, nz, cz, rfl, hz, b⟩
  replace hA := hA.on b
  replace hCx := hCx.on b
  replace hWx := hWx.on b
  replace bx0 := (b.cell (p := ⟨w1.heap.size, 0, none⟩) bxl).trans bx0
  replace bx1 := (b.cell (p := ⟨w1.heap.size, 1, none⟩) bxl).trans bx1
  replace bx2 := (b.cell (p := ⟨w1.heap.size, 2, none⟩) bxl).trans bx2
  replace bx3 := (b.cell (p := ⟨w1.heap.size, 3, none⟩) bxl).trans bx3
  replace bxl := Nat.lt_of_lt_of_le bxl b.size
  replace cc := cc.trans (b.mono cc.size)
  clear b
  go_wp2_with fail
  have bD : Below w6.heap.size w6 w6.drew := below_drewN (Below.refl _ w6) 1
  replace hA := hA.on bD
  replace hCx := hCx.on bD
  replace hWx := hWx.on bD
  replace hz := hz.on bD
  replace bx0 := (bD.cell (p := ⟨w1.heap.size, 0, none⟩) bxl).trans bx0
  replace bx1 := (bD.cell (p := ⟨w1.heap.size, 1, none⟩) bxl).trans bx1
  replace bx2 := (bD.cell (p := ⟨w1.heap.size, 2, none⟩) bxl).trans bx2
  replace bx3 := (bD.cell (p := ⟨w1.heap.size, 3, none⟩) bxl).trans bx3
  replace bxl := Nat.lt_of_lt_of_le bxl bD.size
  replace cc := cc.trans (bD.mono cc.size)
  clear bD
  refine wp_region_held_drew (S := fun w' => w'.cell? ⟨w1.heap.size, 0, none⟩ = some (.int .i64 4) ∧ w'.cell? ⟨w1.heap.size, 1, none⟩ = some (.int .i64 S) ∧ w'.cell? ⟨w1.heap.size, 2, none⟩ = some (.slice Ax nx cx) ∧ w'.cell? ⟨w1.heap.size, 3, none⟩ = some (.slice Bx mx dx)) (by kernel_rfl) ?_ (fun hHeld => ?_)
  · exact ⟨bx0, bx1, bx2, bx3⟩
  refine wpAnyH_take (i := 0) (v := ?_) rfl (by kernel_rfl) (by kernel_rfl) (by kernel_rfl) (fun _ _ _ h => h) (Or.inl ⟨by rfl, ?_⟩) hHeld ?_
  rotate_left
  · (intro w hSw; (try dsimp only at hSw); go_simp; (try with_reducible rfl))
  try simp only [Act.put, List.getElem_toArray, List.getElem_cons_zero, List.getElem_cons_succ, List.setIfInBounds_toArray, List.set_cons_zero, List.set_cons_succ]
  refine wpAnyH_take (i := 1) (v := ?_) rfl (by kernel_rfl) (by kernel_rfl) (by kernel_rfl) (fun _ _ _ h => h) (Or.inl ⟨by rfl, ?_⟩) hHeld ?_
  rotate_left
  · (intro w hSw; (try dsimp only at hSw); go_simp; (try with_reducible rfl))
  try simp only [Act.put, List.getElem_toArray, List.getElem_cons_zero, List.getElem_cons_succ, List.setIfInBounds_toArray, List.set_cons_zero, List.set_cons_succ]
  refine wpAnyH_take (i := 2) (v := ?_) rfl (by kernel_rfl) (by kernel_rfl) (by kernel_rfl) (fun _ _ _ h => h) (Or.inl ⟨by rfl, ?_⟩) hHeld ?_
  rotate_left
  · (intro w hSw; (try dsimp only at hSw); go_simp; (try with_reducible rfl))
  try simp only [Act.put, List.getElem_toArray, List.getElem_cons_zero, List.getElem_cons_succ, List.setIfInBounds_toArray, List.set_cons_zero, List.set_cons_succ]
  refine wpAnyH_take (i := 3) (v := undef) rfl (by kernel_rfl) (by kernel_rfl) (by kernel_rfl) (fun _ _ _ h => h) (Or.inr ⟨by rfl, rfl⟩) hHeld ?_
  try simp only [Act.put, List.getElem_toArray, List.getElem_cons_zero, List.getElem_cons_succ, List.setIfInBounds_toArray, List.set_cons_zero, List.set_cons_succ]
  refine wpAnyH_take (i := 4) (v := undef) rfl (by kernel_rfl) (by kernel_rfl) (by kernel_rfl) (fun _ _ _ h => h) (Or.inr ⟨by rfl, rfl⟩) hHeld ?_
  try simp only [Act.put, List.getElem_toArray, List.getElem_cons_zero, List.getElem_cons_succ, List.setIfInBounds_toArray, List.set_cons_zero, List.set_cons_succ]
  refine wpAnyH_take (i := 5) (v := undef) rfl (by kernel_rfl) (by kernel_rfl) (by kernel_rfl) (fun _ _ _ h => h) (Or.inr ⟨by rfl, rfl⟩) hHeld ?_
  try simp only [Act.put, List.getElem_toArray, List.getElem_cons_zero, List.getElem_cons_succ, List.setIfInBounds_toArray, List.set_cons_zero, List.set_cons_succ]
  refine wpAnyH_take (i := 6) (v := undef) rfl (by kernel_rfl) (by kernel_rfl) (by kernel_rfl) (fun _ _ _ h => h) (Or.inr ⟨by rfl, rfl⟩) hHeld ?_
  try simp only [Act.put, List.getElem_toArray, List.getElem_cons_zero, List.getElem_cons_succ, List.setIfInBounds_toArray, List.set_cons_zero, List.set_cons_succ]
  refine wpAnyH_take (i := 7) (v := undef) rfl (by kernel_rfl) (by kernel_rfl) (by kernel_rfl) (fun _ _ _ h => h) (Or.inr ⟨by rfl, rfl⟩) hHeld ?_
  try simp only [Act.put, List.getElem_toArray, List.getElem_cons_zero, List.getElem_cons_succ, List.setIfInBounds_toArray, List.set_cons_zero, List.set_cons_succ]
  refine wpAnyH_take (i := 8) (v := ?_) rfl (by kernel_rfl) (by kernel_rfl) (by kernel_rfl) (fun _ _ _ h => h) (Or.inl ⟨by rfl, ?_⟩) hHeld ?_
  rotate_left
  · (intro w hSw; (try dsimp only at hSw); go_simp; (try with_reducible rfl))
  try simp only [Act.put, List.getElem_toArray, List.getElem_cons_zero, List.getElem_cons_succ, List.setIfInBounds_toArray, List.set_cons_zero, List.set_cons_succ]
  refine wpAnyH_take (i := 9) (v := ?_) rfl (by kernel_rfl) (by kernel_rfl) (by kernel_rfl) (fun _ _ _ h => h) (Or.inl ⟨by rfl, ?_⟩) hHeld ?_
  rotate_left
  · (intro w hSw; (try dsimp only at hSw); go_simp; (try with_reducible rfl))
  try simp only [Act.put, List.getElem_toArray, List.getElem_cons_zero, List.getElem_cons_succ, List.setIfInBounds_toArray, List.set_cons_zero, List.set_cons_succ]
  refine wpAnyH_take (i := 10) (v := ?_) rfl (by kernel_rfl) (by kernel_rfl) (by kernel_rfl) (fun _ _ _ h => h) (Or.inl ⟨by rfl, ?_⟩) hHeld ?_
  rotate_left
  · (intro w hSw; (try dsimp only at hSw); go_simp; (try with_reducible rfl))
  try simp only [Act.put, List.getElem_toArray, List.getElem_cons_zero, List.getElem_cons_succ, List.setIfInBounds_toArray, List.set_cons_zero, List.set_cons_succ]
  refine wpAnyH_take (i := 11) (v := ?_) rfl (by kernel_rfl) (by kernel_rfl) (by kernel_rfl) (fun _ _ _ h => h) (Or.inl ⟨by rfl, ?_⟩) hHeld ?_
  rotate_left
  · (intro w hSw; (try dsimp only at hSw); go_simp; (try with_reducible rfl))
  try simp only [Act.put, List.getElem_toArray, List.getElem_cons_zero, List.getElem_cons_succ, List.setIfInBounds_toArray, List.set_cons_zero, List.set_cons_succ]
  refine wpAnyH_take (i := 12) (v := ?_) rfl (by kernel_rfl) (by kernel_rfl) (by kernel_rfl) (fun _ _ _ h => h) (Or.inl ⟨by rfl, ?_⟩) hHeld ?_
  rotate_left
  · (intro w hSw; (try dsimp only at hSw); go_simp; (try with_reducible rfl))
  try simp only [Act.put, List.getElem_toArray, List.getElem_cons_zero, List.getElem_cons_succ, List.setIfInBounds_toArray, List.set_cons_zero, List.set_cons_succ]
  refine wpAnyH_take (i := 13) (v := undef) rfl (by kernel_rfl) (by kernel_rfl) (by kernel_rfl) (fun _ _ _ h => h) (Or.inr ⟨by rfl, rfl⟩) hHeld ?_
  try simp only [Act.put, List.getElem_toArray, List.getElem_cons_zero, List.getElem_cons_succ, List.setIfInBounds_toArray, List.set_cons_zero, List.set_cons_succ]
  refine wpAnyH_take (i := 14) (v := undef) rfl (by kernel_rfl) (by kernel_rfl) (by kernel_rfl) (fun _ _ _ h => h) (Or.inr ⟨by rfl, rfl⟩) hHeld ?_
  try simp only [Act.put, List.getElem_toArray, List.getElem_cons_zero, List.getElem_cons_succ, List.setIfInBounds_toArray, List.set_cons_zero, List.set_cons_succ]
  refine wpAnyH_take (i := 15) (v := undef) rfl (by kernel_rfl) (by kernel_rfl) (by kernel_rfl) (fun _ _ _ h => h) (Or.inr ⟨by rfl, rfl⟩) hHeld ?_
  try simp only [Act.put, List.getElem_toArray, List.getElem_cons_zero, List.getElem_cons_succ, List.setIfInBounds_toArray, List.set_cons_zero, List.set_cons_succ]
  refine wpAnyH_take (i := 16) (v := ?_) rfl (by kernel_rfl) (by kernel_rfl) (by kernel_rfl) (fun _ _ _ h => h) (Or.inl ⟨by rfl, ?_⟩) hHeld ?_
  rotate_left
  · (intro w hSw; (try dsimp only at hSw); go_simp; (try with_reducible rfl))
  try simp only [Act.put, List.getElem_toArray, List.getElem_cons_zero, List.getElem_cons_succ, List.setIfInBounds_toArray, List.set_cons_zero, List.set_cons_succ]
  refine wpAnyH_take (i := 17) (v := ?_) rfl (by kernel_rfl) (by kernel_rfl) (by kernel_rfl) (fun _ _ _ h => h) (Or.inl ⟨by rfl, ?_⟩) hHeld ?_
  rotate_left
  · (intro w hSw; (try dsimp only at hSw); go_simp; (try with_reducible rfl))
  try simp only [Act.put, List.getElem_toArray, List.getElem_cons_zero, List.getElem_cons_succ, List.setIfInBounds_toArray, List.set_cons_zero, List.set_cons_succ]
  refine wpAnyH_take (i := 18) (v := undef) rfl (by kernel_rfl) (by kernel_rfl) (by kernel_rfl) (fun _ _ _ h => h) (Or.inr ⟨by rfl, rfl⟩) hHeld ?_
  try simp only [Act.put, List.getElem_toArray, List.getElem_cons_zero, List.getElem_cons_succ, List.setIfInBounds_toArray, List.set_cons_zero, List.set_cons_succ]
  refine wpAnyH_take (i := 19) (v := undef) rfl (by kernel_rfl) (by kernel_rfl) (by kernel_rfl) (fun _ _ _ h => h) (Or.inr ⟨by rfl, rfl⟩) hHeld ?_
  try simp only [Act.put, List.getElem_toArray, List.getElem_cons_zero, List.getElem_cons_succ, List.setIfInBounds_toArray, List.set_cons_zero, List.set_cons_succ]
  refine wpAnyH_take (i := 20) (v := undef) rfl (by kernel_rfl) (by kernel_rfl) (by kernel_rfl) (fun _ _ _ h => h) (Or.inr ⟨by rfl, rfl⟩) hHeld ?_
  try simp only [Act.put, List.getElem_toArray, List.getElem_cons_zero, List.getElem_cons_succ, List.setIfInBounds_toArray, List.set_cons_zero, List.set_cons_succ]
  refine wpAnyH_take (i := 21) (v := undef) rfl (by kernel_rfl) (by kernel_rfl) (by kernel_rfl) (fun _ _ _ h => h) (Or.inr ⟨by rfl, rfl⟩) hHeld ?_
  try simp only [Act.put, List.getElem_toArray, List.getElem_cons_zero, List.getElem_cons_succ, List.setIfInBounds_toArray, List.set_cons_zero, List.set_cons_succ]
  refine wpAnyH_take (i := 22) (v := undef) rfl (by kernel_rfl) (by kernel_rfl) (by kernel_rfl) (fun _ _ _ h => h) (Or.inr ⟨by rfl, rfl⟩) hHeld ?_
  try simp only [Act.put, List.getElem_toArray, List.getElem_cons_zero, List.getElem_cons_succ, List.setIfInBounds_toArray, List.set_cons_zero, List.set_cons_succ]
  refine wpAnyH_take (i := 23) (v := ?_) rfl (by kernel_rfl) (by kernel_rfl) (by kernel_rfl) (fun _ _ _ h => h) (Or.inl ⟨by rfl, ?_⟩) hHeld ?_
  rotate_left
  · (intro w hSw; (try dsimp only at hSw); go_simp; (try with_reducible rfl))
  try simp only [Act.put, List.getElem_toArray, List.getElem_cons_zero, List.getElem_cons_succ, List.setIfInBounds_toArray, List.set_cons_zero, List.set_cons_succ]
  refine wpAnyH_take (i := 24) (v := ?_) rfl (by kernel_rfl) (by kernel_rfl) (by kernel_rfl) (fun _ _ _ h => h) (Or.inl ⟨by rfl, ?_⟩) hHeld ?_
  rotate_left
  · (intro w hSw; (try dsimp only at hSw); go_simp; (try with_reducible rfl))
  try simp only [Act.put, List.getElem_toArray, List.getElem_cons_zero, List.getElem_cons_succ, List.setIfInBounds_toArray, List.set_cons_zero, List.set_cons_succ]
  refine wpAnyH_done (by kernel_rfl) ?_ _
  clear hHeld
  go_wp2_with fail
  refine (PW hz).mono ?_
  rintro e w7 ⟨Av, nv, cv, Bv, mv, dv, rfl, hCv, hWv, b⟩
  replace hA := hA.on b
  replace hCx := hCx.on b
  replace hWx := hWx.on b
  replace hz := hz.on b
  replace bx0 := (b.cell (p := ⟨w1.heap.size, 0, none⟩) bxl).trans bx0
  replace bx1 := (b.cell (p := ⟨w1.heap.size, 1, none⟩) bxl).trans bx1
  replace bx2 := (b.cell (p := ⟨w1.heap.size, 2, none⟩) bxl).trans bx2
  replace bx3 := (b.cell (p := ⟨w1.heap.size, 3, none⟩) bxl).trans bx3
  replace bxl := Nat.lt_of_lt_of_le bxl b.size
  replace cc := cc.trans (b.mono cc.size)
  clear b
  go_wp2_with fail
  have bA := below_one w7 (.cells #[.int .i64 4, .int .i64 0, .slice Av nv cv, .slice Bv mv dv] 25)
  replace hA := hA.on bA
  replace hCx := hCx.on bA
  replace hWx := hWx.on bA
  replace hz := hz.on bA
  replace hCv := hCv.on bA
  replace hWv := hWv.on bA
  replace bx0 := (bA.cell (p := ⟨w1.heap.size, 0, none⟩) bxl).trans bx0
  replace bx1 := (bA.cell (p := ⟨w1.heap.size, 1, none⟩) bxl).trans bx1
  replace bx2 := (bA.cell (p := ⟨w1.heap.size, 2, none⟩) bxl).trans bx2
  replace bx3 := (bA.cell (p := ⟨w1.heap.size, 3, none⟩) bxl).trans bx3
  replace bxl := Nat.lt_of_lt_of_le bxl bA.size
  replace cc := cc.trans (bA.mono cc.size)
  clear bA
  have bv0 : (w7.alloc (.cells #[.int .i64 4, .int .i64 0, .slice Av nv cv, .slice Bv mv dv] 25)).cell? ⟨w7.heap.size, 0, none⟩ = some (.int .i64 4) := by simp [go_sem]
  have bv1 : (w7.alloc (.cells #[.int .i64 4, .int .i64 0, .slice Av nv cv, .slice Bv mv dv] 25)).cell? ⟨w7.heap.size, 1, none⟩ = some (.int .i64 0) := by simp [go_sem]
  have bv2 : (w7.alloc (.cells #[.int .i64 4, .int .i64 0, .slice Av nv cv, .slice Bv mv dv] 25)).cell? ⟨w7.heap.size, 2, none⟩ = some (.slice Av nv cv) := by simp [go_sem]
  have bv3 : (w7.alloc (.cells #[.int .i64 4, .int .i64 0, .slice Av nv cv, .slice Bv mv dv] 25)).cell? ⟨w7.heap.size, 3, none⟩ = some (.slice Bv mv dv) := by simp [go_sem]
  have bvl : w7.heap.size < (w7.alloc (.cells #[.int .i64 4, .int .i64 0, .slice Av nv cv, .slice Bv mv dv] 25)).heap.size := by simp
  generalize w7.alloc (.cells #[.int .i64 4, .int .i64 0, .slice Av nv cv, .slice Bv mv dv] 25) = v8 at *
  go_wp2_with fail
  refine (alive11_any _).mono ?_
  rintro e w9 ⟨rfl, b⟩
  replace hA := hA.on b
  replace hCx := hCx.on b
  replace hWx := hWx.on b
  replace hz := hz.on b
  replace hCv := hCv.on b
  replace hWv := hWv.on b
  replace bx0 := (b.cell (p := ⟨w1.heap.size, 0, none⟩) bxl).trans bx0
  replace bx1 := (b.cell (p := ⟨w1.heap.size, 1, none⟩) bxl).trans bx1
  replace bx2 := (b.cell (p := ⟨w1.heap.size, 2, none⟩) bxl).trans bx2
  replace bx3 := (b.cell (p := ⟨w1.heap.size, 3, none⟩) bxl).trans bx3
  replace bxl := Nat.lt_of_lt_of_le bxl b.size
  replace bv0 := (b.cell (p := ⟨w7.heap.size, 0, none⟩) bvl).trans bv0
  replace bv1 := (b.cell (p := ⟨w7.heap.size, 1, none⟩) bvl).trans bv1
  replace bv2 := (b.cell (p := ⟨w7.heap.size, 2, none⟩) bvl).trans bv2
  replace bv3 := (b.cell (p := ⟨w7.heap.size, 3, none⟩) bvl).trans bv3
  replace bvl := Nat.lt_of_lt_of_le bvl b.size
  replace cc := cc.trans (b.mono cc.size)
  clear b
  go_wp2_with fail
  refine (D1 hCv hWv).mono ?_
  rintro e w10 ⟨Ay, ny, cy, rfl, hy, b⟩
  replace hA := hA.on b
  replace hCx := hCx.on b
  replace hWx := hWx.on b
  replace hz := hz.on b
  replace hCv := hCv.on b
  replace hWv := hWv.on b
  replace bx0 := (b.cell (p := ⟨w1.heap.size, 0, none⟩) bxl).trans bx0
  replace bx1 := (b.cell (p := ⟨w1.heap.size, 1, none⟩) bxl).trans bx1
  replace bx2 := (b.cell (p := ⟨w1.heap.size, 2, none⟩) bxl).trans bx2
  replace bx3 := (b.cell (p := ⟨w1.heap.size, 3, none⟩) bxl).trans bx3
  replace bxl := Nat.lt_of_lt_of_le bxl b.size
  replace bv0 := (b.cell (p := ⟨w7.heap.size, 0, none⟩) bvl).trans bv0
  replace bv1 := (b.cell (p := ⟨w7.heap.size, 1, none⟩) bvl).trans bv1
  replace bv2 := (b.cell (p := ⟨w7.heap.size, 2, none⟩) bvl).trans bv2
  replace bv3 := (b.cell (p := ⟨w7.heap.size, 3, none⟩) bvl).trans bv3
  replace bvl := Nat.lt_of_lt_of_le bvl b.size
  replace cc := cc.trans (b.mono cc.size)
  clear b
  go_wp2_with fail
  refine (rsame9_self hy hz (by have := hy.1; omega)).mono ?_
  rintro e w11 ⟨rfl, b⟩
  replace hA := hA.on b
  replace hCx := hCx.on b
  replace hWx := hWx.on b
  replace hz := hz.on b
  replace hCv := hCv.on b
  replace hWv := hWv.on b
  replace hy := hy.on b
  replace bx0 := (b.cell (p := ⟨w1.heap.size, 0, none⟩) bxl).trans bx0
  replace bx1 := (b.cell (p := ⟨w1.heap.size, 1, none⟩) bxl).trans bx1
  replace bx2 := (b.cell (p := ⟨w1.heap.size, 2, none⟩) bxl).trans bx2
  replace bx3 := (b.cell (p := ⟨w1.heap.size, 3, none⟩) bxl).trans bx3
  replace bxl := Nat.lt_of_lt_of_le bxl b.size
  replace bv0 := (b.cell (p := ⟨w7.heap.size, 0, none⟩) bvl).trans bv0
  replace bv1 := (b.cell (p := ⟨w7.heap.size, 1, none⟩) bvl).trans bv1
  replace bv2 := (b.cell (p := ⟨w7.heap.size, 2, none⟩) bvl).trans bv2
  replace bv3 := (b.cell (p := ⟨w7.heap.size, 3, none⟩) bvl).trans bv3
  replace bvl := Nat.lt_of_lt_of_le bvl b.size
  replace cc := cc.trans (b.mono cc.size)
  clear b
  go_wp2_with fail
  refine (bkSame_same hCx hWx (by have := hCx.1; omega) (by have := hWx.1; omega) hCx hWx (by have := hCx.1; omega) (by have := hWx.1; omega) rfl rfl).mono ?_
  rintro e w12 ⟨rfl, b⟩
  replace hA := hA.on b
  replace hCx := hCx.on b
  replace hWx := hWx.on b
  replace hz := hz.on b
  replace hCv := hCv.on b
  replace hWv := hWv.on b
  replace hy := hy.on b
  replace bx0 := (b.cell (p := ⟨w1.heap.size, 0, none⟩) bxl).trans bx0
  replace bx1 := (b.cell (p := ⟨w1.heap.size, 1, none⟩) bxl).trans bx1
  replace bx2 := (b.cell (p := ⟨w1.heap.size, 2, none⟩) bxl).trans bx2
  replace bx3 := (b.cell (p := ⟨w1.heap.size, 3, none⟩) bxl).trans bx3
  replace bxl := Nat.lt_of_lt_of_le bxl b.size
  replace bv0 := (b.cell (p := ⟨w7.heap.size, 0, none⟩) bvl).trans bv0
  replace bv1 := (b.cell (p := ⟨w7.heap.size, 1, none⟩) bvl).trans bv1
  replace bv2 := (b.cell (p := ⟨w7.heap.size, 2, none⟩) bvl).trans bv2
  replace bv3 := (b.cell (p := ⟨w7.heap.size, 3, none⟩) bvl).trans bv3
  replace bvl := Nat.lt_of_lt_of_le bvl b.size
  replace cc := cc.trans (b.mono cc.size)
  clear b
  go_wp2_with fail
  go_ret
  exact ⟨rfl, cc⟩

set_option maxRecDepth 100000 in
set_option maxHeartbeats 8000000 in
theorem BlockRight_s {w : World} {k : Int} {A : Option Addr} {n c : Nat} {L : List Int} (hA : IR w A n c L) (h20 : n ≤ 20) {S G : Int} {CC : List Nat} {E M : List Int} (hM : M.length ≤ 4096) (hCE : CC.length + E.length ≤ 4096) (hk : k ≠ 4) (hG : G ≤ S) (CP : ∀ {W : World}, IR W A n c L → Calls Tryz.prog 16 #[.int .i64 k, .slice A n c] W (GotBp W k S CC E 0)) (R0 : ∀ {W : World} {A B : Option Addr} {n c m d : Nat}, BR W A n c CC → IR W B m d E → Calls Tryz.prog 7 #[.agg #[.int .i64 k, .int .i64 S, .slice A n c, .slice B m d]] W (GotV W (.bool true))) (R1 : ∀ {W : World} {A B : Option Addr} {n c m d : Nat}, BR W A n c CC → IR W B m d E → Calls Tryz.prog 8 #[.agg #[.int .i64 k, .int .i64 S, .slice A n c, .slice B m d]] W (GotV W (.bool true))) (D0 : ∀ {W : World} {A B : Option Addr} {n c m d : Nat}, BR W A n c CC → IR W B m d E → Calls Tryz.prog 14 #[.agg #[.int .i64 k, .int .i64 S, .slice A n c, .slice B m d]] W (GotI W M)) (L0 : ∀ {W : World} {A B : Option Addr} {n0 c m d : Nat}, BR W A n0 c CC → IR W B m d E → Calls Tryz.prog 11 #[.agg #[.int .i64 k, .int .i64 S, .slice A n0 c, .slice B m d]] W (GotV W (.int .i64 (n : Int)))) (CG : ∀ {W : World} {A : Option Addr} {n c : Nat}, IR W A n c M → Calls Tryz.prog 17 #[.slice A n c] W (GotV W (.int .i64 G))) (CS : ∀ W : World, Calls Tryz.prog 18 #[.int .i64 k] W (GotV W (.bool true))) (PW : ∀ {W : World} {A : Option Addr} {n c : Nat}, IR W A n c M → Calls Tryz.prog 16 #[.int .i64 4, .slice A n c] W (GotBp W 4 0 [] M 0)) (D1 : ∀ {W : World} {A B : Option Addr} {n c m d : Nat}, BR W A n c [] → IR W B m d M → Calls Tryz.prog 14 #[.agg #[.int .i64 4, .int .i64 0, .slice A n c, .slice B m d]] W (GotI W M)) :
    Calls Tryz.prog 4 #[.int .i64 k, .slice A n c] w fun e w' => e = .returned (.bool true) ∧ Below w.heap.size w w' := by
  have t0 : decide (20 < (n : Int)) = false := decide_eq_false (by omega)
  have u0 : decide (20 < n) = false := decide_eq_false (by omega)
  have k4 : (k == 4) = false := beq_eq_false_iff_ne.2 hk
  have k5 : (k != 4) = true := by simp; exact hk
  have t1 : decide (S < G) = false := decide_eq_false (by omega)
  clear hk
  clear hG
  have cc := Below.refl w.heap.size w
  go_enter Tryz.func4, Tryz.ntmps4
  go_wp2_with fail
  refine (CP hA).mono ?_
  rintro e w1 ⟨Ax, nx, cx, Bx, mx, dx, rfl, hCx, hWx, b⟩
  replace hA := hA.on b
  replace cc := cc.trans (b.mono cc.size)
  clear b
  go_wp2_with fail
  have bA := below_one w1 (.cells #[.int .i64 k, .int .i64 S, .slice Ax nx cx, .slice Bx mx dx] 25)
  replace hA := hA.on bA
  replace hCx := hCx.on bA
  replace hWx := hWx.on bA
  replace cc := cc.trans (bA.mono cc.size)
  clear bA
  have bx0 : (w1.alloc (.cells #[.int .i64 k, .int .i64 S, .slice Ax nx cx, .slice Bx mx dx] 25)).cell? ⟨w1.heap.size, 0, none⟩ = some (.int .i64 k) := by simp [go_sem]
  have bx1 : (w1.alloc (.cells #[.int .i64 k, .int .i64 S, .slice Ax nx cx, .slice Bx mx dx] 25)).cell? ⟨w1.heap.size, 1, none⟩ = some (.int .i64 S) := by simp [go_sem]
  have bx2 : (w1.alloc (.cells #[.int .i64 k, .int .i64 S, .slice Ax nx cx, .slice Bx mx dx] 25)).cell? ⟨w1.heap.size, 2, none⟩ = some (.slice Ax nx cx) := by simp [go_sem]
  have bx3 : (w1.alloc (.cells #[.int .i64 k, .int .i64 S, .slice Ax nx cx, .slice Bx mx dx] 25)).cell? ⟨w1.heap.size, 3, none⟩ = some (.slice Bx mx dx) := by simp [go_sem]
  have bxl : w1.heap.size < (w1.alloc (.cells #[.int .i64 k, .int .i64 S, .slice Ax nx cx, .slice Bx mx dx] 25)).heap.size := by simp
  generalize w1.alloc (.cells #[.int .i64 k, .int .i64 S, .slice Ax nx cx, .slice Bx mx dx] 25) = v2 at *
  go_wp2_with fail
  refine (R0 hCx hWx).mono ?_
  rintro e w3 ⟨rfl, b⟩
  replace hA := hA.on b
  replace hCx := hCx.on b
  replace hWx := hWx.on b
  replace bx0 := (b.cell (p := ⟨w1.heap.size, 0, none⟩) bxl).trans bx0
  replace bx1 := (b.cell (p := ⟨w1.heap.size, 1, none⟩) bxl).trans bx1
  replace bx2 := (b.cell (p := ⟨w1.heap.size, 2, none⟩) bxl).trans bx2
  replace bx3 := (b.cell (p := ⟨w1.heap.size, 3, none⟩) bxl).trans bx3
  replace bxl := Nat.lt_of_lt_of_le bxl b.size
  replace cc := cc.trans (b.mono cc.size)
  clear b
  go_wp2_with fail
  refine (R1 hCx hWx).mono ?_
  rintro e w4 ⟨rfl, b⟩
  replace hA := hA.on b
  replace hCx := hCx.on b
  replace hWx := hWx.on b
  replace bx0 := (b.cell (p := ⟨w1.heap.size, 0, none⟩) bxl).trans bx0
  replace bx1 := (b.cell (p := ⟨w1.heap.size, 1, none⟩) bxl).trans bx1
  replace bx2 := (b.cell (p := ⟨w1.heap.size, 2, none⟩) bxl).trans bx2
  replace bx3 := (b.cell (p := ⟨w1.heap.size, 3, none⟩) bxl).trans bx3
  replace bxl := Nat.lt_of_lt_of_le bxl b.size
  replace cc := cc.trans (b.mono cc.size)
  clear b
  go_wp2_with fail
  refine (L0 hCx hWx).mono ?_
  rintro e w5 ⟨rfl, b⟩
  replace hA := hA.on b
  replace hCx := hCx.on b
  replace hWx := hWx.on b
  replace bx0 := (b.cell (p := ⟨w1.heap.size, 0, none⟩) bxl).trans bx0
  replace bx1 := (b.cell (p := ⟨w1.heap.size, 1, none⟩) bxl).trans bx1
  replace bx2 := (b.cell (p := ⟨w1.heap.size, 2, none⟩) bxl).trans bx2
  replace bx3 := (b.cell (p := ⟨w1.heap.size, 3, none⟩) bxl).trans bx3
  replace bxl := Nat.lt_of_lt_of_le bxl b.size
  replace cc := cc.trans (b.mono cc.size)
  clear b
  go_wp2_with fail
  refine (D0 hCx hWx).mono ?_
  rintro e w6 ⟨Az, nz, cz, rfl, hz, b⟩
  replace hA := hA.on b
  replace hCx := hCx.on b
  replace hWx := hWx.on b
  replace bx0 := (b.cell (p := ⟨w1.heap.size, 0, none⟩) bxl).trans bx0
  replace bx1 := (b.cell (p := ⟨w1.heap.size, 1, none⟩) bxl).trans bx1
  replace bx2 := (b.cell (p := ⟨w1.heap.size, 2, none⟩) bxl).trans bx2
  replace bx3 := (b.cell (p := ⟨w1.heap.size, 3, none⟩) bxl).trans bx3
  replace bxl := Nat.lt_of_lt_of_le bxl b.size
  replace cc := cc.trans (b.mono cc.size)
  clear b
  go_wp2_with fail
  have bD : Below w6.heap.size w6 w6.drew := below_drewN (Below.refl _ w6) 1
  replace hA := hA.on bD
  replace hCx := hCx.on bD
  replace hWx := hWx.on bD
  replace hz := hz.on bD
  replace bx0 := (bD.cell (p := ⟨w1.heap.size, 0, none⟩) bxl).trans bx0
  replace bx1 := (bD.cell (p := ⟨w1.heap.size, 1, none⟩) bxl).trans bx1
  replace bx2 := (bD.cell (p := ⟨w1.heap.size, 2, none⟩) bxl).trans bx2
  replace bx3 := (bD.cell (p := ⟨w1.heap.size, 3, none⟩) bxl).trans bx3
  replace bxl := Nat.lt_of_lt_of_le bxl bD.size
  replace cc := cc.trans (bD.mono cc.size)
  clear bD
  refine wp_region_held_drew (S := fun w' => w'.cell? ⟨w1.heap.size, 0, none⟩ = some (.int .i64 k) ∧ w'.cell? ⟨w1.heap.size, 1, none⟩ = some (.int .i64 S) ∧ w'.cell? ⟨w1.heap.size, 2, none⟩ = some (.slice Ax nx cx) ∧ w'.cell? ⟨w1.heap.size, 3, none⟩ = some (.slice Bx mx dx)) (by kernel_rfl) ?_ (fun hHeld => ?_)
  · exact ⟨bx0, bx1, bx2, bx3⟩
  refine wpAnyH_take (i := 0) (v := ?_) rfl (by kernel_rfl) (by kernel_rfl) (by kernel_rfl) (fun _ _ _ h => h) (Or.inl ⟨by rfl, ?_⟩) hHeld ?_
  rotate_left
  · (intro w hSw; (try dsimp only at hSw); go_simp; (try with_reducible rfl))
  try simp only [Act.put, List.getElem_toArray, List.getElem_cons_zero, List.getElem_cons_succ, List.setIfInBounds_toArray, List.set_cons_zero, List.set_cons_succ]
  refine wpAnyH_take (i := 1) (v := ?_) rfl (by kernel_rfl) (by kernel_rfl) (by kernel_rfl) (fun _ _ _ h => h) (Or.inl ⟨by rfl, ?_⟩) hHeld ?_
  rotate_left
  · (intro w hSw; (try dsimp only at hSw); go_simp; (try with_reducible rfl))
  try simp only [Act.put, List.getElem_toArray, List.getElem_cons_zero, List.getElem_cons_succ, List.setIfInBounds_toArray, List.set_cons_zero, List.set_cons_succ]
  refine wpAnyH_take (i := 2) (v := ?_) rfl (by kernel_rfl) (by kernel_rfl) (by kernel_rfl) (fun _ _ _ h => h) (Or.inl ⟨by rfl, ?_⟩) hHeld ?_
  rotate_left
  · (intro w hSw; (try dsimp only at hSw); go_simp; (try with_reducible rfl))
  try simp only [Act.put, List.getElem_toArray, List.getElem_cons_zero, List.getElem_cons_succ, List.setIfInBounds_toArray, List.set_cons_zero, List.set_cons_succ]
  refine wpAnyH_take (i := 3) (v := ?_) rfl (by kernel_rfl) (by kernel_rfl) (by kernel_rfl) (fun _ _ _ h => h) (Or.inl ⟨by rfl, ?_⟩) hHeld ?_
  rotate_left
  · (intro w hSw; (try dsimp only at hSw); go_simp; (try with_reducible rfl))
  try simp only [Act.put, List.getElem_toArray, List.getElem_cons_zero, List.getElem_cons_succ, List.setIfInBounds_toArray, List.set_cons_zero, List.set_cons_succ]
  refine wpAnyH_take (i := 5) (v := ?_) rfl (by kernel_rfl) (by kernel_rfl) (by kernel_rfl) (fun _ _ _ h => h) (Or.inl ⟨by rfl, ?_⟩) hHeld ?_
  rotate_left
  · (intro w hSw; (try dsimp only at hSw); go_simp; (try with_reducible rfl))
  try simp only [Act.put, List.getElem_toArray, List.getElem_cons_zero, List.getElem_cons_succ, List.setIfInBounds_toArray, List.set_cons_zero, List.set_cons_succ]
  refine wpAnyH_take (i := 6) (v := ?_) rfl (by kernel_rfl) (by kernel_rfl) (by kernel_rfl) (fun _ _ _ h => h) (Or.inl ⟨by rfl, ?_⟩) hHeld ?_
  rotate_left
  · (intro w hSw; (try dsimp only at hSw); go_simp; (try with_reducible rfl))
  try simp only [Act.put, List.getElem_toArray, List.getElem_cons_zero, List.getElem_cons_succ, List.setIfInBounds_toArray, List.set_cons_zero, List.set_cons_succ]
  refine wpAnyH_ready (rs := [4]) (by kernel_rfl) (by simp) ?_
  refine AllReadyH.cons rfl (fun K hK => ?_) AllReadyH.nil
  (try simp only [List.getElem_toArray, List.getElem_cons_zero, List.getElem_cons_succ])
  rw [if_pos (by rfl)]
  go_simp
  go_at_call 17
  refine (CG hz).mono ?_
  rintro e w7 ⟨rfl, b⟩
  replace hA := hA.on b
  replace hCx := hCx.on b
  replace hWx := hWx.on b
  replace hz := hz.on b
  replace bx0 := (b.cell (p := ⟨w1.heap.size, 0, none⟩) bxl).trans bx0
  replace bx1 := (b.cell (p := ⟨w1.heap.size, 1, none⟩) bxl).trans bx1
  replace bx2 := (b.cell (p := ⟨w1.heap.size, 2, none⟩) bxl).trans bx2
  replace bx3 := (b.cell (p := ⟨w1.heap.size, 3, none⟩) bxl).trans bx3
  replace bxl := Nat.lt_of_lt_of_le bxl b.size
  replace cc := cc.trans (b.mono cc.size)
  clear b
  refine hK.out _ _ ?_ (fun hHeld => ?_)
  · exact ⟨bx0, bx1, bx2, bx3⟩
  clear hK K
  try simp only [Act.put, List.getElem_toArray, List.getElem_cons_zero, List.getElem_cons_succ, List.setIfInBounds_toArray, List.set_cons_zero, List.set_cons_succ]
  refine wpAnyH_take (i := 7) (v := ?_) rfl (by kernel_rfl) (by kernel_rfl) (by kernel_rfl) (fun _ _ _ h => h) (Or.inl ⟨by rfl, ?_⟩) hHeld ?_
  rotate_left
  · (intro w hSw; (try dsimp only at hSw); go_simp; (try with_reducible rfl))
  try simp only [Act.put, List.getElem_toArray, List.getElem_cons_zero, List.getElem_cons_succ, List.setIfInBounds_toArray, List.set_cons_zero, List.set_cons_succ]
  refine wpAnyH_take (i := 8) (v := ?_) rfl (by kernel_rfl) (by kernel_rfl) (by kernel_rfl) (fun _ _ _ h => h) (Or.inl ⟨by rfl, ?_⟩) hHeld ?_
  rotate_left
  · (intro w hSw; (try dsimp only at hSw); go_simp; (try with_reducible rfl))
  try simp only [Act.put, List.getElem_toArray, List.getElem_cons_zero, List.getElem_cons_succ, List.setIfInBounds_toArray, List.set_cons_zero, List.set_cons_succ]
  refine wpAnyH_take (i := 9) (v := ?_) rfl (by kernel_rfl) (by kernel_rfl) (by kernel_rfl) (fun _ _ _ h => h) (Or.inl ⟨by rfl, ?_⟩) hHeld ?_
  rotate_left
  · (intro w hSw; (try dsimp only at hSw); go_simp; (try with_reducible rfl))
  try simp only [Act.put, List.getElem_toArray, List.getElem_cons_zero, List.getElem_cons_succ, List.setIfInBounds_toArray, List.set_cons_zero, List.set_cons_succ]
  refine wpAnyH_take (i := 10) (v := ?_) rfl (by kernel_rfl) (by kernel_rfl) (by kernel_rfl) (fun _ _ _ h => h) (Or.inl ⟨by rfl, ?_⟩) hHeld ?_
  rotate_left
  · (intro w hSw; (try dsimp only at hSw); go_simp; (try with_reducible rfl))
  try simp only [Act.put, List.getElem_toArray, List.getElem_cons_zero, List.getElem_cons_succ, List.setIfInBounds_toArray, List.set_cons_zero, List.set_cons_succ]
  refine wpAnyH_take (i := 11) (v := ?_) rfl (by kernel_rfl) (by kernel_rfl) (by kernel_rfl) (fun _ _ _ h => h) (Or.inl ⟨by rfl, ?_⟩) hHeld ?_
  rotate_left
  · (intro w hSw; (try dsimp only at hSw); go_simp; (try with_reducible rfl))
  try simp only [Act.put, List.getElem_toArray, List.getElem_cons_zero, List.getElem_cons_succ, List.setIfInBounds_toArray, List.set_cons_zero, List.set_cons_succ]
  refine wpAnyH_take (i := 12) (v := ?_) rfl (by kernel_rfl) (by kernel_rfl) (by kernel_rfl) (fun _ _ _ h => h) (Or.inl ⟨by rfl, ?_⟩) hHeld ?_
  rotate_left
  · (intro w hSw; (try dsimp only at hSw); go_simp; (try with_reducible rfl))
  try simp only [Act.put, List.getElem_toArray, List.getElem_cons_zero, List.getElem_cons_succ, List.setIfInBounds_toArray, List.set_cons_zero, List.set_cons_succ]
  refine wpAnyH_take (i := 13) (v := ?_) rfl (by kernel_rfl) (by kernel_rfl) (by kernel_rfl) (fun _ _ _ h => h) (Or.inl ⟨by rfl, ?_⟩) hHeld ?_
  rotate_left
  · (intro w hSw; (try dsimp only at hSw); go_simp; (try with_reducible rfl))
  try simp only [Act.put, List.getElem_toArray, List.getElem_cons_zero, List.getElem_cons_succ, List.setIfInBounds_toArray, List.set_cons_zero, List.set_cons_succ]
  refine wpAnyH_ready (rs := [14]) (by kernel_rfl) (by simp) ?_
  refine AllReadyH.cons rfl (fun K hK => ?_) AllReadyH.nil
  (try simp only [List.getElem_toArray, List.getElem_cons_zero, List.getElem_cons_succ])
  rw [if_pos (by rfl)]
  go_simp
  go_at_call 18
  refine (CS _).mono ?_
  rintro e w8 ⟨rfl, b⟩
  replace hA := hA.on b
  replace hCx := hCx.on b
  replace hWx := hWx.on b
  replace hz := hz.on b
  replace bx0 := (b.cell (p := ⟨w1.heap.size, 0, none⟩) bxl).trans bx0
  replace bx1 := (b.cell (p := ⟨w1.heap.size, 1, none⟩) bxl).trans bx1
  replace bx2 := (b.cell (p := ⟨w1.heap.size, 2, none⟩) bxl).trans bx2
  replace bx3 := (b.cell (p := ⟨w1.heap.size, 3, none⟩) bxl).trans bx3
  replace bxl := Nat.lt_of_lt_of_le bxl b.size
  replace cc := cc.trans (b.mono cc.size)
  clear b
  refine hK.out _ _ ?_ (fun hHeld => ?_)
  · exact ⟨bx0, bx1, bx2, bx3⟩
  clear hK K
  try simp only [Act.put, List.getElem_toArray, List.getElem_cons_zero, List.getElem_cons_succ, List.setIfInBounds_toArray, List.set_cons_zero, List.set_cons_succ]
  refine wpAnyH_take (i := 15) (v := ?_) rfl (by kernel_rfl) (by kernel_rfl) (by kernel_rfl) (fun _ _ _ h => h) (Or.inl ⟨by rfl, ?_⟩) hHeld ?_
  rotate_left
  · (intro w hSw; (try dsimp only at hSw); go_simp; (try with_reducible rfl))
  try simp only [Act.put, List.getElem_toArray, List.getElem_cons_zero, List.getElem_cons_succ, List.setIfInBounds_toArray, List.set_cons_zero, List.set_cons_succ]
  refine wpAnyH_take (i := 16) (v := ?_) rfl (by kernel_rfl) (by kernel_rfl) (by kernel_rfl) (fun _ _ _ h => h) (Or.inl ⟨by rfl, ?_⟩) hHeld ?_
  rotate_left
  · (intro w hSw; (try dsimp only at hSw); go_simp; (try with_reducible rfl))
  try simp only [Act.put, List.getElem_toArray, List.getElem_cons_zero, List.getElem_cons_succ, List.setIfInBounds_toArray, List.set_cons_zero, List.set_cons_succ]
  refine wpAnyH_take (i := 17) (v := ?_) rfl (by kernel_rfl) (by kernel_rfl) (by kernel_rfl) (fun _ _ _ h => h) (Or.inl ⟨by rfl, ?_⟩) hHeld ?_
  rotate_left
  · (intro w hSw; (try dsimp only at hSw); go_simp; (try with_reducible rfl))
  try simp only [Act.put, List.getElem_toArray, List.getElem_cons_zero, List.getElem_cons_succ, List.setIfInBounds_toArray, List.set_cons_zero, List.set_cons_succ]
  refine wpAnyH_take (i := 18) (v := undef) rfl (by kernel_rfl) (by kernel_rfl) (by kernel_rfl) (fun _ _ _ h => h) (Or.inr ⟨by rfl, rfl⟩) hHeld ?_
  try simp only [Act.put, List.getElem_toArray, List.getElem_cons_zero, List.getElem_cons_succ, List.setIfInBounds_toArray, List.set_cons_zero, List.set_cons_succ]
  refine wpAnyH_take (i := 19) (v := undef) rfl (by kernel_rfl) (by kernel_rfl) (by kernel_rfl) (fun _ _ _ h => h) (Or.inr ⟨by rfl, rfl⟩) hHeld ?_
  try simp only [Act.put, List.getElem_toArray, List.getElem_cons_zero, List.getElem_cons_succ, List.setIfInBounds_toArray, List.set_cons_zero, List.set_cons_succ]
  refine wpAnyH_take (i := 20) (v := undef) rfl (by kernel_rfl) (by kernel_rfl) (by kernel_rfl) (fun _ _ _ h => h) (Or.inr ⟨by rfl, rfl⟩) hHeld ?_
  try simp only [Act.put, List.getElem_toArray, List.getElem_cons_zero, List.getElem_cons_succ, List.setIfInBounds_toArray, List.set_cons_zero, List.set_cons_succ]
  refine wpAnyH_take (i := 21) (v := undef) rfl (by kernel_rfl) (by kernel_rfl) (by kernel_rfl) (fun _ _ _ h => h) (Or.inr ⟨by rfl, rfl⟩) hHeld ?_
  try simp only [Act.put, List.getElem_toArray, List.getElem_cons_zero, List.getElem_cons_succ, List.setIfInBounds_toArray, List.set_cons_zero, List.set_cons_succ]
  refine wpAnyH_take (i := 22) (v := undef) rfl (by kernel_rfl) (by kernel_rfl) (by kernel_rfl) (fun _ _ _ h => h) (Or.inr ⟨by rfl, rfl⟩) hHeld ?_
  try simp only [Act.put, List.getElem_toArray, List.getElem_cons_zero, List.getElem_cons_succ, List.setIfInBounds_toArray, List.set_cons_zero, List.set_cons_succ]
  refine wpAnyH_take (i := 23) (v := ?_) rfl (by kernel_rfl) (by kernel_rfl) (by kernel_rfl) (fun _ _ _ h => h) (Or.inl ⟨by rfl, ?_⟩) hHeld ?_
  rotate_left
  · (intro w hSw; (try dsimp only at hSw); go_simp; (try with_reducible rfl))
  try simp only [Act.put, List.getElem_toArray, List.getElem_cons_zero, List.getElem_cons_succ, List.setIfInBounds_toArray, List.set_cons_zero, List.set_cons_succ]
  refine wpAnyH_take (i := 24) (v := ?_) rfl (by kernel_rfl) (by kernel_rfl) (by kernel_rfl) (fun _ _ _ h => h) (Or.inl ⟨by rfl, ?_⟩) hHeld ?_
  rotate_left
  · (intro w hSw; (try dsimp only at hSw); go_simp; (try with_reducible rfl))
  try simp only [Act.put, List.getElem_toArray, List.getElem_cons_zero, List.getElem_cons_succ, List.setIfInBounds_toArray, List.set_cons_zero, List.set_cons_succ]
  refine wpAnyH_done (by kernel_rfl) ?_ _
  clear hHeld
  go_wp2_with fail
  refine (PW hz).mono ?_
  rintro e w9 ⟨Av, nv, cv, Bv, mv, dv, rfl, hCv, hWv, b⟩
  replace hA := hA.on b
  replace hCx := hCx.on b
  replace hWx := hWx.on b
  replace hz := hz.on b
  replace bx0 := (b.cell (p := ⟨w1.heap.size, 0, none⟩) bxl).trans bx0
  replace bx1 := (b.cell (p := ⟨w1.heap.size, 1, none⟩) bxl).trans bx1
  replace bx2 := (b.cell (p := ⟨w1.heap.size, 2, none⟩) bxl).trans bx2
  replace bx3 := (b.cell (p := ⟨w1.heap.size, 3, none⟩) bxl).trans bx3
  replace bxl := Nat.lt_of_lt_of_le bxl b.size
  replace cc := cc.trans (b.mono cc.size)
  clear b
  go_wp2_with fail
  have bA := below_one w9 (.cells #[.int .i64 4, .int .i64 0, .slice Av nv cv, .slice Bv mv dv] 25)
  replace hA := hA.on bA
  replace hCx := hCx.on bA
  replace hWx := hWx.on bA
  replace hz := hz.on bA
  replace hCv := hCv.on bA
  replace hWv := hWv.on bA
  replace bx0 := (bA.cell (p := ⟨w1.heap.size, 0, none⟩) bxl).trans bx0
  replace bx1 := (bA.cell (p := ⟨w1.heap.size, 1, none⟩) bxl).trans bx1
  replace bx2 := (bA.cell (p := ⟨w1.heap.size, 2, none⟩) bxl).trans bx2
  replace bx3 := (bA.cell (p := ⟨w1.heap.size, 3, none⟩) bxl).trans bx3
  replace bxl := Nat.lt_of_lt_of_le bxl bA.size
  replace cc := cc.trans (bA.mono cc.size)
  clear bA
  have bv0 : (w9.alloc (.cells #[.int .i64 4, .int .i64 0, .slice Av nv cv, .slice Bv mv dv] 25)).cell? ⟨w9.heap.size, 0, none⟩ = some (.int .i64 4) := by simp [go_sem]
  have bv1 : (w9.alloc (.cells #[.int .i64 4, .int .i64 0, .slice Av nv cv, .slice Bv mv dv] 25)).cell? ⟨w9.heap.size, 1, none⟩ = some (.int .i64 0) := by simp [go_sem]
  have bv2 : (w9.alloc (.cells #[.int .i64 4, .int .i64 0, .slice Av nv cv, .slice Bv mv dv] 25)).cell? ⟨w9.heap.size, 2, none⟩ = some (.slice Av nv cv) := by simp [go_sem]
  have bv3 : (w9.alloc (.cells #[.int .i64 4, .int .i64 0, .slice Av nv cv, .slice Bv mv dv] 25)).cell? ⟨w9.heap.size, 3, none⟩ = some (.slice Bv mv dv) := by simp [go_sem]
  have bvl : w9.heap.size < (w9.alloc (.cells #[.int .i64 4, .int .i64 0, .slice Av nv cv, .slice Bv mv dv] 25)).heap.size := by simp
  generalize w9.alloc (.cells #[.int .i64 4, .int .i64 0, .slice Av nv cv, .slice Bv mv dv] 25) = v10 at *
  go_wp2_with fail
  refine (alive11_any _).mono ?_
  rintro e w11 ⟨rfl, b⟩
  replace hA := hA.on b
  replace hCx := hCx.on b
  replace hWx := hWx.on b
  replace hz := hz.on b
  replace hCv := hCv.on b
  replace hWv := hWv.on b
  replace bx0 := (b.cell (p := ⟨w1.heap.size, 0, none⟩) bxl).trans bx0
  replace bx1 := (b.cell (p := ⟨w1.heap.size, 1, none⟩) bxl).trans bx1
  replace bx2 := (b.cell (p := ⟨w1.heap.size, 2, none⟩) bxl).trans bx2
  replace bx3 := (b.cell (p := ⟨w1.heap.size, 3, none⟩) bxl).trans bx3
  replace bxl := Nat.lt_of_lt_of_le bxl b.size
  replace bv0 := (b.cell (p := ⟨w9.heap.size, 0, none⟩) bvl).trans bv0
  replace bv1 := (b.cell (p := ⟨w9.heap.size, 1, none⟩) bvl).trans bv1
  replace bv2 := (b.cell (p := ⟨w9.heap.size, 2, none⟩) bvl).trans bv2
  replace bv3 := (b.cell (p := ⟨w9.heap.size, 3, none⟩) bvl).trans bv3
  replace bvl := Nat.lt_of_lt_of_le bvl b.size
  replace cc := cc.trans (b.mono cc.size)
  clear b
  go_wp2_with fail
  refine (D1 hCv hWv).mono ?_
  rintro e w12 ⟨Ay, ny, cy, rfl, hy, b⟩
  replace hA := hA.on b
  replace hCx := hCx.on b
  replace hWx := hWx.on b
  replace hz := hz.on b
  replace hCv := hCv.on b
  replace hWv := hWv.on b
  replace bx0 := (b.cell (p := ⟨w1.heap.size, 0, none⟩) bxl).trans bx0
  replace bx1 := (b.cell (p := ⟨w1.heap.size, 1, none⟩) bxl).trans bx1
  replace bx2 := (b.cell (p := ⟨w1.heap.size, 2, none⟩) bxl).trans bx2
  replace bx3 := (b.cell (p := ⟨w1.heap.size, 3, none⟩) bxl).trans bx3
  replace bxl := Nat.lt_of_lt_of_le bxl b.size
  replace bv0 := (b.cell (p := ⟨w9.heap.size, 0, none⟩) bvl).trans bv0
  replace bv1 := (b.cell (p := ⟨w9.heap.size, 1, none⟩) bvl).trans bv1
  replace bv2 := (b.cell (p := ⟨w9.heap.size, 2, none⟩) bvl).trans bv2
  replace bv3 := (b.cell (p := ⟨w9.heap.size, 3, none⟩) bvl).trans bv3
  replace bvl := Nat.lt_of_lt_of_le bvl b.size
  replace cc := cc.trans (b.mono cc.size)
  clear b
  go_wp2_with fail
  refine (rsame9_self hy hz (by have := hy.1; omega)).mono ?_
  rintro e w13 ⟨rfl, b⟩
  replace hA := hA.on b
  replace hCx := hCx.on b
  replace hWx := hWx.on b
  replace hz := hz.on b
  replace hCv := hCv.on b
  replace hWv := hWv.on b
  replace hy := hy.on b
  replace bx0 := (b.cell (p := ⟨w1.heap.size, 0, none⟩) bxl).trans bx0
  replace bx1 := (b.cell (p := ⟨w1.heap.size, 1, none⟩) bxl).trans bx1
  replace bx2 := (b.cell (p := ⟨w1.heap.size, 2, none⟩) bxl).trans bx2
  replace bx3 := (b.cell (p := ⟨w1.heap.size, 3, none⟩) bxl).trans bx3
  replace bxl := Nat.lt_of_lt_of_le bxl b.size
  replace bv0 := (b.cell (p := ⟨w9.heap.size, 0, none⟩) bvl).trans bv0
  replace bv1 := (b.cell (p := ⟨w9.heap.size, 1, none⟩) bvl).trans bv1
  replace bv2 := (b.cell (p := ⟨w9.heap.size, 2, none⟩) bvl).trans bv2
  replace bv3 := (b.cell (p := ⟨w9.heap.size, 3, none⟩) bvl).trans bv3
  replace bvl := Nat.lt_of_lt_of_le bvl b.size
  replace cc := cc.trans (b.mono cc.size)
  clear b
  go_wp2_with fail
  refine (bkSame_same hCx hWx (by have := hCx.1; omega) (by have := hWx.1; omega) hCx hWx (by have := hCx.1; omega) (by have := hWx.1; omega) rfl rfl).mono ?_
  rintro e w14 ⟨rfl, b⟩
  replace hA := hA.on b
  replace hCx := hCx.on b
  replace hWx := hWx.on b
  replace hz := hz.on b
  replace hCv := hCv.on b
  replace hWv := hWv.on b
  replace hy := hy.on b
  replace bx0 := (b.cell (p := ⟨w1.heap.size, 0, none⟩) bxl).trans bx0
  replace bx1 := (b.cell (p := ⟨w1.heap.size, 1, none⟩) bxl).trans bx1
  replace bx2 := (b.cell (p := ⟨w1.heap.size, 2, none⟩) bxl).trans bx2
  replace bx3 := (b.cell (p := ⟨w1.heap.size, 3, none⟩) bxl).trans bx3
  replace bxl := Nat.lt_of_lt_of_le bxl b.size
  replace bv0 := (b.cell (p := ⟨w9.heap.size, 0, none⟩) bvl).trans bv0
  replace bv1 := (b.cell (p := ⟨w9.heap.size, 1, none⟩) bvl).trans bv1
  replace bv2 := (b.cell (p := ⟨w9.heap.size, 2, none⟩) bvl).trans bv2
  replace bv3 := (b.cell (p := ⟨w9.heap.size, 3, none⟩) bvl).trans bv3
  replace bvl := Nat.lt_of_lt_of_le bvl b.size
  replace cc := cc.trans (b.mono cc.size)
  clear b
  go_wp2_with fail
  go_ret
  exact ⟨rfl, cc⟩

set_option maxRecDepth 100000 in
set_option maxHeartbeats 8000000 in
theorem BlockRight_u {w : World} {k : Int} {A : Option Addr} {n c : Nat} {L : List Int} (hA : IR w A n c L) (h20 : n ≤ 20) {S G : Int} {CC : List Nat} {E M : List Int} (hM : M.length ≤ 4096) (hCE : CC.length + E.length ≤ 4096) (hk : k ≠ 4) (hG : S = G) (CP : ∀ {W : World}, IR W A n c L → Calls Tryz.prog 16 #[.int .i64 k, .slice A n c] W (GotBp W k S CC E 0)) (R0 : ∀ {W : World} {A B : Option Addr} {n c m d : Nat}, BR W A n c CC → IR W B m d E → Calls Tryz.prog 7 #[.agg #[.int .i64 k, .int .i64 S, .slice A n c, .slice B m d]] W (GotV W (.bool true))) (R1 : ∀ {W : World} {A B : Option Addr} {n c m d : Nat}, BR W A n c CC → IR W B m d E → Calls Tryz.prog 8 #[.agg #[.int .i64 k, .int .i64 S, .slice A n c, .slice B m d]] W (GotV W (.bool true))) (D0 : ∀ {W : World} {A B : Option Addr} {n c m d : Nat}, BR W A n c CC → IR W B m d E → Calls Tryz.prog 14 #[.agg #[.int .i64 k, .int .i64 S, .slice A n c, .slice B m d]] W (GotI W M)) (L0 : ∀ {W : World} {A B : Option Addr} {n0 c m d : Nat}, BR W A n0 c CC → IR W B m d E → Calls Tryz.prog 11 #[.agg #[.int .i64 k, .int .i64 S, .slice A n0 c, .slice B m d]] W (GotV W (.int .i64 (n : Int)))) (CG : ∀ {W : World} {A : Option Addr} {n c : Nat}, IR W A n c M → Calls Tryz.prog 17 #[.slice A n c] W (GotV W (.int .i64 G))) (CS : ∀ W : World, Calls Tryz.prog 18 #[.int .i64 k] W (GotV W (.bool false))) (PW : ∀ {W : World} {A : Option Addr} {n c : Nat}, IR W A n c M → Calls Tryz.prog 16 #[.int .i64 4, .slice A n c] W (GotBp W 4 0 [] M 0)) (D1 : ∀ {W : World} {A B : Option Addr} {n c m d : Nat}, BR W A n c [] → IR W B m d M → Calls Tryz.prog 14 #[.agg #[.int .i64 4, .int .i64 0, .slice A n c, .slice B m d]] W (GotI W M)) :
    Calls Tryz.prog 4 #[.int .i64 k, .slice A n c] w fun e w' => e = .returned (.bool true) ∧ Below w.heap.size w w' := by
  have t0 : decide (20 < (n : Int)) = false := decide_eq_false (by omega)
  have u0 : decide (20 < n) = false := decide_eq_false (by omega)
  have k4 : (k == 4) = false := beq_eq_false_iff_ne.2 hk
  have k5 : (k != 4) = true := by simp; exact hk
  have t1 : decide (S < G) = false := decide_eq_false (by omega)
  subst hG
  clear hk
  have cc := Below.refl w.heap.size w
  go_enter Tryz.func4, Tryz.ntmps4
  go_wp2_with fail
  refine (CP hA).mono ?_
  rintro e w1 ⟨Ax, nx, cx, Bx, mx, dx, rfl, hCx, hWx, b⟩
  replace hA := hA.on b
  replace cc := cc.trans (b.mono cc.size)
  clear b
  go_wp2_with fail
  have bA := below_one w1 (.cells #[.int .i64 k, .int .i64 S, .slice Ax nx cx, .slice Bx mx dx] 25)
  replace hA := hA.on bA
  replace hCx := hCx.on bA
  replace hWx := hWx.on bA
  replace cc := cc.trans (bA.mono cc.size)
  clear bA
  have bx0 : (w1.alloc (.cells #[.int .i64 k, .int .i64 S, .slice Ax nx cx, .slice Bx mx dx] 25)).cell? ⟨w1.heap.size, 0, none⟩ = some (.int .i64 k) := by simp [go_sem]
  have bx1 : (w1.alloc (.cells #[.int .i64 k, .int .i64 S, .slice Ax nx cx, .slice Bx mx dx] 25)).cell? ⟨w1.heap.size, 1, none⟩ = some (.int .i64 S) := by simp [go_sem]
  have bx2 : (w1.alloc (.cells #[.int .i64 k, .int .i64 S, .slice Ax nx cx, .slice Bx mx dx] 25)).cell? ⟨w1.heap.size, 2, none⟩ = some (.slice Ax nx cx) := by simp [go_sem]
  have bx3 : (w1.alloc (.cells #[.int .i64 k, .int .i64 S, .slice Ax nx cx, .slice Bx mx dx] 25)).cell? ⟨w1.heap.size, 3, none⟩ = some (.slice Bx mx dx) := by simp [go_sem]
  have bxl : w1.heap.size < (w1.alloc (.cells #[.int .i64 k, .int .i64 S, .slice Ax nx cx, .slice Bx mx dx] 25)).heap.size := by simp
  generalize w1.alloc (.cells #[.int .i64 k, .int .i64 S, .slice Ax nx cx, .slice Bx mx dx] 25) = v2 at *
  go_wp2_with fail
  refine (R0 hCx hWx).mono ?_
  rintro e w3 ⟨rfl, b⟩
  replace hA := hA.on b
  replace hCx := hCx.on b
  replace hWx := hWx.on b
  replace bx0 := (b.cell (p := ⟨w1.heap.size, 0, none⟩) bxl).trans bx0
  replace bx1 := (b.cell (p := ⟨w1.heap.size, 1, none⟩) bxl).trans bx1
  replace bx2 := (b.cell (p := ⟨w1.heap.size, 2, none⟩) bxl).trans bx2
  replace bx3 := (b.cell (p := ⟨w1.heap.size, 3, none⟩) bxl).trans bx3
  replace bxl := Nat.lt_of_lt_of_le bxl b.size
  replace cc := cc.trans (b.mono cc.size)
  clear b
  go_wp2_with fail
  refine (R1 hCx hWx).mono ?_
  rintro e w4 ⟨rfl, b⟩
  replace hA := hA.on b
  replace hCx := hCx.on b
  replace hWx := hWx.on b
  replace bx0 := (b.cell (p := ⟨w1.heap.size, 0, none⟩) bxl).trans bx0
  replace bx1 := (b.cell (p := ⟨w1.heap.size, 1, none⟩) bxl).trans bx1
  replace bx2 := (b.cell (p := ⟨w1.heap.size, 2, none⟩) bxl).trans bx2
  replace bx3 := (b.cell (p := ⟨w1.heap.size, 3, none⟩) bxl).trans bx3
  replace bxl := Nat.lt_of_lt_of_le bxl b.size
  replace cc := cc.trans (b.mono cc.size)
  clear b
  go_wp2_with fail
  refine (L0 hCx hWx).mono ?_
  rintro e w5 ⟨rfl, b⟩
  replace hA := hA.on b
  replace hCx := hCx.on b
  replace hWx := hWx.on b
  replace bx0 := (b.cell (p := ⟨w1.heap.size, 0, none⟩) bxl).trans bx0
  replace bx1 := (b.cell (p := ⟨w1.heap.size, 1, none⟩) bxl).trans bx1
  replace bx2 := (b.cell (p := ⟨w1.heap.size, 2, none⟩) bxl).trans bx2
  replace bx3 := (b.cell (p := ⟨w1.heap.size, 3, none⟩) bxl).trans bx3
  replace bxl := Nat.lt_of_lt_of_le bxl b.size
  replace cc := cc.trans (b.mono cc.size)
  clear b
  go_wp2_with fail
  refine (D0 hCx hWx).mono ?_
  rintro e w6 ⟨Az, nz, cz, rfl, hz, b⟩
  replace hA := hA.on b
  replace hCx := hCx.on b
  replace hWx := hWx.on b
  replace bx0 := (b.cell (p := ⟨w1.heap.size, 0, none⟩) bxl).trans bx0
  replace bx1 := (b.cell (p := ⟨w1.heap.size, 1, none⟩) bxl).trans bx1
  replace bx2 := (b.cell (p := ⟨w1.heap.size, 2, none⟩) bxl).trans bx2
  replace bx3 := (b.cell (p := ⟨w1.heap.size, 3, none⟩) bxl).trans bx3
  replace bxl := Nat.lt_of_lt_of_le bxl b.size
  replace cc := cc.trans (b.mono cc.size)
  clear b
  go_wp2_with fail
  have bD : Below w6.heap.size w6 w6.drew := below_drewN (Below.refl _ w6) 1
  replace hA := hA.on bD
  replace hCx := hCx.on bD
  replace hWx := hWx.on bD
  replace hz := hz.on bD
  replace bx0 := (bD.cell (p := ⟨w1.heap.size, 0, none⟩) bxl).trans bx0
  replace bx1 := (bD.cell (p := ⟨w1.heap.size, 1, none⟩) bxl).trans bx1
  replace bx2 := (bD.cell (p := ⟨w1.heap.size, 2, none⟩) bxl).trans bx2
  replace bx3 := (bD.cell (p := ⟨w1.heap.size, 3, none⟩) bxl).trans bx3
  replace bxl := Nat.lt_of_lt_of_le bxl bD.size
  replace cc := cc.trans (bD.mono cc.size)
  clear bD
  refine wp_region_held_drew (S := fun w' => w'.cell? ⟨w1.heap.size, 0, none⟩ = some (.int .i64 k) ∧ w'.cell? ⟨w1.heap.size, 1, none⟩ = some (.int .i64 S) ∧ w'.cell? ⟨w1.heap.size, 2, none⟩ = some (.slice Ax nx cx) ∧ w'.cell? ⟨w1.heap.size, 3, none⟩ = some (.slice Bx mx dx)) (by kernel_rfl) ?_ (fun hHeld => ?_)
  · exact ⟨bx0, bx1, bx2, bx3⟩
  refine wpAnyH_take (i := 0) (v := ?_) rfl (by kernel_rfl) (by kernel_rfl) (by kernel_rfl) (fun _ _ _ h => h) (Or.inl ⟨by rfl, ?_⟩) hHeld ?_
  rotate_left
  · (intro w hSw; (try dsimp only at hSw); go_simp; (try with_reducible rfl))
  try simp only [Act.put, List.getElem_toArray, List.getElem_cons_zero, List.getElem_cons_succ, List.setIfInBounds_toArray, List.set_cons_zero, List.set_cons_succ]
  refine wpAnyH_take (i := 1) (v := ?_) rfl (by kernel_rfl) (by kernel_rfl) (by kernel_rfl) (fun _ _ _ h => h) (Or.inl ⟨by rfl, ?_⟩) hHeld ?_
  rotate_left
  · (intro w hSw; (try dsimp only at hSw); go_simp; (try with_reducible rfl))
  try simp only [Act.put, List.getElem_toArray, List.getElem_cons_zero, List.getElem_cons_succ, List.setIfInBounds_toArray, List.set_cons_zero, List.set_cons_succ]
  refine wpAnyH_take (i := 2) (v := ?_) rfl (by kernel_rfl) (by kernel_rfl) (by kernel_rfl) (fun _ _ _ h => h) (Or.inl ⟨by rfl, ?_⟩) hHeld ?_
  rotate_left
  · (intro w hSw; (try dsimp only at hSw); go_simp; (try with_reducible rfl))
  try simp only [Act.put, List.getElem_toArray, List.getElem_cons_zero, List.getElem_cons_succ, List.setIfInBounds_toArray, List.set_cons_zero, List.set_cons_succ]
  refine wpAnyH_take (i := 3) (v := ?_) rfl (by kernel_rfl) (by kernel_rfl) (by kernel_rfl) (fun _ _ _ h => h) (Or.inl ⟨by rfl, ?_⟩) hHeld ?_
  rotate_left
  · (intro w hSw; (try dsimp only at hSw); go_simp; (try with_reducible rfl))
  try simp only [Act.put, List.getElem_toArray, List.getElem_cons_zero, List.getElem_cons_succ, List.setIfInBounds_toArray, List.set_cons_zero, List.set_cons_succ]
  refine wpAnyH_take (i := 5) (v := ?_) rfl (by kernel_rfl) (by kernel_rfl) (by kernel_rfl) (fun _ _ _ h => h) (Or.inl ⟨by rfl, ?_⟩) hHeld ?_
  rotate_left
  · (intro w hSw; (try dsimp only at hSw); go_simp; (try with_reducible rfl))
  try simp only [Act.put, List.getElem_toArray, List.getElem_cons_zero, List.getElem_cons_succ, List.setIfInBounds_toArray, List.set_cons_zero, List.set_cons_succ]
  refine wpAnyH_take (i := 6) (v := ?_) rfl (by kernel_rfl) (by kernel_rfl) (by kernel_rfl) (fun _ _ _ h => h) (Or.inl ⟨by rfl, ?_⟩) hHeld ?_
  rotate_left
  · (intro w hSw; (try dsimp only at hSw); go_simp; (try with_reducible rfl))
  try simp only [Act.put, List.getElem_toArray, List.getElem_cons_zero, List.getElem_cons_succ, List.setIfInBounds_toArray, List.set_cons_zero, List.set_cons_succ]
  refine wpAnyH_ready (rs := [4]) (by kernel_rfl) (by simp) ?_
  refine AllReadyH.cons rfl (fun K hK => ?_) AllReadyH.nil
  (try simp only [List.getElem_toArray, List.getElem_cons_zero, List.getElem_cons_succ])
  rw [if_pos (by rfl)]
  go_simp
  go_at_call 17
  refine (CG hz).mono ?_
  rintro e w7 ⟨rfl, b⟩
  replace hA := hA.on b
  replace hCx := hCx.on b
  replace hWx := hWx.on b
  replace hz := hz.on b
  replace bx0 := (b.cell (p := ⟨w1.heap.size, 0, none⟩) bxl).trans bx0
  replace bx1 := (b.cell (p := ⟨w1.heap.size, 1, none⟩) bxl).trans bx1
  replace bx2 := (b.cell (p := ⟨w1.heap.size, 2, none⟩) bxl).trans bx2
  replace bx3 := (b.cell (p := ⟨w1.heap.size, 3, none⟩) bxl).trans bx3
  replace bxl := Nat.lt_of_lt_of_le bxl b.size
  replace cc := cc.trans (b.mono cc.size)
  clear b
  refine hK.out _ _ ?_ (fun hHeld => ?_)
  · exact ⟨bx0, bx1, bx2, bx3⟩
  clear hK K
  try simp only [Act.put, List.getElem_toArray, List.getElem_cons_zero, List.getElem_cons_succ, List.setIfInBounds_toArray, List.set_cons_zero, List.set_cons_succ]
  refine wpAnyH_take (i := 7) (v := ?_) rfl (by kernel_rfl) (by kernel_rfl) (by kernel_rfl) (fun _ _ _ h => h) (Or.inl ⟨by rfl, ?_⟩) hHeld ?_
  rotate_left
  · (intro w hSw; (try dsimp only at hSw); go_simp; (try with_reducible rfl))
  try simp only [Act.put, List.getElem_toArray, List.getElem_cons_zero, List.getElem_cons_succ, List.setIfInBounds_toArray, List.set_cons_zero, List.set_cons_succ]
  refine wpAnyH_take (i := 8) (v := ?_) rfl (by kernel_rfl) (by kernel_rfl) (by kernel_rfl) (fun _ _ _ h => h) (Or.inl ⟨by rfl, ?_⟩) hHeld ?_
  rotate_left
  · (intro w hSw; (try dsimp only at hSw); go_simp; (try with_reducible rfl))
  try simp only [Act.put, List.getElem_toArray, List.getElem_cons_zero, List.getElem_cons_succ, List.setIfInBounds_toArray, List.set_cons_zero, List.set_cons_succ]
  refine wpAnyH_take (i := 9) (v := ?_) rfl (by kernel_rfl) (by kernel_rfl) (by kernel_rfl) (fun _ _ _ h => h) (Or.inl ⟨by rfl, ?_⟩) hHeld ?_
  rotate_left
  · (intro w hSw; (try dsimp only at hSw); go_simp; (try with_reducible rfl))
  try simp only [Act.put, List.getElem_toArray, List.getElem_cons_zero, List.getElem_cons_succ, List.setIfInBounds_toArray, List.set_cons_zero, List.set_cons_succ]
  refine wpAnyH_take (i := 10) (v := ?_) rfl (by kernel_rfl) (by kernel_rfl) (by kernel_rfl) (fun _ _ _ h => h) (Or.inl ⟨by rfl, ?_⟩) hHeld ?_
  rotate_left
  · (intro w hSw; (try dsimp only at hSw); go_simp; (try with_reducible rfl))
  try simp only [Act.put, List.getElem_toArray, List.getElem_cons_zero, List.getElem_cons_succ, List.setIfInBounds_toArray, List.set_cons_zero, List.set_cons_succ]
  refine wpAnyH_take (i := 11) (v := ?_) rfl (by kernel_rfl) (by kernel_rfl) (by kernel_rfl) (fun _ _ _ h => h) (Or.inl ⟨by rfl, ?_⟩) hHeld ?_
  rotate_left
  · (intro w hSw; (try dsimp only at hSw); go_simp; (try with_reducible rfl))
  try simp only [Act.put, List.getElem_toArray, List.getElem_cons_zero, List.getElem_cons_succ, List.setIfInBounds_toArray, List.set_cons_zero, List.set_cons_succ]
  refine wpAnyH_take (i := 12) (v := ?_) rfl (by kernel_rfl) (by kernel_rfl) (by kernel_rfl) (fun _ _ _ h => h) (Or.inl ⟨by rfl, ?_⟩) hHeld ?_
  rotate_left
  · (intro w hSw; (try dsimp only at hSw); go_simp; (try with_reducible rfl))
  try simp only [Act.put, List.getElem_toArray, List.getElem_cons_zero, List.getElem_cons_succ, List.setIfInBounds_toArray, List.set_cons_zero, List.set_cons_succ]
  refine wpAnyH_take (i := 13) (v := ?_) rfl (by kernel_rfl) (by kernel_rfl) (by kernel_rfl) (fun _ _ _ h => h) (Or.inl ⟨by rfl, ?_⟩) hHeld ?_
  rotate_left
  · (intro w hSw; (try dsimp only at hSw); go_simp; (try with_reducible rfl))
  try simp only [Act.put, List.getElem_toArray, List.getElem_cons_zero, List.getElem_cons_succ, List.setIfInBounds_toArray, List.set_cons_zero, List.set_cons_succ]
  refine wpAnyH_ready (rs := [14]) (by kernel_rfl) (by simp) ?_
  refine AllReadyH.cons rfl (fun K hK => ?_) AllReadyH.nil
  (try simp only [List.getElem_toArray, List.getElem_cons_zero, List.getElem_cons_succ])
  rw [if_pos (by rfl)]
  go_simp
  go_at_call 18
  refine (CS _).mono ?_
  rintro e w8 ⟨rfl, b⟩
  replace hA := hA.on b
  replace hCx := hCx.on b
  replace hWx := hWx.on b
  replace hz := hz.on b
  replace bx0 := (b.cell (p := ⟨w1.heap.size, 0, none⟩) bxl).trans bx0
  replace bx1 := (b.cell (p := ⟨w1.heap.size, 1, none⟩) bxl).trans bx1
  replace bx2 := (b.cell (p := ⟨w1.heap.size, 2, none⟩) bxl).trans bx2
  replace bx3 := (b.cell (p := ⟨w1.heap.size, 3, none⟩) bxl).trans bx3
  replace bxl := Nat.lt_of_lt_of_le bxl b.size
  replace cc := cc.trans (b.mono cc.size)
  clear b
  refine hK.out _ _ ?_ (fun hHeld => ?_)
  · exact ⟨bx0, bx1, bx2, bx3⟩
  clear hK K
  try simp only [Act.put, List.getElem_toArray, List.getElem_cons_zero, List.getElem_cons_succ, List.setIfInBounds_toArray, List.set_cons_zero, List.set_cons_succ]
  refine wpAnyH_take (i := 15) (v := ?_) rfl (by kernel_rfl) (by kernel_rfl) (by kernel_rfl) (fun _ _ _ h => h) (Or.inl ⟨by rfl, ?_⟩) hHeld ?_
  rotate_left
  · (intro w hSw; (try dsimp only at hSw); go_simp; (try with_reducible rfl))
  try simp only [Act.put, List.getElem_toArray, List.getElem_cons_zero, List.getElem_cons_succ, List.setIfInBounds_toArray, List.set_cons_zero, List.set_cons_succ]
  refine wpAnyH_take (i := 16) (v := ?_) rfl (by kernel_rfl) (by kernel_rfl) (by kernel_rfl) (fun _ _ _ h => h) (Or.inl ⟨by rfl, ?_⟩) hHeld ?_
  rotate_left
  · (intro w hSw; (try dsimp only at hSw); go_simp; (try with_reducible rfl))
  try simp only [Act.put, List.getElem_toArray, List.getElem_cons_zero, List.getElem_cons_succ, List.setIfInBounds_toArray, List.set_cons_zero, List.set_cons_succ]
  refine wpAnyH_take (i := 17) (v := ?_) rfl (by kernel_rfl) (by kernel_rfl) (by kernel_rfl) (fun _ _ _ h => h) (Or.inl ⟨by rfl, ?_⟩) hHeld ?_
  rotate_left
  · (intro w hSw; (try dsimp only at hSw); go_simp; (try with_reducible rfl))
  try simp only [Act.put, List.getElem_toArray, List.getElem_cons_zero, List.getElem_cons_succ, List.setIfInBounds_toArray, List.set_cons_zero, List.set_cons_succ]
  refine wpAnyH_take (i := 18) (v := ?_) rfl (by kernel_rfl) (by kernel_rfl) (by kernel_rfl) (fun _ _ _ h => h) (Or.inl ⟨by rfl, ?_⟩) hHeld ?_
  rotate_left
  · (intro w hSw; (try dsimp only at hSw); go_simp; (try with_reducible rfl))
  try simp only [Act.put, List.getElem_toArray, List.getElem_cons_zero, List.getElem_cons_succ, List.setIfInBounds_toArray, List.set_cons_zero, List.set_cons_succ]
  refine wpAnyH_take (i := 20) (v := ?_) rfl (by kernel_rfl) (by kernel_rfl) (by kernel_rfl) (fun _ _ _ h => h) (Or.inl ⟨by rfl, ?_⟩) hHeld ?_
  rotate_left
  · (intro w hSw; (try dsimp only at hSw); go_simp; (try with_reducible rfl))
  try simp only [Act.put, List.getElem_toArray, List.getElem_cons_zero, List.getElem_cons_succ, List.setIfInBounds_toArray, List.set_cons_zero, List.set_cons_succ]
  refine wpAnyH_take (i := 21) (v := ?_) rfl (by kernel_rfl) (by kernel_rfl) (by kernel_rfl) (fun _ _ _ h => h) (Or.inl ⟨by rfl, ?_⟩) hHeld ?_
  rotate_left
  · (intro w hSw; (try dsimp only at hSw); go_simp; (try with_reducible rfl))
  try simp only [Act.put, List.getElem_toArray, List.getElem_cons_zero, List.getElem_cons_succ, List.setIfInBounds_toArray, List.set_cons_zero, List.set_cons_succ]
  refine wpAnyH_ready (rs := [19]) (by kernel_rfl) (by simp) ?_
  refine AllReadyH.cons rfl (fun K hK => ?_) AllReadyH.nil
  (try simp only [List.getElem_toArray, List.getElem_cons_zero, List.getElem_cons_succ])
  rw [if_pos (by rfl)]
  go_simp
  go_at_call 17
  refine (CG hz).mono ?_
  rintro e w9 ⟨rfl, b⟩
  replace hA := hA.on b
  replace hCx := hCx.on b
  replace hWx := hWx.on b
  replace hz := hz.on b
  replace bx0 := (b.cell (p := ⟨w1.heap.size, 0, none⟩) bxl).trans bx0
  replace bx1 := (b.cell (p := ⟨w1.heap.size, 1, none⟩) bxl).trans bx1
  replace bx2 := (b.cell (p := ⟨w1.heap.size, 2, none⟩) bxl).trans bx2
  replace bx3 := (b.cell (p := ⟨w1.heap.size, 3, none⟩) bxl).trans bx3
  replace bxl := Nat.lt_of_lt_of_le bxl b.size
  replace cc := cc.trans (b.mono cc.size)
  clear b
  refine hK.out _ _ ?_ (fun hHeld => ?_)
  · exact ⟨bx0, bx1, bx2, bx3⟩
  clear hK K
  try simp only [Act.put, List.getElem_toArray, List.getElem_cons_zero, List.getElem_cons_succ, List.setIfInBounds_toArray, List.set_cons_zero, List.set_cons_succ]
  refine wpAnyH_take (i := 22) (v := ?_) rfl (by kernel_rfl) (by kernel_rfl) (by kernel_rfl) (fun _ _ _ h => h) (Or.inl ⟨by rfl, ?_⟩) hHeld ?_
  rotate_left
  · (intro w hSw; (try dsimp only at hSw); go_simp; (try with_reducible rfl))
  try simp only [Act.put, List.getElem_toArray, List.getElem_cons_zero, List.getElem_cons_succ, List.setIfInBounds_toArray, List.set_cons_zero, List.set_cons_succ]
  refine wpAnyH_take (i := 23) (v := ?_) rfl (by kernel_rfl) (by kernel_rfl) (by kernel_rfl) (fun _ _ _ h => h) (Or.inl ⟨by rfl, ?_⟩) hHeld ?_
  rotate_left
  · (intro w hSw; (try dsimp only at hSw); go_simp; (try with_reducible rfl))
  try simp only [Act.put, List.getElem_toArray, List.getElem_cons_zero, List.getElem_cons_succ, List.setIfInBounds_toArray, List.set_cons_zero, List.set_cons_succ]
  refine wpAnyH_take (i := 24) (v := ?_) rfl (by kernel_rfl) (by kernel_rfl) (by kernel_rfl) (fun _ _ _ h => h) (Or.inl ⟨by rfl, ?_⟩) hHeld ?_
  rotate_left
  · (intro w hSw; (try dsimp only at hSw); go_simp; (try with_reducible rfl))
  try simp only [Act.put, List.getElem_toArray, List.getElem_cons_zero, List.getElem_cons_succ, List.setIfInBounds_toArray, List.set_cons_zero, List.set_cons_succ]
  refine wpAnyH_done (by kernel_rfl) ?_ _
  clear hHeld
  go_wp2_with fail
  refine (PW hz).mono ?_
  rintro e w10 ⟨Av, nv, cv, Bv, mv, dv, rfl, hCv, hWv, b⟩
  replace hA := hA.on b
  replace hCx := hCx.on b
  replace hWx := hWx.on b
  replace hz := hz.on b
  replace bx0 := (b.cell (p := ⟨w1.heap.size, 0, none⟩) bxl).trans bx0
  replace bx1 := (b.cell (p := ⟨w1.heap.size, 1, none⟩) bxl).trans bx1
  replace bx2 := (b.cell (p := ⟨w1.heap.size, 2, none⟩) bxl).trans bx2
  replace bx3 := (b.cell (p := ⟨w1.heap.size, 3, none⟩) bxl).trans bx3
  replace bxl := Nat.lt_of_lt_of_le bxl b.size
  replace cc := cc.trans (b.mono cc.size)
  clear b
  go_wp2_with fail
  have bA := below_one w10 (.cells #[.int .i64 4, .int .i64 0, .slice Av nv cv, .slice Bv mv dv] 25)
  replace hA := hA.on bA
  replace hCx := hCx.on bA
  replace hWx := hWx.on bA
  replace hz := hz.on bA
  replace hCv := hCv.on bA
  replace hWv := hWv.on bA
  replace bx0 := (bA.cell (p := ⟨w1.heap.size, 0, none⟩) bxl).trans bx0
  replace bx1 := (bA.cell (p := ⟨w1.heap.size, 1, none⟩) bxl).trans bx1
  replace bx2 := (bA.cell (p := ⟨w1.heap.size, 2, none⟩) bxl).trans bx2
  replace bx3 := (bA.cell (p := ⟨w1.heap.size, 3, none⟩) bxl).trans bx3
  replace bxl := Nat.lt_of_lt_of_le bxl bA.size
  replace cc := cc.trans (bA.mono cc.size)
  clear bA
  have bv0 : (w10.alloc (.cells #[.int .i64 4, .int .i64 0, .slice Av nv cv, .slice Bv mv dv] 25)).cell? ⟨w10.heap.size, 0, none⟩ = some (.int .i64 4) := by simp [go_sem]
  have bv1 : (w10.alloc (.cells #[.int .i64 4, .int .i64 0, .slice Av nv cv, .slice Bv mv dv] 25)).cell? ⟨w10.heap.size, 1, none⟩ = some (.int .i64 0) := by simp [go_sem]
  have bv2 : (w10.alloc (.cells #[.int .i64 4, .int .i64 0, .slice Av nv cv, .slice Bv mv dv] 25)).cell? ⟨w10.heap.size, 2, none⟩ = some (.slice Av nv cv) := by simp [go_sem]
  have bv3 : (w10.alloc (.cells #[.int .i64 4, .int .i64 0, .slice Av nv cv, .slice Bv mv dv] 25)).cell? ⟨w10.heap.size, 3, none⟩ = some (.slice Bv mv dv) := by simp [go_sem]
  have bvl : w10.heap.size < (w10.alloc (.cells #[.int .i64 4, .int .i64 0, .slice Av nv cv, .slice Bv mv dv] 25)).heap.size := by simp
  generalize w10.alloc (.cells #[.int .i64 4, .int .i64 0, .slice Av nv cv, .slice Bv mv dv] 25) = v11 at *
  go_wp2_with fail
  refine (alive11_any _).mono ?_
  rintro e w12 ⟨rfl, b⟩
  replace hA := hA.on b
  replace hCx := hCx.on b
  replace hWx := hWx.on b
  replace hz := hz.on b
  replace hCv := hCv.on b
  replace hWv := hWv.on b
  replace bx0 := (b.cell (p := ⟨w1.heap.size, 0, none⟩) bxl).trans bx0
  replace bx1 := (b.cell (p := ⟨w1.heap.size, 1, none⟩) bxl).trans bx1
  replace bx2 := (b.cell (p := ⟨w1.heap.size, 2, none⟩) bxl).trans bx2
  replace bx3 := (b.cell (p := ⟨w1.heap.size, 3, none⟩) bxl).trans bx3
  replace bxl := Nat.lt_of_lt_of_le bxl b.size
  replace bv0 := (b.cell (p := ⟨w10.heap.size, 0, none⟩) bvl).trans bv0
  replace bv1 := (b.cell (p := ⟨w10.heap.size, 1, none⟩) bvl).trans bv1
  replace bv2 := (b.cell (p := ⟨w10.heap.size, 2, none⟩) bvl).trans bv2
  replace bv3 := (b.cell (p := ⟨w10.heap.size, 3, none⟩) bvl).trans bv3
  replace bvl := Nat.lt_of_lt_of_le bvl b.size
  replace cc := cc.trans (b.mono cc.size)
  clear b
  go_wp2_with fail
  refine (D1 hCv hWv).mono ?_
  rintro e w13 ⟨Ay, ny, cy, rfl, hy, b⟩
  replace hA := hA.on b
  replace hCx := hCx.on b
  replace hWx := hWx.on b
  replace hz := hz.on b
  replace hCv := hCv.on b
  replace hWv := hWv.on b
  replace bx0 := (b.cell (p := ⟨w1.heap.size, 0, none⟩) bxl).trans bx0
  replace bx1 := (b.cell (p := ⟨w1.heap.size, 1, none⟩) bxl).trans bx1
  replace bx2 := (b.cell (p := ⟨w1.heap.size, 2, none⟩) bxl).trans bx2
  replace bx3 := (b.cell (p := ⟨w1.heap.size, 3, none⟩) bxl).trans bx3
  replace bxl := Nat.lt_of_lt_of_le bxl b.size
  replace bv0 := (b.cell (p := ⟨w10.heap.size, 0, none⟩) bvl).trans bv0
  replace bv1 := (b.cell (p := ⟨w10.heap.size, 1, none⟩) bvl).trans bv1
  replace bv2 := (b.cell (p := ⟨w10.heap.size, 2, none⟩) bvl).trans bv2
  replace bv3 := (b.cell (p := ⟨w10.heap.size, 3, none⟩) bvl).trans bv3
  replace bvl := Nat.lt_of_lt_of_le bvl b.size
  replace cc := cc.trans (b.mono cc.size)
  clear b
  go_wp2_with fail
  refine (rsame9_self hy hz (by have := hy.1; omega)).mono ?_
  rintro e w14 ⟨rfl, b⟩
  replace hA := hA.on b
  replace hCx := hCx.on b
  replace hWx := hWx.on b
  replace hz := hz.on b
  replace hCv := hCv.on b
  replace hWv := hWv.on b
  replace hy := hy.on b
  replace bx0 := (b.cell (p := ⟨w1.heap.size, 0, none⟩) bxl).trans bx0
  replace bx1 := (b.cell (p := ⟨w1.heap.size, 1, none⟩) bxl).trans bx1
  replace bx2 := (b.cell (p := ⟨w1.heap.size, 2, none⟩) bxl).trans bx2
  replace bx3 := (b.cell (p := ⟨w1.heap.size, 3, none⟩) bxl).trans bx3
  replace bxl := Nat.lt_of_lt_of_le bxl b.size
  replace bv0 := (b.cell (p := ⟨w10.heap.size, 0, none⟩) bvl).trans bv0
  replace bv1 := (b.cell (p := ⟨w10.heap.size, 1, none⟩) bvl).trans bv1
  replace bv2 := (b.cell (p := ⟨w10.heap.size, 2, none⟩) bvl).trans bv2
  replace bv3 := (b.cell (p := ⟨w10.heap.size, 3, none⟩) bvl).trans bv3
  replace bvl := Nat.lt_of_lt_of_le bvl b.size
  replace cc := cc.trans (b.mono cc.size)
  clear b
  go_wp2_with fail
  refine (bkSame_same hCx hWx (by have := hCx.1; omega) (by have := hWx.1; omega) hCx hWx (by have := hCx.1; omega) (by have := hWx.1; omega) rfl rfl).mono ?_
  rintro e w15 ⟨rfl, b⟩
  replace hA := hA.on b
  replace hCx := hCx.on b
  replace hWx := hWx.on b
  replace hz := hz.on b
  replace hCv := hCv.on b
  replace hWv := hWv.on b
  replace hy := hy.on b
  replace bx0 := (b.cell (p := ⟨w1.heap.size, 0, none⟩) bxl).trans bx0
  replace bx1 := (b.cell (p := ⟨w1.heap.size, 1, none⟩) bxl).trans bx1
  replace bx2 := (b.cell (p := ⟨w1.heap.size, 2, none⟩) bxl).trans bx2
  replace bx3 := (b.cell (p := ⟨w1.heap.size, 3, none⟩) bxl).trans bx3
  replace bxl := Nat.lt_of_lt_of_le bxl b.size
  replace bv0 := (b.cell (p := ⟨w10.heap.size, 0, none⟩) bvl).trans bv0
  replace bv1 := (b.cell (p := ⟨w10.heap.size, 1, none⟩) bvl).trans bv1
  replace bv2 := (b.cell (p := ⟨w10.heap.size, 2, none⟩) bvl).trans bv2
  replace bv3 := (b.cell (p := ⟨w10.heap.size, 3, none⟩) bvl).trans bv3
  replace bvl := Nat.lt_of_lt_of_le bvl b.size
  replace cc := cc.trans (b.mono cc.size)
  clear b
  go_wp2_with fail
  go_ret
  exact ⟨rfl, cc⟩

/-- What is packed and loaded. -/
def back11 (k : Int) (L : List Int) : List Int := (L.map (pk k (gr L))).map (ld k (gr L))
theorem back11_at {k : Int} {L : List Int} {j : Nat} (hj : j < L.length) : (back11 k L)[j]?.getD 0 = ld k (gr L) (pk k (gr L) (L[j]?.getD 0)) := by
  unfold back11
  rw [map_at (d := 0) (by rw [List.length_map]; exact hj), map_at (d := 0) hj]
theorem back11_len (k : Int) (L : List Int) : (back11 k L).length = L.length := by unfold back11; rw [List.length_map, List.length_map]
theorem back11_in {k : Int} {L : List Int} (h : Kind9 k) (j : Nat) : -gr L ≤ (back11 k L)[j]?.getD 0 ∧ (back11 k L)[j]?.getD 0 ≤ gr L := by
  have h0 := gr_pos L
  rcases Nat.lt_or_ge j L.length with hj | hj
  · rw [back11_at hj]
    have := ld_in h h0 (pk_le k (gr L) (L[j]?.getD 0))
    exact ⟨this.1, this.2.1⟩
  · rw [List.getElem?_eq_none (by rw [back11_len]; exact hj)]
    show -gr L ≤ 0 ∧ 0 ≤ gr L
    omega
theorem back11_gr {k : Int} {L : List Int} (h : Kind9 k) : gr (back11 k L) ≤ gr L := gr_le (gr_pos L) fun j _ => by have := back11_in (L := L) h j; omega
theorem back11_top {k : Int} {L : List Int} (h : Kind9 k) (ho : OkP k L) (hs : sig9 k = false) : gr L = gr (back11 k L) := by
  have h1 := back11_gr (L := L) h
  have h2 := gr_pos (back11 k L)
  rcases grk_some L L.length with e | ⟨j, hj, e⟩
  · have e : gr L = 0 := e
    omega
  · have e : L[j]?.getD 0 = gr L ∨ L[j]?.getD 0 = -gr L := e
    have hp := (okP_at ho h (mem_at (d := 0) hj)).2.2
    rw [hs] at hp
    rcases Int.lt_or_le 0 (gr L) with h0 | h0
    · have ex : L[j]?.getD 0 = gr L := by
        rcases hp with hp | hp
        · omega
        · cases hp
      have hb := back11_at (k := k) hj
      rw [ex, pk_top h h0, ld_top h] at hb
      have := (gr_ge (L := back11 k L) (j := j) (by rw [back11_len]; exact hj)).1
      omega
    · omega
theorem back11_fit {k : Int} {L : List Int} (h : Kind9 k) (hi : ∀ x ∈ L, I64 x) (ho : OkP k L) (j : Nat) : I64 ((back11 k L)[j]?.getD 0) ∧ (back11 k L)[j]?.getD 0 ≠ -9223372036854775808 := by
  have h1 := back11_in (L := L) h j
  have h2 := gr_i64 hi ho
  unfold I64 at *
  omega
theorem okP_4 {L : List Int} (h : ∀ x ∈ L, x ≠ -9223372036854775808) : OkP 4 L := ⟨by omega, fun x hx => ⟨h x hx, fun e => by omega⟩⟩
theorem i64_k4 : I64 4 := by unfold I64; omega
theorem wide_ok {L : List Int} (h : ∀ x ∈ L, x ≠ -9223372036854775808) (hl : L.length ≤ 4096) : OkB 4 0 [] L := .inr ⟨rfl, by simp; exact hl, h, rfl, rfl⟩
theorem packW {w : World} {A : Option Addr} {n c : Nat} {M : List Int} (hA : IR w A n c M) (hi : ∀ x ∈ M, I64 x) (hn : n ≤ 20) (h : ∀ x ∈ M, x ≠ -9223372036854775808) : Calls Tryz.prog 16 #[.int .i64 4, .slice A n c] w (GotBp w 4 0 [] M 0) := by
  obtain ⟨e1, e2, e3⟩ := pk_len4 4 M rfl
  have := bkPack_yes i64_k4 hA hi hn (okP_4 h)
  rwa [e1, e2, e3] at this
theorem loadW {w : World} {A B : Option Addr} {n c m d : Nat} {M : List Int} (hC : BR w A n c []) (hW : IR w B m d M) (h : ∀ x ∈ M, x ≠ -9223372036854775808) (hl : M.length ≤ 4096) : Calls Tryz.prog 14 #[.agg #[.int .i64 4, .int .i64 0, .slice A n c, .slice B m d]] w (GotI w M) := bkLoad_N hC hW (wide_ok h hl) (by decide)
theorem all_at {L : List Int} {P : Int → Prop} (h : ∀ j : Nat, j < L.length → P (L[j]?.getD 0)) : ∀ x ∈ L, P x := fun x hx => by obtain ⟨j, hj, rfl⟩ := at_mem 0 hx; exact h j hj
theorem BlockRight_walk {w : World} (k : Int) (wk : (Lit.int .i64 k).wf = true) {A : Option Addr} {n c : Nat} {L : List Int} (hA : IR w A n c L) (hn : n ≤ 9223372036854775807) (hi : ∀ x ∈ L, I64 x) : Calls Tryz.prog 4 #[.int .i64 k, .slice A n c] w fun e w' => e = .returned (.bool true) ∧ Below w.heap.size w w' := by
  have hk := i64_wf wk
  have hl := hA.1
  by_cases h0 : 20 < n
  · exact BlockRight_few h0
  have h20 : n ≤ 20 := by omega
  by_cases ho : OkP k L
  · have hO := okB_pk ho (by omega)
    have CP := fun {W : World} (h : IR W A n c L) => bkPack_yes hk h hi h20 ho
    have R0 := fun {W : World} {A B : Option Addr} {n c m d : Nat} (h : BR W A n c (pkC k L)) (g : IR W B m d (pkW k L)) (a : n ≤ 9223372036854775807) (b : m ≤ 9223372036854775807) => (by have e := rRight_N (k := k) (s := pkS k L) h g a b; rwa [decide_eq_true hO] at e : Calls Tryz.prog 7 #[.agg #[.int .i64 k, .int .i64 (pkS k L), .slice A n c, .slice B m d]] W (GotV W (.bool true)))
    have R1 := fun {W : World} {A B : Option Addr} {n c m d : Nat} (h : BR W A n c (pkC k L)) (g : IR W B m d (pkW k L)) (a : n ≤ 9223372036854775807) (b : m ≤ 9223372036854775807) => (by have e := bkRight_N (k := k) (s := pkS k L) h g a b; rwa [decide_eq_true hO] at e : Calls Tryz.prog 8 #[.agg #[.int .i64 k, .int .i64 (pkS k L), .slice A n c, .slice B m d]] W (GotV W (.bool true)))
    have hsum : (pkC k L).length + (pkW k L).length = n := by
      by_cases k4 : k = 4
      · obtain ⟨e1, e2, e3⟩ := pk_len4 k L k4; rw [e1, e3]; simp; omega
      · obtain ⟨e1, e2, e3⟩ := pk_not4 k L k4; rw [e1, e3]; simp; omega
    have L0 : ∀ {W : World} {A B : Option Addr} {n0 c m d : Nat}, BR W A n0 c (pkC k L) → IR W B m d (pkW k L) → Calls Tryz.prog 11 #[.agg #[.int .i64 k, .int .i64 (pkS k L), .slice A n0 c, .slice B m d]] W (GotV W (.int .i64 (n : Int))) := fun {W} {A} {B} {n0} {c} {m} {d} h g => by
      have e := bkLen_N (k := k) (s := pkS k L) (A := A) (B := B) (n := n0) (c := c) (m := m) (d := d) W (by have := h.1; omega) (by have := g.1; omega)
      rw [IntWalk.i64_in _ (by have := h.1; have := g.1; omega)] at e
      have e2 : (n0 : Int) + (m : Int) = (n : Int) := by have := h.1; have := g.1; omega
      rwa [e2] at e
    by_cases k4 : k = 4
    · have hne : ∀ x ∈ L, x ≠ -9223372036854775808 := fun x hx => (ho.2 x hx).1
      obtain ⟨e1, e2, e3⟩ := pk_len4 k L k4
      rw [e1, e2, e3] at hO R0 R1 L0
      simp only [e1, e2, e3] at CP
      exact BlockRight_w hA h20 (M := L) (by omega) (by simp; omega) k4 CP (fun h g => R0 h g (by have := h.1; simp at this; omega) (by have := g.1; omega)) (fun h g => R1 h g (by have := h.1; simp at this; omega) (by have := g.1; omega)) (fun h g => by have := bkLoad_N h g hO (by decide); rwa [show ldB k 0 [] L = L from if_pos k4] at this) L0 (fun h => packW h hi (by have := h.1; omega) hne) (fun h g => loadW h g hne (by omega))
    · have k9 : Kind9 k := by rcases kind_or.1 ho.1 with h | h; exact h; exact absurd h k4
      have fit := back11_fit k9 hi ho
      have bl := back11_len k L
      have hi2 : ∀ x ∈ back11 k L, I64 x := all_at fun j _ => (fit j).1
      have hne : ∀ x ∈ back11 k L, x ≠ -9223372036854775808 := all_at fun j _ => (fit j).2
      obtain ⟨e1, e2, e3⟩ := pk_not4 k L k4
      rw [e1, e2, e3] at hO R0 R1 L0
      simp only [e1, e2, e3] at CP
      have D0 : ∀ {W : World} {A B : Option Addr} {n c m d : Nat}, BR W A n c (L.map (pk k (gr L))) → IR W B m d [] → Calls Tryz.prog 14 #[.agg #[.int .i64 k, .int .i64 (gr L), .slice A n c, .slice B m d]] W (GotI W (back11 k L)) := fun h g => by have := bkLoad_N h g hO (gr_i64 hi ho); rwa [show ldB k (gr L) (L.map (pk k (gr L))) [] = back11 k L from if_neg k4] at this
      cases hs : sig9 k with
      | true => exact BlockRight_s hA h20 (M := back11 k L) (by omega) (by simp; omega) k4 (back11_gr k9) CP (fun h g => R0 h g (by have := h.1; simp at this; omega) (by have := g.1; simp at this; omega)) (fun h g => R1 h g (by have := h.1; simp at this; omega) (by have := g.1; simp at this; omega)) D0 L0 (fun h => rgreat_N h (by have := h.1; omega) fit) (fun W => by have := rsig9_N W k; rwa [hs] at this) (fun h => packW h hi2 (by have := h.1; omega) hne) (fun h g => loadW h g hne (by omega))
      | false => exact BlockRight_u hA h20 (M := back11 k L) (by omega) (by simp; omega) k4 (back11_top k9 ho hs) CP (fun h g => R0 h g (by have := h.1; simp at this; omega) (by have := g.1; simp at this; omega)) (fun h g => R1 h g (by have := h.1; simp at this; omega) (by have := g.1; simp at this; omega)) D0 L0 (fun h => rgreat_N h (by have := h.1; omega) fit) (fun W => by have := rsig9_N W k; rwa [hs] at this) (fun h => packW h hi2 (by have := h.1; omega) hne) (fun h g => loadW h g hne (by omega))
  · exact BlockRight_no hA h20 (fun h => bkPack_no hk h hi h20 ho)

end Go.Proofs.YtlmcpgahjfepjaaGreat
