/-
  The walk of BlockOrder.
-/
import Derived.Test.YtlmcpgahjfepjaaA10
namespace Go.Proofs.Ytlmcpgahjfepjaa
set_option maxRecDepth 100000
open Go.RowKit
set_option linter.unusedVariables false
set_option linter.unusedSimpArgs false

set_option maxRecDepth 100000 in
set_option maxHeartbeats 8000000 in
theorem BlockOrder_0 {w : World} {k a b : Int} {A : Option Addr} {n c : Nat} (hn : n ≤ 9223372036854775807) (h0 : 20 < (n : Int)) :
    Calls Try.prog 5 #[.int .i64 k, .slice A n c, .agg #[.int .i64 (a), .int .i64 (b)]] w fun e w' => e = .returned (.bool true) ∧ Below w.heap.size w w' := by
  have t0 : decide (20 < (n : Int)) = true := decide_eq_true (by omega)
  have u0 : decide (20 < n) = true := decide_eq_true (by omega)
  clear h0
  have cc := Below.refl w.heap.size w
  go_enter Try.func5, Try.ntmps5
  go_wp2_with fail
  have bA : Below w.heap.size w (w.alloc (.cells #[.int .i64 a, .int .i64 b] 48)) := ((Below.refl _ w).alloc (by simp) _)
  replace cc := cc.trans (bA.mono cc.size)
  clear bA
  have pa0 : (w.alloc (.cells #[.int .i64 a, .int .i64 b] 48)).cell? ⟨w.heap.size, 0, none⟩ = some (.int .i64 a) := by simp [go_sem]
  have pa1 : (w.alloc (.cells #[.int .i64 a, .int .i64 b] 48)).cell? ⟨w.heap.size, 1, none⟩ = some (.int .i64 b) := by simp [go_sem]
  have pal : w.heap.size < (w.alloc (.cells #[.int .i64 a, .int .i64 b] 48)).heap.size := by simp <;> omega
  generalize w.alloc (.cells #[.int .i64 a, .int .i64 b] 48) = v1 at *
  go_wp2_with fail
  refine (alive11_any _).mono ?_
  rintro e w2 ⟨rfl, b⟩
  replace pa0 := (b.cell (p := ⟨w.heap.size, 0, none⟩) pal).trans pa0
  replace pa1 := (b.cell (p := ⟨w.heap.size, 1, none⟩) pal).trans pa1
  replace pal := Nat.lt_of_lt_of_le pal b.size
  replace cc := cc.trans (b.mono cc.size)
  clear b
  go_wp2_with fail
  go_ret
  exact ⟨rfl, cc⟩

set_option maxRecDepth 100000 in
set_option maxHeartbeats 8000000 in
theorem BlockOrder_1 {w : World} {k a b : Int} {A : Option Addr} {n c : Nat} (hn : n ≤ 9223372036854775807) (h0 : ¬ 20 < (n : Int)) (h1 : a < 0) :
    Calls Try.prog 5 #[.int .i64 k, .slice A n c, .agg #[.int .i64 (a), .int .i64 (b)]] w fun e w' => e = .returned (.bool true) ∧ Below w.heap.size w w' := by
  have t0 : decide (20 < (n : Int)) = false := decide_eq_false (by omega)
  have u0 : decide (20 < n) = false := decide_eq_false (by omega)
  have t1 : decide (a < 0) = true := decide_eq_true (by omega)
  clear h0 h1
  have cc := Below.refl w.heap.size w
  go_enter Try.func5, Try.ntmps5
  go_wp2_with fail
  have bA : Below w.heap.size w (w.alloc (.cells #[.int .i64 a, .int .i64 b] 48)) := ((Below.refl _ w).alloc (by simp) _)
  replace cc := cc.trans (bA.mono cc.size)
  clear bA
  have pa0 : (w.alloc (.cells #[.int .i64 a, .int .i64 b] 48)).cell? ⟨w.heap.size, 0, none⟩ = some (.int .i64 a) := by simp [go_sem]
  have pa1 : (w.alloc (.cells #[.int .i64 a, .int .i64 b] 48)).cell? ⟨w.heap.size, 1, none⟩ = some (.int .i64 b) := by simp [go_sem]
  have pal : w.heap.size < (w.alloc (.cells #[.int .i64 a, .int .i64 b] 48)).heap.size := by simp <;> omega
  generalize w.alloc (.cells #[.int .i64 a, .int .i64 b] 48) = v1 at *
  go_wp2_with fail
  refine (alive11_any _).mono ?_
  rintro e w2 ⟨rfl, b⟩
  replace pa0 := (b.cell (p := ⟨w.heap.size, 0, none⟩) pal).trans pa0
  replace pa1 := (b.cell (p := ⟨w.heap.size, 1, none⟩) pal).trans pa1
  replace pal := Nat.lt_of_lt_of_le pal b.size
  replace cc := cc.trans (b.mono cc.size)
  clear b
  go_wp2_with fail
  go_ret
  exact ⟨rfl, cc⟩

set_option maxRecDepth 100000 in
set_option maxHeartbeats 8000000 in
theorem BlockOrder_2 {w : World} {k a b : Int} {A : Option Addr} {n c : Nat} (hn : n ≤ 9223372036854775807) (h0 : ¬ 20 < (n : Int)) (h1 : ¬ a < 0) (h2 : (n : Int) ≤ a) :
    Calls Try.prog 5 #[.int .i64 k, .slice A n c, .agg #[.int .i64 (a), .int .i64 (b)]] w fun e w' => e = .returned (.bool true) ∧ Below w.heap.size w w' := by
  have t0 : decide (20 < (n : Int)) = false := decide_eq_false (by omega)
  have u0 : decide (20 < n) = false := decide_eq_false (by omega)
  have t1 : decide (a < 0) = false := decide_eq_false (by omega)
  have t2 : decide ((n : Int) ≤ a) = true := decide_eq_true (by omega)
  clear h0 h1 h2
  have cc := Below.refl w.heap.size w
  go_enter Try.func5, Try.ntmps5
  go_wp2_with fail
  have bA : Below w.heap.size w (w.alloc (.cells #[.int .i64 a, .int .i64 b] 48)) := ((Below.refl _ w).alloc (by simp) _)
  replace cc := cc.trans (bA.mono cc.size)
  clear bA
  have pa0 : (w.alloc (.cells #[.int .i64 a, .int .i64 b] 48)).cell? ⟨w.heap.size, 0, none⟩ = some (.int .i64 a) := by simp [go_sem]
  have pa1 : (w.alloc (.cells #[.int .i64 a, .int .i64 b] 48)).cell? ⟨w.heap.size, 1, none⟩ = some (.int .i64 b) := by simp [go_sem]
  have pal : w.heap.size < (w.alloc (.cells #[.int .i64 a, .int .i64 b] 48)).heap.size := by simp <;> omega
  generalize w.alloc (.cells #[.int .i64 a, .int .i64 b] 48) = v1 at *
  go_wp2_with fail
  refine (alive11_any _).mono ?_
  rintro e w2 ⟨rfl, b⟩
  replace pa0 := (b.cell (p := ⟨w.heap.size, 0, none⟩) pal).trans pa0
  replace pa1 := (b.cell (p := ⟨w.heap.size, 1, none⟩) pal).trans pa1
  replace pal := Nat.lt_of_lt_of_le pal b.size
  replace cc := cc.trans (b.mono cc.size)
  clear b
  go_wp2_with fail
  go_ret
  exact ⟨rfl, cc⟩

set_option maxRecDepth 100000 in
set_option maxHeartbeats 8000000 in
theorem BlockOrder_3 {w : World} {k a b : Int} {A : Option Addr} {n c : Nat} (hn : n ≤ 9223372036854775807) (h0 : ¬ 20 < (n : Int)) (h1 : ¬ a < 0) (h2 : ¬ (n : Int) ≤ a) (h3 : b < 0) :
    Calls Try.prog 5 #[.int .i64 k, .slice A n c, .agg #[.int .i64 (a), .int .i64 (b)]] w fun e w' => e = .returned (.bool true) ∧ Below w.heap.size w w' := by
  have t0 : decide (20 < (n : Int)) = false := decide_eq_false (by omega)
  have u0 : decide (20 < n) = false := decide_eq_false (by omega)
  have t1 : decide (a < 0) = false := decide_eq_false (by omega)
  have t2 : decide ((n : Int) ≤ a) = false := decide_eq_false (by omega)
  have t3 : decide (b < 0) = true := decide_eq_true (by omega)
  clear h0 h1 h2 h3
  have cc := Below.refl w.heap.size w
  go_enter Try.func5, Try.ntmps5
  go_wp2_with fail
  have bA : Below w.heap.size w (w.alloc (.cells #[.int .i64 a, .int .i64 b] 48)) := ((Below.refl _ w).alloc (by simp) _)
  replace cc := cc.trans (bA.mono cc.size)
  clear bA
  have pa0 : (w.alloc (.cells #[.int .i64 a, .int .i64 b] 48)).cell? ⟨w.heap.size, 0, none⟩ = some (.int .i64 a) := by simp [go_sem]
  have pa1 : (w.alloc (.cells #[.int .i64 a, .int .i64 b] 48)).cell? ⟨w.heap.size, 1, none⟩ = some (.int .i64 b) := by simp [go_sem]
  have pal : w.heap.size < (w.alloc (.cells #[.int .i64 a, .int .i64 b] 48)).heap.size := by simp <;> omega
  generalize w.alloc (.cells #[.int .i64 a, .int .i64 b] 48) = v1 at *
  go_wp2_with fail
  refine (alive11_any _).mono ?_
  rintro e w2 ⟨rfl, b⟩
  replace pa0 := (b.cell (p := ⟨w.heap.size, 0, none⟩) pal).trans pa0
  replace pa1 := (b.cell (p := ⟨w.heap.size, 1, none⟩) pal).trans pa1
  replace pal := Nat.lt_of_lt_of_le pal b.size
  replace cc := cc.trans (b.mono cc.size)
  clear b
  go_wp2_with fail
  go_ret
  exact ⟨rfl, cc⟩

set_option maxRecDepth 100000 in
set_option maxHeartbeats 8000000 in
theorem BlockOrder_4 {w : World} {k a b : Int} {A : Option Addr} {n c : Nat} (hn : n ≤ 9223372036854775807) (h0 : ¬ 20 < (n : Int)) (h1 : ¬ a < 0) (h2 : ¬ (n : Int) ≤ a) (h3 : ¬ b < 0) (h4 : (n : Int) ≤ b) :
    Calls Try.prog 5 #[.int .i64 k, .slice A n c, .agg #[.int .i64 (a), .int .i64 (b)]] w fun e w' => e = .returned (.bool true) ∧ Below w.heap.size w w' := by
  have t0 : decide (20 < (n : Int)) = false := decide_eq_false (by omega)
  have u0 : decide (20 < n) = false := decide_eq_false (by omega)
  have t1 : decide (a < 0) = false := decide_eq_false (by omega)
  have t2 : decide ((n : Int) ≤ a) = false := decide_eq_false (by omega)
  have t3 : decide (b < 0) = false := decide_eq_false (by omega)
  have t4 : decide ((n : Int) ≤ b) = true := decide_eq_true (by omega)
  clear h0 h1 h2 h3 h4
  have cc := Below.refl w.heap.size w
  go_enter Try.func5, Try.ntmps5
  go_wp2_with fail
  have bA : Below w.heap.size w (w.alloc (.cells #[.int .i64 a, .int .i64 b] 48)) := ((Below.refl _ w).alloc (by simp) _)
  replace cc := cc.trans (bA.mono cc.size)
  clear bA
  have pa0 : (w.alloc (.cells #[.int .i64 a, .int .i64 b] 48)).cell? ⟨w.heap.size, 0, none⟩ = some (.int .i64 a) := by simp [go_sem]
  have pa1 : (w.alloc (.cells #[.int .i64 a, .int .i64 b] 48)).cell? ⟨w.heap.size, 1, none⟩ = some (.int .i64 b) := by simp [go_sem]
  have pal : w.heap.size < (w.alloc (.cells #[.int .i64 a, .int .i64 b] 48)).heap.size := by simp <;> omega
  generalize w.alloc (.cells #[.int .i64 a, .int .i64 b] 48) = v1 at *
  go_wp2_with fail
  refine (alive11_any _).mono ?_
  rintro e w2 ⟨rfl, b⟩
  replace pa0 := (b.cell (p := ⟨w.heap.size, 0, none⟩) pal).trans pa0
  replace pa1 := (b.cell (p := ⟨w.heap.size, 1, none⟩) pal).trans pa1
  replace pal := Nat.lt_of_lt_of_le pal b.size
  replace cc := cc.trans (b.mono cc.size)
  clear b
  go_wp2_with fail
  go_ret
  exact ⟨rfl, cc⟩

set_option maxRecDepth 100000 in
set_option maxHeartbeats 8000000 in
theorem BlockOrder_no {w : World} {k : Int} {A : Option Addr} {n c p q : Nat} {L : List Int} (hA : IR w A n c L) (h20 : n ≤ 20) (hp : p < n) (hq : q < n) (CP : ∀ {W : World}, IR W A n c L → Calls Try.prog 8 #[.int .i64 k, .slice A n c] W (GotBp W 0 0 [] [] 1)) :
    Calls Try.prog 5 #[.int .i64 k, .slice A n c, .agg #[.int .i64 ((p : Nat)), .int .i64 ((q : Nat))]] w fun e w' => e = .returned (.bool true) ∧ Below w.heap.size w w' := by
  have t0 : decide (20 < (n : Int)) = false := decide_eq_false (by omega)
  have u0 : decide (20 < n) = false := decide_eq_false (by omega)
  have t1 : decide ((p : Int) < 0) = false := decide_eq_false (by omega)
  have t2 : decide ((n : Int) ≤ (p : Int)) = false := decide_eq_false (by omega)
  have t3 : decide ((q : Int) < 0) = false := decide_eq_false (by omega)
  have t4 : decide ((n : Int) ≤ (q : Int)) = false := decide_eq_false (by omega)
  have u2 : decide (n ≤ p) = false := decide_eq_false (by omega)
  have u4 : decide (n ≤ q) = false := decide_eq_false (by omega)
  have pn : (p : Int) < (n : Int) := by omega
  have qn : (q : Int) < (n : Int) := by omega
  have cc := Below.refl w.heap.size w
  go_enter Try.func5, Try.ntmps5
  go_wp2_with fail
  have bA : Below w.heap.size w (w.alloc (.cells #[.int .i64 (p : Int), .int .i64 (q : Int)] 48)) := ((Below.refl _ w).alloc (by simp) _)
  replace hA := hA.on bA
  replace cc := cc.trans (bA.mono cc.size)
  clear bA
  have pa0 : (w.alloc (.cells #[.int .i64 (p : Int), .int .i64 (q : Int)] 48)).cell? ⟨w.heap.size, 0, none⟩ = some (.int .i64 (p : Int)) := by simp [go_sem]
  have pa1 : (w.alloc (.cells #[.int .i64 (p : Int), .int .i64 (q : Int)] 48)).cell? ⟨w.heap.size, 1, none⟩ = some (.int .i64 (q : Int)) := by simp [go_sem]
  have pal : w.heap.size < (w.alloc (.cells #[.int .i64 (p : Int), .int .i64 (q : Int)] 48)).heap.size := by simp <;> omega
  generalize w.alloc (.cells #[.int .i64 (p : Int), .int .i64 (q : Int)] 48) = v1 at *
  go_wp2_with fail
  refine (CP hA).mono ?_
  rintro e w2 ⟨Ax, nx, cx, Bx, mx, dx, rfl, hCx, hWx, b⟩
  replace hA := hA.on b
  replace pa0 := (b.cell (p := ⟨w.heap.size, 0, none⟩) pal).trans pa0
  replace pa1 := (b.cell (p := ⟨w.heap.size, 1, none⟩) pal).trans pa1
  replace pal := Nat.lt_of_lt_of_le pal b.size
  replace cc := cc.trans (b.mono cc.size)
  clear b
  go_wp2_with fail
  have bA := below_one w2 (.cells #[.int .i64 0, .int .i64 0, .slice Ax nx cx, .slice Bx mx dx] 26)
  replace hA := hA.on bA
  replace hCx := hCx.on bA
  replace hWx := hWx.on bA
  replace pa0 := (bA.cell (p := ⟨w.heap.size, 0, none⟩) pal).trans pa0
  replace pa1 := (bA.cell (p := ⟨w.heap.size, 1, none⟩) pal).trans pa1
  replace pal := Nat.lt_of_lt_of_le pal bA.size
  replace cc := cc.trans (bA.mono cc.size)
  clear bA
  have bx0 : (w2.alloc (.cells #[.int .i64 0, .int .i64 0, .slice Ax nx cx, .slice Bx mx dx] 26)).cell? ⟨w2.heap.size, 0, none⟩ = some (.int .i64 0) := by simp [go_sem]
  have bx1 : (w2.alloc (.cells #[.int .i64 0, .int .i64 0, .slice Ax nx cx, .slice Bx mx dx] 26)).cell? ⟨w2.heap.size, 1, none⟩ = some (.int .i64 0) := by simp [go_sem]
  have bx2 : (w2.alloc (.cells #[.int .i64 0, .int .i64 0, .slice Ax nx cx, .slice Bx mx dx] 26)).cell? ⟨w2.heap.size, 2, none⟩ = some (.slice Ax nx cx) := by simp [go_sem]
  have bx3 : (w2.alloc (.cells #[.int .i64 0, .int .i64 0, .slice Ax nx cx, .slice Bx mx dx] 26)).cell? ⟨w2.heap.size, 3, none⟩ = some (.slice Bx mx dx) := by simp [go_sem]
  have bxl : w2.heap.size < (w2.alloc (.cells #[.int .i64 0, .int .i64 0, .slice Ax nx cx, .slice Bx mx dx] 26)).heap.size := by simp
  generalize w2.alloc (.cells #[.int .i64 0, .int .i64 0, .slice Ax nx cx, .slice Bx mx dx] 26) = v3 at *
  go_wp2_with fail
  have bD : Below v3.heap.size v3 v3.drew := below_drewN (Below.refl _ v3) 1
  replace hA := hA.on bD
  replace hCx := hCx.on bD
  replace hWx := hWx.on bD
  replace pa0 := (bD.cell (p := ⟨w.heap.size, 0, none⟩) pal).trans pa0
  replace pa1 := (bD.cell (p := ⟨w.heap.size, 1, none⟩) pal).trans pa1
  replace pal := Nat.lt_of_lt_of_le pal bD.size
  replace bx0 := (bD.cell (p := ⟨w2.heap.size, 0, none⟩) bxl).trans bx0
  replace bx1 := (bD.cell (p := ⟨w2.heap.size, 1, none⟩) bxl).trans bx1
  replace bx2 := (bD.cell (p := ⟨w2.heap.size, 2, none⟩) bxl).trans bx2
  replace bx3 := (bD.cell (p := ⟨w2.heap.size, 3, none⟩) bxl).trans bx3
  replace bxl := Nat.lt_of_lt_of_le bxl bD.size
  replace cc := cc.trans (bD.mono cc.size)
  clear bD
  refine wp_region_held_drew (S := fun w' => w'.cell? ⟨w.heap.size, 0, none⟩ = some (.int .i64 (p : Int)) ∧ w'.cell? ⟨w.heap.size, 1, none⟩ = some (.int .i64 (q : Int)) ∧ w'.cell? ⟨w2.heap.size, 0, none⟩ = some (.int .i64 0) ∧ w'.cell? ⟨w2.heap.size, 1, none⟩ = some (.int .i64 0) ∧ w'.cell? ⟨w2.heap.size, 2, none⟩ = some (.slice Ax nx cx) ∧ w'.cell? ⟨w2.heap.size, 3, none⟩ = some (.slice Bx mx dx)) (by kernel_rfl) ?_ (fun hHeld => ?_)
  · exact ⟨pa0, pa1, bx0, bx1, bx2, bx3⟩
  refine wpAnyH_take (i := 0) (v := ?_) rfl (by kernel_rfl) (by kernel_rfl) (by kernel_rfl) (fun _ _ _ h => h) (Or.inl ⟨by rfl, ?_⟩) hHeld ?_
  rotate_left
  · (intro w hSw; (try dsimp only at hSw); go_simp; (try with_reducible rfl))
  try simp only [Act.put, List.getElem_toArray, List.getElem_cons_zero, List.getElem_cons_succ, List.setIfInBounds_toArray, List.set_cons_zero, List.set_cons_succ]
  refine wpAnyH_take (i := 1) (v := ?_) rfl (by kernel_rfl) (by kernel_rfl) (by kernel_rfl) (fun _ _ _ h => h) (Or.inl ⟨by rfl, ?_⟩) hHeld ?_
  rotate_left
  · (intro w hSw; (try dsimp only at hSw); go_simp; (try with_reducible rfl))
  try simp only [Act.put, List.getElem_toArray, List.getElem_cons_zero, List.getElem_cons_succ, List.setIfInBounds_toArray, List.set_cons_zero, List.set_cons_succ]
  refine wpAnyH_take (i := 2) (v := ?_) rfl (by kernel_rfl) (by kernel_rfl) (by kernel_rfl) (fun _ _ _ h => h) (Or.inl ⟨by rfl, ?_⟩) hHeld ?_
  rotate_left
  · (intro w hSw; (try dsimp only at hSw); go_simp; (try with_reducible rfl))
  try simp only [Act.put, List.getElem_toArray, List.getElem_cons_zero, List.getElem_cons_succ, List.setIfInBounds_toArray, List.set_cons_zero, List.set_cons_succ]
  refine wpAnyH_take (i := 3) (v := undef) rfl (by kernel_rfl) (by kernel_rfl) (by kernel_rfl) (fun _ _ _ h => h) (Or.inr ⟨by rfl, rfl⟩) hHeld ?_
  try simp only [Act.put, List.getElem_toArray, List.getElem_cons_zero, List.getElem_cons_succ, List.setIfInBounds_toArray, List.set_cons_zero, List.set_cons_succ]
  refine wpAnyH_take (i := 4) (v := undef) rfl (by kernel_rfl) (by kernel_rfl) (by kernel_rfl) (fun _ _ _ h => h) (Or.inr ⟨by rfl, rfl⟩) hHeld ?_
  try simp only [Act.put, List.getElem_toArray, List.getElem_cons_zero, List.getElem_cons_succ, List.setIfInBounds_toArray, List.set_cons_zero, List.set_cons_succ]
  refine wpAnyH_take (i := 5) (v := undef) rfl (by kernel_rfl) (by kernel_rfl) (by kernel_rfl) (fun _ _ _ h => h) (Or.inr ⟨by rfl, rfl⟩) hHeld ?_
  try simp only [Act.put, List.getElem_toArray, List.getElem_cons_zero, List.getElem_cons_succ, List.setIfInBounds_toArray, List.set_cons_zero, List.set_cons_succ]
  refine wpAnyH_take (i := 6) (v := undef) rfl (by kernel_rfl) (by kernel_rfl) (by kernel_rfl) (fun _ _ _ h => h) (Or.inr ⟨by rfl, rfl⟩) hHeld ?_
  try simp only [Act.put, List.getElem_toArray, List.getElem_cons_zero, List.getElem_cons_succ, List.setIfInBounds_toArray, List.set_cons_zero, List.set_cons_succ]
  refine wpAnyH_take (i := 7) (v := undef) rfl (by kernel_rfl) (by kernel_rfl) (by kernel_rfl) (fun _ _ _ h => h) (Or.inr ⟨by rfl, rfl⟩) hHeld ?_
  try simp only [Act.put, List.getElem_toArray, List.getElem_cons_zero, List.getElem_cons_succ, List.setIfInBounds_toArray, List.set_cons_zero, List.set_cons_succ]
  refine wpAnyH_take (i := 8) (v := undef) rfl (by kernel_rfl) (by kernel_rfl) (by kernel_rfl) (fun _ _ _ h => h) (Or.inr ⟨by rfl, rfl⟩) hHeld ?_
  try simp only [Act.put, List.getElem_toArray, List.getElem_cons_zero, List.getElem_cons_succ, List.setIfInBounds_toArray, List.set_cons_zero, List.set_cons_succ]
  refine wpAnyH_take (i := 9) (v := undef) rfl (by kernel_rfl) (by kernel_rfl) (by kernel_rfl) (fun _ _ _ h => h) (Or.inr ⟨by rfl, rfl⟩) hHeld ?_
  try simp only [Act.put, List.getElem_toArray, List.getElem_cons_zero, List.getElem_cons_succ, List.setIfInBounds_toArray, List.set_cons_zero, List.set_cons_succ]
  refine wpAnyH_take (i := 10) (v := undef) rfl (by kernel_rfl) (by kernel_rfl) (by kernel_rfl) (fun _ _ _ h => h) (Or.inr ⟨by rfl, rfl⟩) hHeld ?_
  try simp only [Act.put, List.getElem_toArray, List.getElem_cons_zero, List.getElem_cons_succ, List.setIfInBounds_toArray, List.set_cons_zero, List.set_cons_succ]
  refine wpAnyH_take (i := 11) (v := undef) rfl (by kernel_rfl) (by kernel_rfl) (by kernel_rfl) (fun _ _ _ h => h) (Or.inr ⟨by rfl, rfl⟩) hHeld ?_
  try simp only [Act.put, List.getElem_toArray, List.getElem_cons_zero, List.getElem_cons_succ, List.setIfInBounds_toArray, List.set_cons_zero, List.set_cons_succ]
  refine wpAnyH_take (i := 12) (v := undef) rfl (by kernel_rfl) (by kernel_rfl) (by kernel_rfl) (fun _ _ _ h => h) (Or.inr ⟨by rfl, rfl⟩) hHeld ?_
  try simp only [Act.put, List.getElem_toArray, List.getElem_cons_zero, List.getElem_cons_succ, List.setIfInBounds_toArray, List.set_cons_zero, List.set_cons_succ]
  refine wpAnyH_take (i := 13) (v := undef) rfl (by kernel_rfl) (by kernel_rfl) (by kernel_rfl) (fun _ _ _ h => h) (Or.inr ⟨by rfl, rfl⟩) hHeld ?_
  try simp only [Act.put, List.getElem_toArray, List.getElem_cons_zero, List.getElem_cons_succ, List.setIfInBounds_toArray, List.set_cons_zero, List.set_cons_succ]
  refine wpAnyH_take (i := 14) (v := ?_) rfl (by kernel_rfl) (by kernel_rfl) (by kernel_rfl) (fun _ _ _ h => h) (Or.inl ⟨by rfl, ?_⟩) hHeld ?_
  rotate_left
  · (intro w hSw; (try dsimp only at hSw); go_simp; (try with_reducible rfl))
  try simp only [Act.put, List.getElem_toArray, List.getElem_cons_zero, List.getElem_cons_succ, List.setIfInBounds_toArray, List.set_cons_zero, List.set_cons_succ]
  refine wpAnyH_done (by kernel_rfl) ?_ _
  clear hHeld
  go_wp2_with fail
  refine (alive11_any _).mono ?_
  rintro e w4 ⟨rfl, b⟩
  replace hA := hA.on b
  replace hCx := hCx.on b
  replace hWx := hWx.on b
  replace pa0 := (b.cell (p := ⟨w.heap.size, 0, none⟩) pal).trans pa0
  replace pa1 := (b.cell (p := ⟨w.heap.size, 1, none⟩) pal).trans pa1
  replace pal := Nat.lt_of_lt_of_le pal b.size
  replace bx0 := (b.cell (p := ⟨w2.heap.size, 0, none⟩) bxl).trans bx0
  replace bx1 := (b.cell (p := ⟨w2.heap.size, 1, none⟩) bxl).trans bx1
  replace bx2 := (b.cell (p := ⟨w2.heap.size, 2, none⟩) bxl).trans bx2
  replace bx3 := (b.cell (p := ⟨w2.heap.size, 3, none⟩) bxl).trans bx3
  replace bxl := Nat.lt_of_lt_of_le bxl b.size
  replace cc := cc.trans (b.mono cc.size)
  clear b
  go_wp2_with fail
  go_ret
  exact ⟨rfl, cc⟩

set_option maxRecDepth 100000 in
set_option maxHeartbeats 8000000 in
theorem BlockOrder_gt {w : World} {k : Int} {A : Option Addr} {n c p q : Nat} {L : List Int} (hA : IR w A n c L) (h20 : n ≤ 20) (hp : p < n) (hq : q < n) {S : Int} {CC : List Nat} {E : List Int} (hxy : L[q]?.getD 0 < L[p]?.getD 0) (CP : ∀ {W : World}, IR W A n c L → Calls Try.prog 8 #[.int .i64 k, .slice A n c] W (GotBp W k S CC E 0)) :
    Calls Try.prog 5 #[.int .i64 k, .slice A n c, .agg #[.int .i64 ((p : Nat)), .int .i64 ((q : Nat))]] w fun e w' => e = .returned (.bool true) ∧ Below w.heap.size w w' := by
  have t0 : decide (20 < (n : Int)) = false := decide_eq_false (by omega)
  have u0 : decide (20 < n) = false := decide_eq_false (by omega)
  have t1 : decide ((p : Int) < 0) = false := decide_eq_false (by omega)
  have t2 : decide ((n : Int) ≤ (p : Int)) = false := decide_eq_false (by omega)
  have t3 : decide ((q : Int) < 0) = false := decide_eq_false (by omega)
  have t4 : decide ((n : Int) ≤ (q : Int)) = false := decide_eq_false (by omega)
  have u2 : decide (n ≤ p) = false := decide_eq_false (by omega)
  have u4 : decide (n ≤ q) = false := decide_eq_false (by omega)
  have pn : (p : Int) < (n : Int) := by omega
  have qn : (q : Int) < (n : Int) := by omega
  obtain ⟨x, hx⟩ : ∃ x, L[p]?.getD 0 = x := ⟨_, rfl⟩
  obtain ⟨y, hy⟩ : ∃ y, L[q]?.getD 0 = y := ⟨_, rfl⟩
  rw [hx, hy] at hxy
  have t5 : decide (y < x) = true := decide_eq_true (by omega)
  have HX := Lib.hid hx
  have HY := Lib.hid hy
  clear hx hy hxy
  have cc := Below.refl w.heap.size w
  go_enter Try.func5, Try.ntmps5
  go_wp2_with fail
  have bA : Below w.heap.size w (w.alloc (.cells #[.int .i64 (p : Int), .int .i64 (q : Int)] 48)) := ((Below.refl _ w).alloc (by simp) _)
  replace hA := hA.on bA
  replace cc := cc.trans (bA.mono cc.size)
  clear bA
  have pa0 : (w.alloc (.cells #[.int .i64 (p : Int), .int .i64 (q : Int)] 48)).cell? ⟨w.heap.size, 0, none⟩ = some (.int .i64 (p : Int)) := by simp [go_sem]
  have pa1 : (w.alloc (.cells #[.int .i64 (p : Int), .int .i64 (q : Int)] 48)).cell? ⟨w.heap.size, 1, none⟩ = some (.int .i64 (q : Int)) := by simp [go_sem]
  have pal : w.heap.size < (w.alloc (.cells #[.int .i64 (p : Int), .int .i64 (q : Int)] 48)).heap.size := by simp <;> omega
  generalize w.alloc (.cells #[.int .i64 (p : Int), .int .i64 (q : Int)] 48) = v1 at *
  go_wp2_with fail
  refine (CP hA).mono ?_
  rintro e w2 ⟨Ax, nx, cx, Bx, mx, dx, rfl, hCx, hWx, b⟩
  replace hA := hA.on b
  replace pa0 := (b.cell (p := ⟨w.heap.size, 0, none⟩) pal).trans pa0
  replace pa1 := (b.cell (p := ⟨w.heap.size, 1, none⟩) pal).trans pa1
  replace pal := Nat.lt_of_lt_of_le pal b.size
  replace cc := cc.trans (b.mono cc.size)
  clear b
  go_wp2_with fail
  have bA := below_one w2 (.cells #[.int .i64 k, .int .i64 S, .slice Ax nx cx, .slice Bx mx dx] 26)
  replace hA := hA.on bA
  replace hCx := hCx.on bA
  replace hWx := hWx.on bA
  replace pa0 := (bA.cell (p := ⟨w.heap.size, 0, none⟩) pal).trans pa0
  replace pa1 := (bA.cell (p := ⟨w.heap.size, 1, none⟩) pal).trans pa1
  replace pal := Nat.lt_of_lt_of_le pal bA.size
  replace cc := cc.trans (bA.mono cc.size)
  clear bA
  have bx0 : (w2.alloc (.cells #[.int .i64 k, .int .i64 S, .slice Ax nx cx, .slice Bx mx dx] 26)).cell? ⟨w2.heap.size, 0, none⟩ = some (.int .i64 k) := by simp [go_sem]
  have bx1 : (w2.alloc (.cells #[.int .i64 k, .int .i64 S, .slice Ax nx cx, .slice Bx mx dx] 26)).cell? ⟨w2.heap.size, 1, none⟩ = some (.int .i64 S) := by simp [go_sem]
  have bx2 : (w2.alloc (.cells #[.int .i64 k, .int .i64 S, .slice Ax nx cx, .slice Bx mx dx] 26)).cell? ⟨w2.heap.size, 2, none⟩ = some (.slice Ax nx cx) := by simp [go_sem]
  have bx3 : (w2.alloc (.cells #[.int .i64 k, .int .i64 S, .slice Ax nx cx, .slice Bx mx dx] 26)).cell? ⟨w2.heap.size, 3, none⟩ = some (.slice Bx mx dx) := by simp [go_sem]
  have bxl : w2.heap.size < (w2.alloc (.cells #[.int .i64 k, .int .i64 S, .slice Ax nx cx, .slice Bx mx dx] 26)).heap.size := by simp
  generalize w2.alloc (.cells #[.int .i64 k, .int .i64 S, .slice Ax nx cx, .slice Bx mx dx] 26) = v3 at *
  obtain ⟨bl, ol_, rfl, hbl⟩ := hA.some (by omega)
  have ep := hA.cell hp
  have eq_ := hA.cell hq
  rw [HX.out] at ep
  rw [HY.out] at eq_
  go_wp2_with fail
  have bD : Below v3.heap.size v3 v3.drew := below_drewN (Below.refl _ v3) 1
  replace ep := (bD.cell (p := ⟨bl, ol_ + p, none⟩) hbl).trans ep
  replace eq_ := (bD.cell (p := ⟨bl, ol_ + q, none⟩) hbl).trans eq_
  replace hbl := Nat.lt_of_lt_of_le hbl bD.size
  replace hA := hA.on bD
  replace hCx := hCx.on bD
  replace hWx := hWx.on bD
  replace pa0 := (bD.cell (p := ⟨w.heap.size, 0, none⟩) pal).trans pa0
  replace pa1 := (bD.cell (p := ⟨w.heap.size, 1, none⟩) pal).trans pa1
  replace pal := Nat.lt_of_lt_of_le pal bD.size
  replace bx0 := (bD.cell (p := ⟨w2.heap.size, 0, none⟩) bxl).trans bx0
  replace bx1 := (bD.cell (p := ⟨w2.heap.size, 1, none⟩) bxl).trans bx1
  replace bx2 := (bD.cell (p := ⟨w2.heap.size, 2, none⟩) bxl).trans bx2
  replace bx3 := (bD.cell (p := ⟨w2.heap.size, 3, none⟩) bxl).trans bx3
  replace bxl := Nat.lt_of_lt_of_le bxl bD.size
  replace cc := cc.trans (bD.mono cc.size)
  clear bD
  refine wp_region_held_drew (S := fun w' => w'.cell? ⟨bl, ol_ + p, none⟩ = some (.int .i64 x) ∧ w'.cell? ⟨bl, ol_ + q, none⟩ = some (.int .i64 y) ∧ w'.cell? ⟨w.heap.size, 0, none⟩ = some (.int .i64 (p : Int)) ∧ w'.cell? ⟨w.heap.size, 1, none⟩ = some (.int .i64 (q : Int)) ∧ w'.cell? ⟨w2.heap.size, 0, none⟩ = some (.int .i64 k) ∧ w'.cell? ⟨w2.heap.size, 1, none⟩ = some (.int .i64 S) ∧ w'.cell? ⟨w2.heap.size, 2, none⟩ = some (.slice Ax nx cx) ∧ w'.cell? ⟨w2.heap.size, 3, none⟩ = some (.slice Bx mx dx)) (by kernel_rfl) ?_ (fun hHeld => ?_)
  · exact ⟨ep, eq_, pa0, pa1, bx0, bx1, bx2, bx3⟩
  refine wpAnyH_take (i := 0) (v := ?_) rfl (by kernel_rfl) (by kernel_rfl) (by kernel_rfl) (fun _ _ _ h => h) (Or.inl ⟨by rfl, ?_⟩) hHeld ?_
  rotate_left
  · (intro w hSw; (try dsimp only at hSw); go_simp; (try with_reducible rfl))
  try simp only [Act.put, List.getElem_toArray, List.getElem_cons_zero, List.getElem_cons_succ, List.setIfInBounds_toArray, List.set_cons_zero, List.set_cons_succ]
  refine wpAnyH_take (i := 1) (v := ?_) rfl (by kernel_rfl) (by kernel_rfl) (by kernel_rfl) (fun _ _ _ h => h) (Or.inl ⟨by rfl, ?_⟩) hHeld ?_
  rotate_left
  · (intro w hSw; (try dsimp only at hSw); go_simp; (try with_reducible rfl))
  try simp only [Act.put, List.getElem_toArray, List.getElem_cons_zero, List.getElem_cons_succ, List.setIfInBounds_toArray, List.set_cons_zero, List.set_cons_succ]
  refine wpAnyH_take (i := 2) (v := ?_) rfl (by kernel_rfl) (by kernel_rfl) (by kernel_rfl) (fun _ _ _ h => h) (Or.inl ⟨by rfl, ?_⟩) hHeld ?_
  rotate_left
  · (intro w hSw; (try dsimp only at hSw); go_simp; (try with_reducible rfl))
  try simp only [Act.put, List.getElem_toArray, List.getElem_cons_zero, List.getElem_cons_succ, List.setIfInBounds_toArray, List.set_cons_zero, List.set_cons_succ]
  refine wpAnyH_take (i := 3) (v := ?_) rfl (by kernel_rfl) (by kernel_rfl) (by kernel_rfl) (fun _ _ _ h => h) (Or.inl ⟨by rfl, ?_⟩) hHeld ?_
  rotate_left
  · (intro w hSw; (try dsimp only at hSw); go_simp; (try with_reducible rfl))
  try simp only [Act.put, List.getElem_toArray, List.getElem_cons_zero, List.getElem_cons_succ, List.setIfInBounds_toArray, List.set_cons_zero, List.set_cons_succ]
  refine wpAnyH_take (i := 4) (v := ?_) rfl (by kernel_rfl) (by kernel_rfl) (by kernel_rfl) (fun _ _ _ h => h) (Or.inl ⟨by rfl, ?_⟩) hHeld ?_
  rotate_left
  · (intro w hSw; (try dsimp only at hSw); go_simp; (try with_reducible rfl))
  try simp only [Act.put, List.getElem_toArray, List.getElem_cons_zero, List.getElem_cons_succ, List.setIfInBounds_toArray, List.set_cons_zero, List.set_cons_succ]
  refine wpAnyH_take (i := 5) (v := ?_) rfl (by kernel_rfl) (by kernel_rfl) (by kernel_rfl) (fun _ _ _ h => h) (Or.inl ⟨by rfl, ?_⟩) hHeld ?_
  rotate_left
  · (intro w hSw; (try dsimp only at hSw); go_simp; (try with_reducible rfl))
  try simp only [Act.put, List.getElem_toArray, List.getElem_cons_zero, List.getElem_cons_succ, List.setIfInBounds_toArray, List.set_cons_zero, List.set_cons_succ]
  refine wpAnyH_take (i := 6) (v := ?_) rfl (by kernel_rfl) (by kernel_rfl) (by kernel_rfl) (fun _ _ _ h => h) (Or.inl ⟨by rfl, ?_⟩) hHeld ?_
  rotate_left
  · (intro w hSw; (try dsimp only at hSw); go_simp; (try with_reducible rfl))
  try simp only [Act.put, List.getElem_toArray, List.getElem_cons_zero, List.getElem_cons_succ, List.setIfInBounds_toArray, List.set_cons_zero, List.set_cons_succ]
  refine wpAnyH_take (i := 7) (v := ?_) rfl (by kernel_rfl) (by kernel_rfl) (by kernel_rfl) (fun _ _ _ h => h) (Or.inl ⟨by rfl, ?_⟩) hHeld ?_
  rotate_left
  · (intro w hSw; (try dsimp only at hSw); go_simp; (try with_reducible rfl))
  try simp only [Act.put, List.getElem_toArray, List.getElem_cons_zero, List.getElem_cons_succ, List.setIfInBounds_toArray, List.set_cons_zero, List.set_cons_succ]
  refine wpAnyH_take (i := 8) (v := ?_) rfl (by kernel_rfl) (by kernel_rfl) (by kernel_rfl) (fun _ _ _ h => h) (Or.inl ⟨by rfl, ?_⟩) hHeld ?_
  rotate_left
  · (intro w hSw; (try dsimp only at hSw); go_simp; (try with_reducible rfl))
  try simp only [Act.put, List.getElem_toArray, List.getElem_cons_zero, List.getElem_cons_succ, List.setIfInBounds_toArray, List.set_cons_zero, List.set_cons_succ]
  refine wpAnyH_take (i := 9) (v := ?_) rfl (by kernel_rfl) (by kernel_rfl) (by kernel_rfl) (fun _ _ _ h => h) (Or.inl ⟨by rfl, ?_⟩) hHeld ?_
  rotate_left
  · (intro w hSw; (try dsimp only at hSw); go_simp; (try with_reducible rfl))
  try simp only [Act.put, List.getElem_toArray, List.getElem_cons_zero, List.getElem_cons_succ, List.setIfInBounds_toArray, List.set_cons_zero, List.set_cons_succ]
  refine wpAnyH_take (i := 10) (v := ?_) rfl (by kernel_rfl) (by kernel_rfl) (by kernel_rfl) (fun _ _ _ h => h) (Or.inl ⟨by rfl, ?_⟩) hHeld ?_
  rotate_left
  · (intro w hSw; (try dsimp only at hSw); go_simp; (try with_reducible rfl))
  try simp only [Act.put, List.getElem_toArray, List.getElem_cons_zero, List.getElem_cons_succ, List.setIfInBounds_toArray, List.set_cons_zero, List.set_cons_succ]
  refine wpAnyH_take (i := 11) (v := ?_) rfl (by kernel_rfl) (by kernel_rfl) (by kernel_rfl) (fun _ _ _ h => h) (Or.inl ⟨by rfl, ?_⟩) hHeld ?_
  rotate_left
  · (intro w hSw; (try dsimp only at hSw); go_simp; (try with_reducible rfl))
  try simp only [Act.put, List.getElem_toArray, List.getElem_cons_zero, List.getElem_cons_succ, List.setIfInBounds_toArray, List.set_cons_zero, List.set_cons_succ]
  refine wpAnyH_take (i := 12) (v := ?_) rfl (by kernel_rfl) (by kernel_rfl) (by kernel_rfl) (fun _ _ _ h => h) (Or.inl ⟨by rfl, ?_⟩) hHeld ?_
  rotate_left
  · (intro w hSw; (try dsimp only at hSw); go_simp; (try with_reducible rfl))
  try simp only [Act.put, List.getElem_toArray, List.getElem_cons_zero, List.getElem_cons_succ, List.setIfInBounds_toArray, List.set_cons_zero, List.set_cons_succ]
  refine wpAnyH_take (i := 13) (v := ?_) rfl (by kernel_rfl) (by kernel_rfl) (by kernel_rfl) (fun _ _ _ h => h) (Or.inl ⟨by rfl, ?_⟩) hHeld ?_
  rotate_left
  · (intro w hSw; (try dsimp only at hSw); go_simp; (try with_reducible rfl))
  try simp only [Act.put, List.getElem_toArray, List.getElem_cons_zero, List.getElem_cons_succ, List.setIfInBounds_toArray, List.set_cons_zero, List.set_cons_succ]
  refine wpAnyH_take (i := 14) (v := ?_) rfl (by kernel_rfl) (by kernel_rfl) (by kernel_rfl) (fun _ _ _ h => h) (Or.inl ⟨by rfl, ?_⟩) hHeld ?_
  rotate_left
  · (intro w hSw; (try dsimp only at hSw); go_simp; (try with_reducible rfl))
  try simp only [Act.put, List.getElem_toArray, List.getElem_cons_zero, List.getElem_cons_succ, List.setIfInBounds_toArray, List.set_cons_zero, List.set_cons_succ]
  refine wpAnyH_done (by kernel_rfl) ?_ _
  clear hHeld
  go_wp2_with fail
  refine (alive11_any _).mono ?_
  rintro e w4 ⟨rfl, b⟩
  replace ep := (b.cell (p := ⟨bl, ol_ + p, none⟩) hbl).trans ep
  replace eq_ := (b.cell (p := ⟨bl, ol_ + q, none⟩) hbl).trans eq_
  replace hbl := Nat.lt_of_lt_of_le hbl b.size
  replace hA := hA.on b
  replace hCx := hCx.on b
  replace hWx := hWx.on b
  replace pa0 := (b.cell (p := ⟨w.heap.size, 0, none⟩) pal).trans pa0
  replace pa1 := (b.cell (p := ⟨w.heap.size, 1, none⟩) pal).trans pa1
  replace pal := Nat.lt_of_lt_of_le pal b.size
  replace bx0 := (b.cell (p := ⟨w2.heap.size, 0, none⟩) bxl).trans bx0
  replace bx1 := (b.cell (p := ⟨w2.heap.size, 1, none⟩) bxl).trans bx1
  replace bx2 := (b.cell (p := ⟨w2.heap.size, 2, none⟩) bxl).trans bx2
  replace bx3 := (b.cell (p := ⟨w2.heap.size, 3, none⟩) bxl).trans bx3
  replace bxl := Nat.lt_of_lt_of_le bxl b.size
  replace cc := cc.trans (b.mono cc.size)
  clear b
  go_wp2_with fail
  go_ret
  exact ⟨rfl, cc⟩

set_option maxRecDepth 100000 in
set_option maxHeartbeats 8000000 in
theorem BlockOrder_w {w : World} {k : Int} {A : Option Addr} {n c p q : Nat} {L : List Int} (hA : IR w A n c L) (h20 : n ≤ 20) (hp : p < n) (hq : q < n) {S : Int} {CC : List Nat} {E M : List Int} (hxy : L[p]?.getD 0 ≤ L[q]?.getD 0) (hk : k = 4) (huv : M[p]?.getD 0 ≤ M[q]?.getD 0) (hM : M.length = L.length) (CP : ∀ {W : World}, IR W A n c L → Calls Try.prog 8 #[.int .i64 k, .slice A n c] W (GotBp W k S CC E 0)) (D0 : ∀ {W : World} {A B : Option Addr} {n c m d : Nat}, BR W A n c CC → IR W B m d E → Calls Try.prog 10 #[.agg #[.int .i64 k, .int .i64 S, .slice A n c, .slice B m d]] W (GotI W M)) :
    Calls Try.prog 5 #[.int .i64 k, .slice A n c, .agg #[.int .i64 ((p : Nat)), .int .i64 ((q : Nat))]] w fun e w' => e = .returned (.bool true) ∧ Below w.heap.size w w' := by
  have t0 : decide (20 < (n : Int)) = false := decide_eq_false (by omega)
  have u0 : decide (20 < n) = false := decide_eq_false (by omega)
  have t1 : decide ((p : Int) < 0) = false := decide_eq_false (by omega)
  have t2 : decide ((n : Int) ≤ (p : Int)) = false := decide_eq_false (by omega)
  have t3 : decide ((q : Int) < 0) = false := decide_eq_false (by omega)
  have t4 : decide ((n : Int) ≤ (q : Int)) = false := decide_eq_false (by omega)
  have u2 : decide (n ≤ p) = false := decide_eq_false (by omega)
  have u4 : decide (n ≤ q) = false := decide_eq_false (by omega)
  have pn : (p : Int) < (n : Int) := by omega
  have qn : (q : Int) < (n : Int) := by omega
  obtain ⟨x, hx⟩ : ∃ x, L[p]?.getD 0 = x := ⟨_, rfl⟩
  obtain ⟨y, hy⟩ : ∃ y, L[q]?.getD 0 = y := ⟨_, rfl⟩
  rw [hx, hy] at hxy
  have t5 : decide (y < x) = false := decide_eq_false (by omega)
  have HX := Lib.hid hx
  have HY := Lib.hid hy
  clear hx hy hxy
  subst hk
  obtain ⟨u, hu⟩ : ∃ u, M[p]?.getD 0 = u := ⟨_, rfl⟩
  obtain ⟨v, hv⟩ : ∃ v, M[q]?.getD 0 = v := ⟨_, rfl⟩
  rw [hu, hv] at huv
  have t6 : decide (u ≤ v) = true := decide_eq_true huv
  have HU := Lib.hid hu
  have HVV := Lib.hid hv
  have HML := Lib.hid hM
  clear hu hv huv hM
  have cc := Below.refl w.heap.size w
  go_enter Try.func5, Try.ntmps5
  go_wp2_with fail
  have bA : Below w.heap.size w (w.alloc (.cells #[.int .i64 (p : Int), .int .i64 (q : Int)] 48)) := ((Below.refl _ w).alloc (by simp) _)
  replace hA := hA.on bA
  replace cc := cc.trans (bA.mono cc.size)
  clear bA
  have pa0 : (w.alloc (.cells #[.int .i64 (p : Int), .int .i64 (q : Int)] 48)).cell? ⟨w.heap.size, 0, none⟩ = some (.int .i64 (p : Int)) := by simp [go_sem]
  have pa1 : (w.alloc (.cells #[.int .i64 (p : Int), .int .i64 (q : Int)] 48)).cell? ⟨w.heap.size, 1, none⟩ = some (.int .i64 (q : Int)) := by simp [go_sem]
  have pal : w.heap.size < (w.alloc (.cells #[.int .i64 (p : Int), .int .i64 (q : Int)] 48)).heap.size := by simp <;> omega
  generalize w.alloc (.cells #[.int .i64 (p : Int), .int .i64 (q : Int)] 48) = v1 at *
  go_wp2_with fail
  refine (CP hA).mono ?_
  rintro e w2 ⟨Ax, nx, cx, Bx, mx, dx, rfl, hCx, hWx, b⟩
  replace hA := hA.on b
  replace pa0 := (b.cell (p := ⟨w.heap.size, 0, none⟩) pal).trans pa0
  replace pa1 := (b.cell (p := ⟨w.heap.size, 1, none⟩) pal).trans pa1
  replace pal := Nat.lt_of_lt_of_le pal b.size
  replace cc := cc.trans (b.mono cc.size)
  clear b
  go_wp2_with fail
  have bA := below_one w2 (.cells #[.int .i64 4, .int .i64 S, .slice Ax nx cx, .slice Bx mx dx] 26)
  replace hA := hA.on bA
  replace hCx := hCx.on bA
  replace hWx := hWx.on bA
  replace pa0 := (bA.cell (p := ⟨w.heap.size, 0, none⟩) pal).trans pa0
  replace pa1 := (bA.cell (p := ⟨w.heap.size, 1, none⟩) pal).trans pa1
  replace pal := Nat.lt_of_lt_of_le pal bA.size
  replace cc := cc.trans (bA.mono cc.size)
  clear bA
  have bx0 : (w2.alloc (.cells #[.int .i64 4, .int .i64 S, .slice Ax nx cx, .slice Bx mx dx] 26)).cell? ⟨w2.heap.size, 0, none⟩ = some (.int .i64 4) := by simp [go_sem]
  have bx1 : (w2.alloc (.cells #[.int .i64 4, .int .i64 S, .slice Ax nx cx, .slice Bx mx dx] 26)).cell? ⟨w2.heap.size, 1, none⟩ = some (.int .i64 S) := by simp [go_sem]
  have bx2 : (w2.alloc (.cells #[.int .i64 4, .int .i64 S, .slice Ax nx cx, .slice Bx mx dx] 26)).cell? ⟨w2.heap.size, 2, none⟩ = some (.slice Ax nx cx) := by simp [go_sem]
  have bx3 : (w2.alloc (.cells #[.int .i64 4, .int .i64 S, .slice Ax nx cx, .slice Bx mx dx] 26)).cell? ⟨w2.heap.size, 3, none⟩ = some (.slice Bx mx dx) := by simp [go_sem]
  have bxl : w2.heap.size < (w2.alloc (.cells #[.int .i64 4, .int .i64 S, .slice Ax nx cx, .slice Bx mx dx] 26)).heap.size := by simp
  generalize w2.alloc (.cells #[.int .i64 4, .int .i64 S, .slice Ax nx cx, .slice Bx mx dx] 26) = v3 at *
  obtain ⟨bl, ol_, rfl, hbl⟩ := hA.some (by omega)
  have ep := hA.cell hp
  have eq_ := hA.cell hq
  rw [HX.out] at ep
  rw [HY.out] at eq_
  go_wp2_with fail
  have bD : Below v3.heap.size v3 v3.drew := below_drewN (Below.refl _ v3) 1
  replace ep := (bD.cell (p := ⟨bl, ol_ + p, none⟩) hbl).trans ep
  replace eq_ := (bD.cell (p := ⟨bl, ol_ + q, none⟩) hbl).trans eq_
  replace hbl := Nat.lt_of_lt_of_le hbl bD.size
  replace hA := hA.on bD
  replace hCx := hCx.on bD
  replace hWx := hWx.on bD
  replace pa0 := (bD.cell (p := ⟨w.heap.size, 0, none⟩) pal).trans pa0
  replace pa1 := (bD.cell (p := ⟨w.heap.size, 1, none⟩) pal).trans pa1
  replace pal := Nat.lt_of_lt_of_le pal bD.size
  replace bx0 := (bD.cell (p := ⟨w2.heap.size, 0, none⟩) bxl).trans bx0
  replace bx1 := (bD.cell (p := ⟨w2.heap.size, 1, none⟩) bxl).trans bx1
  replace bx2 := (bD.cell (p := ⟨w2.heap.size, 2, none⟩) bxl).trans bx2
  replace bx3 := (bD.cell (p := ⟨w2.heap.size, 3, none⟩) bxl).trans bx3
  replace bxl := Nat.lt_of_lt_of_le bxl bD.size
  replace cc := cc.trans (bD.mono cc.size)
  clear bD
  refine wp_region_held_drew (S := fun w' => w'.cell? ⟨bl, ol_ + p, none⟩ = some (.int .i64 x) ∧ w'.cell? ⟨bl, ol_ + q, none⟩ = some (.int .i64 y) ∧ w'.cell? ⟨w.heap.size, 0, none⟩ = some (.int .i64 (p : Int)) ∧ w'.cell? ⟨w.heap.size, 1, none⟩ = some (.int .i64 (q : Int)) ∧ w'.cell? ⟨w2.heap.size, 0, none⟩ = some (.int .i64 4) ∧ w'.cell? ⟨w2.heap.size, 1, none⟩ = some (.int .i64 S) ∧ w'.cell? ⟨w2.heap.size, 2, none⟩ = some (.slice Ax nx cx) ∧ w'.cell? ⟨w2.heap.size, 3, none⟩ = some (.slice Bx mx dx)) (by kernel_rfl) ?_ (fun hHeld => ?_)
  · exact ⟨ep, eq_, pa0, pa1, bx0, bx1, bx2, bx3⟩
  refine wpAnyH_take (i := 0) (v := ?_) rfl (by kernel_rfl) (by kernel_rfl) (by kernel_rfl) (fun _ _ _ h => h) (Or.inl ⟨by rfl, ?_⟩) hHeld ?_
  rotate_left
  · (intro w hSw; (try dsimp only at hSw); go_simp; (try with_reducible rfl))
  try simp only [Act.put, List.getElem_toArray, List.getElem_cons_zero, List.getElem_cons_succ, List.setIfInBounds_toArray, List.set_cons_zero, List.set_cons_succ]
  refine wpAnyH_take (i := 1) (v := ?_) rfl (by kernel_rfl) (by kernel_rfl) (by kernel_rfl) (fun _ _ _ h => h) (Or.inl ⟨by rfl, ?_⟩) hHeld ?_
  rotate_left
  · (intro w hSw; (try dsimp only at hSw); go_simp; (try with_reducible rfl))
  try simp only [Act.put, List.getElem_toArray, List.getElem_cons_zero, List.getElem_cons_succ, List.setIfInBounds_toArray, List.set_cons_zero, List.set_cons_succ]
  refine wpAnyH_take (i := 2) (v := ?_) rfl (by kernel_rfl) (by kernel_rfl) (by kernel_rfl) (fun _ _ _ h => h) (Or.inl ⟨by rfl, ?_⟩) hHeld ?_
  rotate_left
  · (intro w hSw; (try dsimp only at hSw); go_simp; (try with_reducible rfl))
  try simp only [Act.put, List.getElem_toArray, List.getElem_cons_zero, List.getElem_cons_succ, List.setIfInBounds_toArray, List.set_cons_zero, List.set_cons_succ]
  refine wpAnyH_take (i := 3) (v := ?_) rfl (by kernel_rfl) (by kernel_rfl) (by kernel_rfl) (fun _ _ _ h => h) (Or.inl ⟨by rfl, ?_⟩) hHeld ?_
  rotate_left
  · (intro w hSw; (try dsimp only at hSw); go_simp; (try with_reducible rfl))
  try simp only [Act.put, List.getElem_toArray, List.getElem_cons_zero, List.getElem_cons_succ, List.setIfInBounds_toArray, List.set_cons_zero, List.set_cons_succ]
  refine wpAnyH_take (i := 4) (v := ?_) rfl (by kernel_rfl) (by kernel_rfl) (by kernel_rfl) (fun _ _ _ h => h) (Or.inl ⟨by rfl, ?_⟩) hHeld ?_
  rotate_left
  · (intro w hSw; (try dsimp only at hSw); go_simp; (try with_reducible rfl))
  try simp only [Act.put, List.getElem_toArray, List.getElem_cons_zero, List.getElem_cons_succ, List.setIfInBounds_toArray, List.set_cons_zero, List.set_cons_succ]
  refine wpAnyH_take (i := 5) (v := ?_) rfl (by kernel_rfl) (by kernel_rfl) (by kernel_rfl) (fun _ _ _ h => h) (Or.inl ⟨by rfl, ?_⟩) hHeld ?_
  rotate_left
  · (intro w hSw; (try dsimp only at hSw); go_simp; (try with_reducible rfl))
  try simp only [Act.put, List.getElem_toArray, List.getElem_cons_zero, List.getElem_cons_succ, List.setIfInBounds_toArray, List.set_cons_zero, List.set_cons_succ]
  refine wpAnyH_take (i := 6) (v := ?_) rfl (by kernel_rfl) (by kernel_rfl) (by kernel_rfl) (fun _ _ _ h => h) (Or.inl ⟨by rfl, ?_⟩) hHeld ?_
  rotate_left
  · (intro w hSw; (try dsimp only at hSw); go_simp; (try with_reducible rfl))
  try simp only [Act.put, List.getElem_toArray, List.getElem_cons_zero, List.getElem_cons_succ, List.setIfInBounds_toArray, List.set_cons_zero, List.set_cons_succ]
  refine wpAnyH_take (i := 7) (v := ?_) rfl (by kernel_rfl) (by kernel_rfl) (by kernel_rfl) (fun _ _ _ h => h) (Or.inl ⟨by rfl, ?_⟩) hHeld ?_
  rotate_left
  · (intro w hSw; (try dsimp only at hSw); go_simp; (try with_reducible rfl))
  try simp only [Act.put, List.getElem_toArray, List.getElem_cons_zero, List.getElem_cons_succ, List.setIfInBounds_toArray, List.set_cons_zero, List.set_cons_succ]
  refine wpAnyH_take (i := 8) (v := ?_) rfl (by kernel_rfl) (by kernel_rfl) (by kernel_rfl) (fun _ _ _ h => h) (Or.inl ⟨by rfl, ?_⟩) hHeld ?_
  rotate_left
  · (intro w hSw; (try dsimp only at hSw); go_simp; (try with_reducible rfl))
  try simp only [Act.put, List.getElem_toArray, List.getElem_cons_zero, List.getElem_cons_succ, List.setIfInBounds_toArray, List.set_cons_zero, List.set_cons_succ]
  refine wpAnyH_take (i := 9) (v := ?_) rfl (by kernel_rfl) (by kernel_rfl) (by kernel_rfl) (fun _ _ _ h => h) (Or.inl ⟨by rfl, ?_⟩) hHeld ?_
  rotate_left
  · (intro w hSw; (try dsimp only at hSw); go_simp; (try with_reducible rfl))
  try simp only [Act.put, List.getElem_toArray, List.getElem_cons_zero, List.getElem_cons_succ, List.setIfInBounds_toArray, List.set_cons_zero, List.set_cons_succ]
  refine wpAnyH_take (i := 10) (v := ?_) rfl (by kernel_rfl) (by kernel_rfl) (by kernel_rfl) (fun _ _ _ h => h) (Or.inl ⟨by rfl, ?_⟩) hHeld ?_
  rotate_left
  · (intro w hSw; (try dsimp only at hSw); go_simp; (try with_reducible rfl))
  try simp only [Act.put, List.getElem_toArray, List.getElem_cons_zero, List.getElem_cons_succ, List.setIfInBounds_toArray, List.set_cons_zero, List.set_cons_succ]
  refine wpAnyH_take (i := 11) (v := ?_) rfl (by kernel_rfl) (by kernel_rfl) (by kernel_rfl) (fun _ _ _ h => h) (Or.inl ⟨by rfl, ?_⟩) hHeld ?_
  rotate_left
  · (intro w hSw; (try dsimp only at hSw); go_simp; (try with_reducible rfl))
  try simp only [Act.put, List.getElem_toArray, List.getElem_cons_zero, List.getElem_cons_succ, List.setIfInBounds_toArray, List.set_cons_zero, List.set_cons_succ]
  refine wpAnyH_take (i := 12) (v := ?_) rfl (by kernel_rfl) (by kernel_rfl) (by kernel_rfl) (fun _ _ _ h => h) (Or.inl ⟨by rfl, ?_⟩) hHeld ?_
  rotate_left
  · (intro w hSw; (try dsimp only at hSw); go_simp; (try with_reducible rfl))
  try simp only [Act.put, List.getElem_toArray, List.getElem_cons_zero, List.getElem_cons_succ, List.setIfInBounds_toArray, List.set_cons_zero, List.set_cons_succ]
  refine wpAnyH_take (i := 13) (v := ?_) rfl (by kernel_rfl) (by kernel_rfl) (by kernel_rfl) (fun _ _ _ h => h) (Or.inl ⟨by rfl, ?_⟩) hHeld ?_
  rotate_left
  · (intro w hSw; (try dsimp only at hSw); go_simp; (try with_reducible rfl))
  try simp only [Act.put, List.getElem_toArray, List.getElem_cons_zero, List.getElem_cons_succ, List.setIfInBounds_toArray, List.set_cons_zero, List.set_cons_succ]
  refine wpAnyH_take (i := 14) (v := ?_) rfl (by kernel_rfl) (by kernel_rfl) (by kernel_rfl) (fun _ _ _ h => h) (Or.inl ⟨by rfl, ?_⟩) hHeld ?_
  rotate_left
  · (intro w hSw; (try dsimp only at hSw); go_simp; (try with_reducible rfl))
  try simp only [Act.put, List.getElem_toArray, List.getElem_cons_zero, List.getElem_cons_succ, List.setIfInBounds_toArray, List.set_cons_zero, List.set_cons_succ]
  refine wpAnyH_done (by kernel_rfl) ?_ _
  clear hHeld
  clear ep eq_ hbl
  go_wp2_with fail
  refine (D0 hCx hWx).mono ?_
  rintro e w4 ⟨Az, nz, cz, rfl, hz, b⟩
  replace hA := hA.on b
  replace hCx := hCx.on b
  replace hWx := hWx.on b
  replace pa0 := (b.cell (p := ⟨w.heap.size, 0, none⟩) pal).trans pa0
  replace pa1 := (b.cell (p := ⟨w.heap.size, 1, none⟩) pal).trans pa1
  replace pal := Nat.lt_of_lt_of_le pal b.size
  replace bx0 := (b.cell (p := ⟨w2.heap.size, 0, none⟩) bxl).trans bx0
  replace bx1 := (b.cell (p := ⟨w2.heap.size, 1, none⟩) bxl).trans bx1
  replace bx2 := (b.cell (p := ⟨w2.heap.size, 2, none⟩) bxl).trans bx2
  replace bx3 := (b.cell (p := ⟨w2.heap.size, 3, none⟩) bxl).trans bx3
  replace bxl := Nat.lt_of_lt_of_le bxl b.size
  replace cc := cc.trans (b.mono cc.size)
  clear b
  have hzl := hz.1.trans HML.out
  have hAl := hA.1
  obtain rfl : nz = n := by omega
  clear hzl hAl
  obtain ⟨bz, oz, rfl, hbz⟩ := hz.some (by omega)
  have zp := hz.cell hp
  have zq := hz.cell hq
  rw [HU.out] at zp
  rw [HVV.out] at zq
  go_wp2_with fail
  have bD : Below w4.heap.size w4 w4.drew := below_drewN (Below.refl _ w4) 1
  replace zp := (bD.cell (p := ⟨bz, oz + p, none⟩) hbz).trans zp
  replace zq := (bD.cell (p := ⟨bz, oz + q, none⟩) hbz).trans zq
  replace hbz := Nat.lt_of_lt_of_le hbz bD.size
  replace hA := hA.on bD
  replace hCx := hCx.on bD
  replace hWx := hWx.on bD
  replace hz := hz.on bD
  replace pa0 := (bD.cell (p := ⟨w.heap.size, 0, none⟩) pal).trans pa0
  replace pa1 := (bD.cell (p := ⟨w.heap.size, 1, none⟩) pal).trans pa1
  replace pal := Nat.lt_of_lt_of_le pal bD.size
  replace bx0 := (bD.cell (p := ⟨w2.heap.size, 0, none⟩) bxl).trans bx0
  replace bx1 := (bD.cell (p := ⟨w2.heap.size, 1, none⟩) bxl).trans bx1
  replace bx2 := (bD.cell (p := ⟨w2.heap.size, 2, none⟩) bxl).trans bx2
  replace bx3 := (bD.cell (p := ⟨w2.heap.size, 3, none⟩) bxl).trans bx3
  replace bxl := Nat.lt_of_lt_of_le bxl bD.size
  replace cc := cc.trans (bD.mono cc.size)
  clear bD
  refine wp_region_held_drew (S := fun w' => w'.cell? ⟨bz, oz + p, none⟩ = some (.int .i64 u) ∧ w'.cell? ⟨bz, oz + q, none⟩ = some (.int .i64 v) ∧ w'.cell? ⟨w.heap.size, 0, none⟩ = some (.int .i64 (p : Int)) ∧ w'.cell? ⟨w.heap.size, 1, none⟩ = some (.int .i64 (q : Int)) ∧ w'.cell? ⟨w2.heap.size, 0, none⟩ = some (.int .i64 4) ∧ w'.cell? ⟨w2.heap.size, 1, none⟩ = some (.int .i64 S) ∧ w'.cell? ⟨w2.heap.size, 2, none⟩ = some (.slice Ax nx cx) ∧ w'.cell? ⟨w2.heap.size, 3, none⟩ = some (.slice Bx mx dx)) (by kernel_rfl) ?_ (fun hHeld => ?_)
  · exact ⟨zp, zq, pa0, pa1, bx0, bx1, bx2, bx3⟩
  refine wpAnyH_ready (rs := [0]) (by kernel_rfl) (by simp) ?_
  refine AllReadyH.cons rfl (fun K hK => ?_) AllReadyH.nil
  (try simp only [List.getElem_toArray, List.getElem_cons_zero, List.getElem_cons_succ])
  rw [if_pos (by rfl)]
  go_simp
  go_at_call 7
  refine (alive11_any _).mono ?_
  rintro e w5 ⟨rfl, b⟩
  replace zp := (b.cell (p := ⟨bz, oz + p, none⟩) hbz).trans zp
  replace zq := (b.cell (p := ⟨bz, oz + q, none⟩) hbz).trans zq
  replace hbz := Nat.lt_of_lt_of_le hbz b.size
  replace hA := hA.on b
  replace hCx := hCx.on b
  replace hWx := hWx.on b
  replace hz := hz.on b
  replace pa0 := (b.cell (p := ⟨w.heap.size, 0, none⟩) pal).trans pa0
  replace pa1 := (b.cell (p := ⟨w.heap.size, 1, none⟩) pal).trans pa1
  replace pal := Nat.lt_of_lt_of_le pal b.size
  replace bx0 := (b.cell (p := ⟨w2.heap.size, 0, none⟩) bxl).trans bx0
  replace bx1 := (b.cell (p := ⟨w2.heap.size, 1, none⟩) bxl).trans bx1
  replace bx2 := (b.cell (p := ⟨w2.heap.size, 2, none⟩) bxl).trans bx2
  replace bx3 := (b.cell (p := ⟨w2.heap.size, 3, none⟩) bxl).trans bx3
  replace bxl := Nat.lt_of_lt_of_le bxl b.size
  replace cc := cc.trans (b.mono cc.size)
  clear b
  refine hK.out _ _ ?_ (fun hHeld => ?_)
  · exact ⟨zp, zq, pa0, pa1, bx0, bx1, bx2, bx3⟩
  clear hK K
  try simp only [Act.put, List.getElem_toArray, List.getElem_cons_zero, List.getElem_cons_succ, List.setIfInBounds_toArray, List.set_cons_zero, List.set_cons_succ]
  refine wpAnyH_take (i := 1) (v := ?_) rfl (by kernel_rfl) (by kernel_rfl) (by kernel_rfl) (fun _ _ _ h => h) (Or.inl ⟨by rfl, ?_⟩) hHeld ?_
  rotate_left
  · (intro w hSw; (try dsimp only at hSw); go_simp; (try with_reducible rfl))
  try simp only [Act.put, List.getElem_toArray, List.getElem_cons_zero, List.getElem_cons_succ, List.setIfInBounds_toArray, List.set_cons_zero, List.set_cons_succ]
  refine wpAnyH_take (i := 2) (v := ?_) rfl (by kernel_rfl) (by kernel_rfl) (by kernel_rfl) (fun _ _ _ h => h) (Or.inl ⟨by rfl, ?_⟩) hHeld ?_
  rotate_left
  · (intro w hSw; (try dsimp only at hSw); go_simp; (try with_reducible rfl))
  try simp only [Act.put, List.getElem_toArray, List.getElem_cons_zero, List.getElem_cons_succ, List.setIfInBounds_toArray, List.set_cons_zero, List.set_cons_succ]
  refine wpAnyH_take (i := 3) (v := ?_) rfl (by kernel_rfl) (by kernel_rfl) (by kernel_rfl) (fun _ _ _ h => h) (Or.inl ⟨by rfl, ?_⟩) hHeld ?_
  rotate_left
  · (intro w hSw; (try dsimp only at hSw); go_simp; (try with_reducible rfl))
  try simp only [Act.put, List.getElem_toArray, List.getElem_cons_zero, List.getElem_cons_succ, List.setIfInBounds_toArray, List.set_cons_zero, List.set_cons_succ]
  refine wpAnyH_take (i := 4) (v := ?_) rfl (by kernel_rfl) (by kernel_rfl) (by kernel_rfl) (fun _ _ _ h => h) (Or.inl ⟨by rfl, ?_⟩) hHeld ?_
  rotate_left
  · (intro w hSw; (try dsimp only at hSw); go_simp; (try with_reducible rfl))
  try simp only [Act.put, List.getElem_toArray, List.getElem_cons_zero, List.getElem_cons_succ, List.setIfInBounds_toArray, List.set_cons_zero, List.set_cons_succ]
  refine wpAnyH_take (i := 5) (v := ?_) rfl (by kernel_rfl) (by kernel_rfl) (by kernel_rfl) (fun _ _ _ h => h) (Or.inl ⟨by rfl, ?_⟩) hHeld ?_
  rotate_left
  · (intro w hSw; (try dsimp only at hSw); go_simp; (try with_reducible rfl))
  try simp only [Act.put, List.getElem_toArray, List.getElem_cons_zero, List.getElem_cons_succ, List.setIfInBounds_toArray, List.set_cons_zero, List.set_cons_succ]
  refine wpAnyH_take (i := 6) (v := ?_) rfl (by kernel_rfl) (by kernel_rfl) (by kernel_rfl) (fun _ _ _ h => h) (Or.inl ⟨by rfl, ?_⟩) hHeld ?_
  rotate_left
  · (intro w hSw; (try dsimp only at hSw); go_simp; (try with_reducible rfl))
  try simp only [Act.put, List.getElem_toArray, List.getElem_cons_zero, List.getElem_cons_succ, List.setIfInBounds_toArray, List.set_cons_zero, List.set_cons_succ]
  refine wpAnyH_take (i := 7) (v := ?_) rfl (by kernel_rfl) (by kernel_rfl) (by kernel_rfl) (fun _ _ _ h => h) (Or.inl ⟨by rfl, ?_⟩) hHeld ?_
  rotate_left
  · (intro w hSw; (try dsimp only at hSw); go_simp; (try with_reducible rfl))
  try simp only [Act.put, List.getElem_toArray, List.getElem_cons_zero, List.getElem_cons_succ, List.setIfInBounds_toArray, List.set_cons_zero, List.set_cons_succ]
  refine wpAnyH_take (i := 8) (v := ?_) rfl (by kernel_rfl) (by kernel_rfl) (by kernel_rfl) (fun _ _ _ h => h) (Or.inl ⟨by rfl, ?_⟩) hHeld ?_
  rotate_left
  · (intro w hSw; (try dsimp only at hSw); go_simp; (try with_reducible rfl))
  try simp only [Act.put, List.getElem_toArray, List.getElem_cons_zero, List.getElem_cons_succ, List.setIfInBounds_toArray, List.set_cons_zero, List.set_cons_succ]
  refine wpAnyH_take (i := 9) (v := ?_) rfl (by kernel_rfl) (by kernel_rfl) (by kernel_rfl) (fun _ _ _ h => h) (Or.inl ⟨by rfl, ?_⟩) hHeld ?_
  rotate_left
  · (intro w hSw; (try dsimp only at hSw); go_simp; (try with_reducible rfl))
  try simp only [Act.put, List.getElem_toArray, List.getElem_cons_zero, List.getElem_cons_succ, List.setIfInBounds_toArray, List.set_cons_zero, List.set_cons_succ]
  refine wpAnyH_take (i := 10) (v := ?_) rfl (by kernel_rfl) (by kernel_rfl) (by kernel_rfl) (fun _ _ _ h => h) (Or.inl ⟨by rfl, ?_⟩) hHeld ?_
  rotate_left
  · (intro w hSw; (try dsimp only at hSw); go_simp; (try with_reducible rfl))
  try simp only [Act.put, List.getElem_toArray, List.getElem_cons_zero, List.getElem_cons_succ, List.setIfInBounds_toArray, List.set_cons_zero, List.set_cons_succ]
  refine wpAnyH_take (i := 11) (v := ?_) rfl (by kernel_rfl) (by kernel_rfl) (by kernel_rfl) (fun _ _ _ h => h) (Or.inl ⟨by rfl, ?_⟩) hHeld ?_
  rotate_left
  · (intro w hSw; (try dsimp only at hSw); go_simp; (try with_reducible rfl))
  try simp only [Act.put, List.getElem_toArray, List.getElem_cons_zero, List.getElem_cons_succ, List.setIfInBounds_toArray, List.set_cons_zero, List.set_cons_succ]
  refine wpAnyH_take (i := 12) (v := ?_) rfl (by kernel_rfl) (by kernel_rfl) (by kernel_rfl) (fun _ _ _ h => h) (Or.inl ⟨by rfl, ?_⟩) hHeld ?_
  rotate_left
  · (intro w hSw; (try dsimp only at hSw); go_simp; (try with_reducible rfl))
  try simp only [Act.put, List.getElem_toArray, List.getElem_cons_zero, List.getElem_cons_succ, List.setIfInBounds_toArray, List.set_cons_zero, List.set_cons_succ]
  refine wpAnyH_take (i := 13) (v := ?_) rfl (by kernel_rfl) (by kernel_rfl) (by kernel_rfl) (fun _ _ _ h => h) (Or.inl ⟨by rfl, ?_⟩) hHeld ?_
  rotate_left
  · (intro w hSw; (try dsimp only at hSw); go_simp; (try with_reducible rfl))
  try simp only [Act.put, List.getElem_toArray, List.getElem_cons_zero, List.getElem_cons_succ, List.setIfInBounds_toArray, List.set_cons_zero, List.set_cons_succ]
  refine wpAnyH_take (i := 14) (v := ?_) rfl (by kernel_rfl) (by kernel_rfl) (by kernel_rfl) (fun _ _ _ h => h) (Or.inl ⟨by rfl, ?_⟩) hHeld ?_
  rotate_left
  · (intro w hSw; (try dsimp only at hSw); go_simp; (try with_reducible rfl))
  try simp only [Act.put, List.getElem_toArray, List.getElem_cons_zero, List.getElem_cons_succ, List.setIfInBounds_toArray, List.set_cons_zero, List.set_cons_succ]
  refine wpAnyH_take (i := 15) (v := ?_) rfl (by kernel_rfl) (by kernel_rfl) (by kernel_rfl) (fun _ _ _ h => h) (Or.inl ⟨by rfl, ?_⟩) hHeld ?_
  rotate_left
  · (intro w hSw; (try dsimp only at hSw); go_simp; (try with_reducible rfl))
  try simp only [Act.put, List.getElem_toArray, List.getElem_cons_zero, List.getElem_cons_succ, List.setIfInBounds_toArray, List.set_cons_zero, List.set_cons_succ]
  refine wpAnyH_take (i := 16) (v := ?_) rfl (by kernel_rfl) (by kernel_rfl) (by kernel_rfl) (fun _ _ _ h => h) (Or.inl ⟨by rfl, ?_⟩) hHeld ?_
  rotate_left
  · (intro w hSw; (try dsimp only at hSw); go_simp; (try with_reducible rfl))
  try simp only [Act.put, List.getElem_toArray, List.getElem_cons_zero, List.getElem_cons_succ, List.setIfInBounds_toArray, List.set_cons_zero, List.set_cons_succ]
  refine wpAnyH_take (i := 17) (v := ?_) rfl (by kernel_rfl) (by kernel_rfl) (by kernel_rfl) (fun _ _ _ h => h) (Or.inl ⟨by rfl, ?_⟩) hHeld ?_
  rotate_left
  · (intro w hSw; (try dsimp only at hSw); go_simp; (try with_reducible rfl))
  try simp only [Act.put, List.getElem_toArray, List.getElem_cons_zero, List.getElem_cons_succ, List.setIfInBounds_toArray, List.set_cons_zero, List.set_cons_succ]
  refine wpAnyH_take (i := 18) (v := undef) rfl (by kernel_rfl) (by kernel_rfl) (by kernel_rfl) (fun _ _ _ h => h) (Or.inr ⟨by rfl, rfl⟩) hHeld ?_
  try simp only [Act.put, List.getElem_toArray, List.getElem_cons_zero, List.getElem_cons_succ, List.setIfInBounds_toArray, List.set_cons_zero, List.set_cons_succ]
  refine wpAnyH_take (i := 19) (v := undef) rfl (by kernel_rfl) (by kernel_rfl) (by kernel_rfl) (fun _ _ _ h => h) (Or.inr ⟨by rfl, rfl⟩) hHeld ?_
  try simp only [Act.put, List.getElem_toArray, List.getElem_cons_zero, List.getElem_cons_succ, List.setIfInBounds_toArray, List.set_cons_zero, List.set_cons_succ]
  refine wpAnyH_take (i := 20) (v := undef) rfl (by kernel_rfl) (by kernel_rfl) (by kernel_rfl) (fun _ _ _ h => h) (Or.inr ⟨by rfl, rfl⟩) hHeld ?_
  try simp only [Act.put, List.getElem_toArray, List.getElem_cons_zero, List.getElem_cons_succ, List.setIfInBounds_toArray, List.set_cons_zero, List.set_cons_succ]
  refine wpAnyH_take (i := 21) (v := undef) rfl (by kernel_rfl) (by kernel_rfl) (by kernel_rfl) (fun _ _ _ h => h) (Or.inr ⟨by rfl, rfl⟩) hHeld ?_
  try simp only [Act.put, List.getElem_toArray, List.getElem_cons_zero, List.getElem_cons_succ, List.setIfInBounds_toArray, List.set_cons_zero, List.set_cons_succ]
  refine wpAnyH_take (i := 22) (v := undef) rfl (by kernel_rfl) (by kernel_rfl) (by kernel_rfl) (fun _ _ _ h => h) (Or.inr ⟨by rfl, rfl⟩) hHeld ?_
  try simp only [Act.put, List.getElem_toArray, List.getElem_cons_zero, List.getElem_cons_succ, List.setIfInBounds_toArray, List.set_cons_zero, List.set_cons_succ]
  refine wpAnyH_take (i := 23) (v := undef) rfl (by kernel_rfl) (by kernel_rfl) (by kernel_rfl) (fun _ _ _ h => h) (Or.inr ⟨by rfl, rfl⟩) hHeld ?_
  try simp only [Act.put, List.getElem_toArray, List.getElem_cons_zero, List.getElem_cons_succ, List.setIfInBounds_toArray, List.set_cons_zero, List.set_cons_succ]
  refine wpAnyH_take (i := 24) (v := undef) rfl (by kernel_rfl) (by kernel_rfl) (by kernel_rfl) (fun _ _ _ h => h) (Or.inr ⟨by rfl, rfl⟩) hHeld ?_
  try simp only [Act.put, List.getElem_toArray, List.getElem_cons_zero, List.getElem_cons_succ, List.setIfInBounds_toArray, List.set_cons_zero, List.set_cons_succ]
  refine wpAnyH_take (i := 25) (v := undef) rfl (by kernel_rfl) (by kernel_rfl) (by kernel_rfl) (fun _ _ _ h => h) (Or.inr ⟨by rfl, rfl⟩) hHeld ?_
  try simp only [Act.put, List.getElem_toArray, List.getElem_cons_zero, List.getElem_cons_succ, List.setIfInBounds_toArray, List.set_cons_zero, List.set_cons_succ]
  refine wpAnyH_take (i := 26) (v := undef) rfl (by kernel_rfl) (by kernel_rfl) (by kernel_rfl) (fun _ _ _ h => h) (Or.inr ⟨by rfl, rfl⟩) hHeld ?_
  try simp only [Act.put, List.getElem_toArray, List.getElem_cons_zero, List.getElem_cons_succ, List.setIfInBounds_toArray, List.set_cons_zero, List.set_cons_succ]
  refine wpAnyH_take (i := 27) (v := undef) rfl (by kernel_rfl) (by kernel_rfl) (by kernel_rfl) (fun _ _ _ h => h) (Or.inr ⟨by rfl, rfl⟩) hHeld ?_
  try simp only [Act.put, List.getElem_toArray, List.getElem_cons_zero, List.getElem_cons_succ, List.setIfInBounds_toArray, List.set_cons_zero, List.set_cons_succ]
  refine wpAnyH_take (i := 28) (v := undef) rfl (by kernel_rfl) (by kernel_rfl) (by kernel_rfl) (fun _ _ _ h => h) (Or.inr ⟨by rfl, rfl⟩) hHeld ?_
  try simp only [Act.put, List.getElem_toArray, List.getElem_cons_zero, List.getElem_cons_succ, List.setIfInBounds_toArray, List.set_cons_zero, List.set_cons_succ]
  refine wpAnyH_take (i := 29) (v := undef) rfl (by kernel_rfl) (by kernel_rfl) (by kernel_rfl) (fun _ _ _ h => h) (Or.inr ⟨by rfl, rfl⟩) hHeld ?_
  try simp only [Act.put, List.getElem_toArray, List.getElem_cons_zero, List.getElem_cons_succ, List.setIfInBounds_toArray, List.set_cons_zero, List.set_cons_succ]
  refine wpAnyH_take (i := 30) (v := undef) rfl (by kernel_rfl) (by kernel_rfl) (by kernel_rfl) (fun _ _ _ h => h) (Or.inr ⟨by rfl, rfl⟩) hHeld ?_
  try simp only [Act.put, List.getElem_toArray, List.getElem_cons_zero, List.getElem_cons_succ, List.setIfInBounds_toArray, List.set_cons_zero, List.set_cons_succ]
  refine wpAnyH_take (i := 31) (v := undef) rfl (by kernel_rfl) (by kernel_rfl) (by kernel_rfl) (fun _ _ _ h => h) (Or.inr ⟨by rfl, rfl⟩) hHeld ?_
  try simp only [Act.put, List.getElem_toArray, List.getElem_cons_zero, List.getElem_cons_succ, List.setIfInBounds_toArray, List.set_cons_zero, List.set_cons_succ]
  refine wpAnyH_take (i := 32) (v := undef) rfl (by kernel_rfl) (by kernel_rfl) (by kernel_rfl) (fun _ _ _ h => h) (Or.inr ⟨by rfl, rfl⟩) hHeld ?_
  try simp only [Act.put, List.getElem_toArray, List.getElem_cons_zero, List.getElem_cons_succ, List.setIfInBounds_toArray, List.set_cons_zero, List.set_cons_succ]
  refine wpAnyH_take (i := 33) (v := undef) rfl (by kernel_rfl) (by kernel_rfl) (by kernel_rfl) (fun _ _ _ h => h) (Or.inr ⟨by rfl, rfl⟩) hHeld ?_
  try simp only [Act.put, List.getElem_toArray, List.getElem_cons_zero, List.getElem_cons_succ, List.setIfInBounds_toArray, List.set_cons_zero, List.set_cons_succ]
  refine wpAnyH_take (i := 34) (v := undef) rfl (by kernel_rfl) (by kernel_rfl) (by kernel_rfl) (fun _ _ _ h => h) (Or.inr ⟨by rfl, rfl⟩) hHeld ?_
  try simp only [Act.put, List.getElem_toArray, List.getElem_cons_zero, List.getElem_cons_succ, List.setIfInBounds_toArray, List.set_cons_zero, List.set_cons_succ]
  refine wpAnyH_take (i := 35) (v := undef) rfl (by kernel_rfl) (by kernel_rfl) (by kernel_rfl) (fun _ _ _ h => h) (Or.inr ⟨by rfl, rfl⟩) hHeld ?_
  try simp only [Act.put, List.getElem_toArray, List.getElem_cons_zero, List.getElem_cons_succ, List.setIfInBounds_toArray, List.set_cons_zero, List.set_cons_succ]
  refine wpAnyH_take (i := 36) (v := undef) rfl (by kernel_rfl) (by kernel_rfl) (by kernel_rfl) (fun _ _ _ h => h) (Or.inr ⟨by rfl, rfl⟩) hHeld ?_
  try simp only [Act.put, List.getElem_toArray, List.getElem_cons_zero, List.getElem_cons_succ, List.setIfInBounds_toArray, List.set_cons_zero, List.set_cons_succ]
  refine wpAnyH_take (i := 37) (v := undef) rfl (by kernel_rfl) (by kernel_rfl) (by kernel_rfl) (fun _ _ _ h => h) (Or.inr ⟨by rfl, rfl⟩) hHeld ?_
  try simp only [Act.put, List.getElem_toArray, List.getElem_cons_zero, List.getElem_cons_succ, List.setIfInBounds_toArray, List.set_cons_zero, List.set_cons_succ]
  refine wpAnyH_take (i := 38) (v := undef) rfl (by kernel_rfl) (by kernel_rfl) (by kernel_rfl) (fun _ _ _ h => h) (Or.inr ⟨by rfl, rfl⟩) hHeld ?_
  try simp only [Act.put, List.getElem_toArray, List.getElem_cons_zero, List.getElem_cons_succ, List.setIfInBounds_toArray, List.set_cons_zero, List.set_cons_succ]
  refine wpAnyH_take (i := 39) (v := ?_) rfl (by kernel_rfl) (by kernel_rfl) (by kernel_rfl) (fun _ _ _ h => h) (Or.inl ⟨by rfl, ?_⟩) hHeld ?_
  rotate_left
  · (intro w hSw; (try dsimp only at hSw); go_simp; (try with_reducible rfl))
  try simp only [Act.put, List.getElem_toArray, List.getElem_cons_zero, List.getElem_cons_succ, List.setIfInBounds_toArray, List.set_cons_zero, List.set_cons_succ]
  refine wpAnyH_take (i := 40) (v := ?_) rfl (by kernel_rfl) (by kernel_rfl) (by kernel_rfl) (fun _ _ _ h => h) (Or.inl ⟨by rfl, ?_⟩) hHeld ?_
  rotate_left
  · (intro w hSw; (try dsimp only at hSw); go_simp; (try with_reducible rfl))
  try simp only [Act.put, List.getElem_toArray, List.getElem_cons_zero, List.getElem_cons_succ, List.setIfInBounds_toArray, List.set_cons_zero, List.set_cons_succ]
  refine wpAnyH_take (i := 41) (v := ?_) rfl (by kernel_rfl) (by kernel_rfl) (by kernel_rfl) (fun _ _ _ h => h) (Or.inl ⟨by rfl, ?_⟩) hHeld ?_
  rotate_left
  · (intro w hSw; (try dsimp only at hSw); go_simp; (try with_reducible rfl))
  try simp only [Act.put, List.getElem_toArray, List.getElem_cons_zero, List.getElem_cons_succ, List.setIfInBounds_toArray, List.set_cons_zero, List.set_cons_succ]
  refine wpAnyH_done (by kernel_rfl) ?_ _
  clear hHeld
  go_wp2_with fail
  go_ret
  exact ⟨rfl, cc⟩

set_option maxRecDepth 100000 in
set_option maxHeartbeats 8000000 in
theorem BlockOrder_c {w : World} {k : Int} {A : Option Addr} {n c p q : Nat} {L : List Int} (hA : IR w A n c L) (h20 : n ≤ 20) (hp : p < n) (hq : q < n) {S : Int} {CC : List Nat} {E M : List Int} (hxy : L[p]?.getD 0 ≤ L[q]?.getD 0) (hk : k ≠ 4) (huv : M[p]?.getD 0 ≤ M[q]?.getD 0) (hM : M.length = L.length) (heg : CC[p]?.getD 0 ≤ CC[q]?.getD 0) (hCL : CC.length = L.length) (CP : ∀ {W : World}, IR W A n c L → Calls Try.prog 8 #[.int .i64 k, .slice A n c] W (GotBp W k S CC E 0)) (D0 : ∀ {W : World} {A B : Option Addr} {n c m d : Nat}, BR W A n c CC → IR W B m d E → Calls Try.prog 10 #[.agg #[.int .i64 k, .int .i64 S, .slice A n c, .slice B m d]] W (GotI W M)) :
    Calls Try.prog 5 #[.int .i64 k, .slice A n c, .agg #[.int .i64 ((p : Nat)), .int .i64 ((q : Nat))]] w fun e w' => e = .returned (.bool true) ∧ Below w.heap.size w w' := by
  have t0 : decide (20 < (n : Int)) = false := decide_eq_false (by omega)
  have u0 : decide (20 < n) = false := decide_eq_false (by omega)
  have t1 : decide ((p : Int) < 0) = false := decide_eq_false (by omega)
  have t2 : decide ((n : Int) ≤ (p : Int)) = false := decide_eq_false (by omega)
  have t3 : decide ((q : Int) < 0) = false := decide_eq_false (by omega)
  have t4 : decide ((n : Int) ≤ (q : Int)) = false := decide_eq_false (by omega)
  have u2 : decide (n ≤ p) = false := decide_eq_false (by omega)
  have u4 : decide (n ≤ q) = false := decide_eq_false (by omega)
  have pn : (p : Int) < (n : Int) := by omega
  have qn : (q : Int) < (n : Int) := by omega
  obtain ⟨x, hx⟩ : ∃ x, L[p]?.getD 0 = x := ⟨_, rfl⟩
  obtain ⟨y, hy⟩ : ∃ y, L[q]?.getD 0 = y := ⟨_, rfl⟩
  rw [hx, hy] at hxy
  have t5 : decide (y < x) = false := decide_eq_false (by omega)
  have HX := Lib.hid hx
  have HY := Lib.hid hy
  clear hx hy hxy
  have k4 : (k == 4) = false := beq_eq_false_iff_ne.2 hk
  clear hk
  obtain ⟨u, hu⟩ : ∃ u, M[p]?.getD 0 = u := ⟨_, rfl⟩
  obtain ⟨v, hv⟩ : ∃ v, M[q]?.getD 0 = v := ⟨_, rfl⟩
  rw [hu, hv] at huv
  have t6 : decide (u ≤ v) = true := decide_eq_true huv
  have HU := Lib.hid hu
  have HVV := Lib.hid hv
  have HML := Lib.hid hM
  clear hu hv huv hM
  obtain ⟨e, he⟩ : ∃ e, CC[p]?.getD 0 = e := ⟨_, rfl⟩
  obtain ⟨g, hg⟩ : ∃ g, CC[q]?.getD 0 = g := ⟨_, rfl⟩
  rw [he, hg] at heg
  have t7 : decide ((e : Int) ≤ (g : Int)) = true := decide_eq_true (by omega)
  have u7 : decide (e ≤ g) = true := decide_eq_true heg
  have HE := Lib.hid he
  have HG := Lib.hid hg
  have HCL := Lib.hid hCL
  clear he hg heg hCL
  have cc := Below.refl w.heap.size w
  go_enter Try.func5, Try.ntmps5
  go_wp2_with fail
  have bA : Below w.heap.size w (w.alloc (.cells #[.int .i64 (p : Int), .int .i64 (q : Int)] 48)) := ((Below.refl _ w).alloc (by simp) _)
  replace hA := hA.on bA
  replace cc := cc.trans (bA.mono cc.size)
  clear bA
  have pa0 : (w.alloc (.cells #[.int .i64 (p : Int), .int .i64 (q : Int)] 48)).cell? ⟨w.heap.size, 0, none⟩ = some (.int .i64 (p : Int)) := by simp [go_sem]
  have pa1 : (w.alloc (.cells #[.int .i64 (p : Int), .int .i64 (q : Int)] 48)).cell? ⟨w.heap.size, 1, none⟩ = some (.int .i64 (q : Int)) := by simp [go_sem]
  have pal : w.heap.size < (w.alloc (.cells #[.int .i64 (p : Int), .int .i64 (q : Int)] 48)).heap.size := by simp <;> omega
  generalize w.alloc (.cells #[.int .i64 (p : Int), .int .i64 (q : Int)] 48) = v1 at *
  go_wp2_with fail
  refine (CP hA).mono ?_
  rintro e w2 ⟨Ax, nx, cx, Bx, mx, dx, rfl, hCx, hWx, b⟩
  replace hA := hA.on b
  replace pa0 := (b.cell (p := ⟨w.heap.size, 0, none⟩) pal).trans pa0
  replace pa1 := (b.cell (p := ⟨w.heap.size, 1, none⟩) pal).trans pa1
  replace pal := Nat.lt_of_lt_of_le pal b.size
  replace cc := cc.trans (b.mono cc.size)
  clear b
  go_wp2_with fail
  have bA := below_one w2 (.cells #[.int .i64 k, .int .i64 S, .slice Ax nx cx, .slice Bx mx dx] 26)
  replace hA := hA.on bA
  replace hCx := hCx.on bA
  replace hWx := hWx.on bA
  replace pa0 := (bA.cell (p := ⟨w.heap.size, 0, none⟩) pal).trans pa0
  replace pa1 := (bA.cell (p := ⟨w.heap.size, 1, none⟩) pal).trans pa1
  replace pal := Nat.lt_of_lt_of_le pal bA.size
  replace cc := cc.trans (bA.mono cc.size)
  clear bA
  have bx0 : (w2.alloc (.cells #[.int .i64 k, .int .i64 S, .slice Ax nx cx, .slice Bx mx dx] 26)).cell? ⟨w2.heap.size, 0, none⟩ = some (.int .i64 k) := by simp [go_sem]
  have bx1 : (w2.alloc (.cells #[.int .i64 k, .int .i64 S, .slice Ax nx cx, .slice Bx mx dx] 26)).cell? ⟨w2.heap.size, 1, none⟩ = some (.int .i64 S) := by simp [go_sem]
  have bx2 : (w2.alloc (.cells #[.int .i64 k, .int .i64 S, .slice Ax nx cx, .slice Bx mx dx] 26)).cell? ⟨w2.heap.size, 2, none⟩ = some (.slice Ax nx cx) := by simp [go_sem]
  have bx3 : (w2.alloc (.cells #[.int .i64 k, .int .i64 S, .slice Ax nx cx, .slice Bx mx dx] 26)).cell? ⟨w2.heap.size, 3, none⟩ = some (.slice Bx mx dx) := by simp [go_sem]
  have bxl : w2.heap.size < (w2.alloc (.cells #[.int .i64 k, .int .i64 S, .slice Ax nx cx, .slice Bx mx dx] 26)).heap.size := by simp
  generalize w2.alloc (.cells #[.int .i64 k, .int .i64 S, .slice Ax nx cx, .slice Bx mx dx] 26) = v3 at *
  obtain ⟨bl, ol_, rfl, hbl⟩ := hA.some (by omega)
  have ep := hA.cell hp
  have eq_ := hA.cell hq
  rw [HX.out] at ep
  rw [HY.out] at eq_
  go_wp2_with fail
  have bD : Below v3.heap.size v3 v3.drew := below_drewN (Below.refl _ v3) 1
  replace ep := (bD.cell (p := ⟨bl, ol_ + p, none⟩) hbl).trans ep
  replace eq_ := (bD.cell (p := ⟨bl, ol_ + q, none⟩) hbl).trans eq_
  replace hbl := Nat.lt_of_lt_of_le hbl bD.size
  replace hA := hA.on bD
  replace hCx := hCx.on bD
  replace hWx := hWx.on bD
  replace pa0 := (bD.cell (p := ⟨w.heap.size, 0, none⟩) pal).trans pa0
  replace pa1 := (bD.cell (p := ⟨w.heap.size, 1, none⟩) pal).trans pa1
  replace pal := Nat.lt_of_lt_of_le pal bD.size
  replace bx0 := (bD.cell (p := ⟨w2.heap.size, 0, none⟩) bxl).trans bx0
  replace bx1 := (bD.cell (p := ⟨w2.heap.size, 1, none⟩) bxl).trans bx1
  replace bx2 := (bD.cell (p := ⟨w2.heap.size, 2, none⟩) bxl).trans bx2
  replace bx3 := (bD.cell (p := ⟨w2.heap.size, 3, none⟩) bxl).trans bx3
  replace bxl := Nat.lt_of_lt_of_le bxl bD.size
  replace cc := cc.trans (bD.mono cc.size)
  clear bD
  refine wp_region_held_drew (S := fun w' => w'.cell? ⟨bl, ol_ + p, none⟩ = some (.int .i64 x) ∧ w'.cell? ⟨bl, ol_ + q, none⟩ = some (.int .i64 y) ∧ w'.cell? ⟨w.heap.size, 0, none⟩ = some (.int .i64 (p : Int)) ∧ w'.cell? ⟨w.heap.size, 1, none⟩ = some (.int .i64 (q : Int)) ∧ w'.cell? ⟨w2.heap.size, 0, none⟩ = some (.int .i64 k) ∧ w'.cell? ⟨w2.heap.size, 1, none⟩ = some (.int .i64 S) ∧ w'.cell? ⟨w2.heap.size, 2, none⟩ = some (.slice Ax nx cx) ∧ w'.cell? ⟨w2.heap.size, 3, none⟩ = some (.slice Bx mx dx)) (by kernel_rfl) ?_ (fun hHeld => ?_)
  · exact ⟨ep, eq_, pa0, pa1, bx0, bx1, bx2, bx3⟩
  refine wpAnyH_take (i := 0) (v := ?_) rfl (by kernel_rfl) (by kernel_rfl) (by kernel_rfl) (fun _ _ _ h => h) (Or.inl ⟨by rfl, ?_⟩) hHeld ?_
  rotate_left
  · (intro w hSw; (try dsimp only at hSw); go_simp; (try with_reducible rfl))
  try simp only [Act.put, List.getElem_toArray, List.getElem_cons_zero, List.getElem_cons_succ, List.setIfInBounds_toArray, List.set_cons_zero, List.set_cons_succ]
  refine wpAnyH_take (i := 1) (v := ?_) rfl (by kernel_rfl) (by kernel_rfl) (by kernel_rfl) (fun _ _ _ h => h) (Or.inl ⟨by rfl, ?_⟩) hHeld ?_
  rotate_left
  · (intro w hSw; (try dsimp only at hSw); go_simp; (try with_reducible rfl))
  try simp only [Act.put, List.getElem_toArray, List.getElem_cons_zero, List.getElem_cons_succ, List.setIfInBounds_toArray, List.set_cons_zero, List.set_cons_succ]
  refine wpAnyH_take (i := 2) (v := ?_) rfl (by kernel_rfl) (by kernel_rfl) (by kernel_rfl) (fun _ _ _ h => h) (Or.inl ⟨by rfl, ?_⟩) hHeld ?_
  rotate_left
  · (intro w hSw; (try dsimp only at hSw); go_simp; (try with_reducible rfl))
  try simp only [Act.put, List.getElem_toArray, List.getElem_cons_zero, List.getElem_cons_succ, List.setIfInBounds_toArray, List.set_cons_zero, List.set_cons_succ]
  refine wpAnyH_take (i := 3) (v := ?_) rfl (by kernel_rfl) (by kernel_rfl) (by kernel_rfl) (fun _ _ _ h => h) (Or.inl ⟨by rfl, ?_⟩) hHeld ?_
  rotate_left
  · (intro w hSw; (try dsimp only at hSw); go_simp; (try with_reducible rfl))
  try simp only [Act.put, List.getElem_toArray, List.getElem_cons_zero, List.getElem_cons_succ, List.setIfInBounds_toArray, List.set_cons_zero, List.set_cons_succ]
  refine wpAnyH_take (i := 4) (v := ?_) rfl (by kernel_rfl) (by kernel_rfl) (by kernel_rfl) (fun _ _ _ h => h) (Or.inl ⟨by rfl, ?_⟩) hHeld ?_
  rotate_left
  · (intro w hSw; (try dsimp only at hSw); go_simp; (try with_reducible rfl))
  try simp only [Act.put, List.getElem_toArray, List.getElem_cons_zero, List.getElem_cons_succ, List.setIfInBounds_toArray, List.set_cons_zero, List.set_cons_succ]
  refine wpAnyH_take (i := 5) (v := ?_) rfl (by kernel_rfl) (by kernel_rfl) (by kernel_rfl) (fun _ _ _ h => h) (Or.inl ⟨by rfl, ?_⟩) hHeld ?_
  rotate_left
  · (intro w hSw; (try dsimp only at hSw); go_simp; (try with_reducible rfl))
  try simp only [Act.put, List.getElem_toArray, List.getElem_cons_zero, List.getElem_cons_succ, List.setIfInBounds_toArray, List.set_cons_zero, List.set_cons_succ]
  refine wpAnyH_take (i := 6) (v := ?_) rfl (by kernel_rfl) (by kernel_rfl) (by kernel_rfl) (fun _ _ _ h => h) (Or.inl ⟨by rfl, ?_⟩) hHeld ?_
  rotate_left
  · (intro w hSw; (try dsimp only at hSw); go_simp; (try with_reducible rfl))
  try simp only [Act.put, List.getElem_toArray, List.getElem_cons_zero, List.getElem_cons_succ, List.setIfInBounds_toArray, List.set_cons_zero, List.set_cons_succ]
  refine wpAnyH_take (i := 7) (v := ?_) rfl (by kernel_rfl) (by kernel_rfl) (by kernel_rfl) (fun _ _ _ h => h) (Or.inl ⟨by rfl, ?_⟩) hHeld ?_
  rotate_left
  · (intro w hSw; (try dsimp only at hSw); go_simp; (try with_reducible rfl))
  try simp only [Act.put, List.getElem_toArray, List.getElem_cons_zero, List.getElem_cons_succ, List.setIfInBounds_toArray, List.set_cons_zero, List.set_cons_succ]
  refine wpAnyH_take (i := 8) (v := ?_) rfl (by kernel_rfl) (by kernel_rfl) (by kernel_rfl) (fun _ _ _ h => h) (Or.inl ⟨by rfl, ?_⟩) hHeld ?_
  rotate_left
  · (intro w hSw; (try dsimp only at hSw); go_simp; (try with_reducible rfl))
  try simp only [Act.put, List.getElem_toArray, List.getElem_cons_zero, List.getElem_cons_succ, List.setIfInBounds_toArray, List.set_cons_zero, List.set_cons_succ]
  refine wpAnyH_take (i := 9) (v := ?_) rfl (by kernel_rfl) (by kernel_rfl) (by kernel_rfl) (fun _ _ _ h => h) (Or.inl ⟨by rfl, ?_⟩) hHeld ?_
  rotate_left
  · (intro w hSw; (try dsimp only at hSw); go_simp; (try with_reducible rfl))
  try simp only [Act.put, List.getElem_toArray, List.getElem_cons_zero, List.getElem_cons_succ, List.setIfInBounds_toArray, List.set_cons_zero, List.set_cons_succ]
  refine wpAnyH_take (i := 10) (v := ?_) rfl (by kernel_rfl) (by kernel_rfl) (by kernel_rfl) (fun _ _ _ h => h) (Or.inl ⟨by rfl, ?_⟩) hHeld ?_
  rotate_left
  · (intro w hSw; (try dsimp only at hSw); go_simp; (try with_reducible rfl))
  try simp only [Act.put, List.getElem_toArray, List.getElem_cons_zero, List.getElem_cons_succ, List.setIfInBounds_toArray, List.set_cons_zero, List.set_cons_succ]
  refine wpAnyH_take (i := 11) (v := ?_) rfl (by kernel_rfl) (by kernel_rfl) (by kernel_rfl) (fun _ _ _ h => h) (Or.inl ⟨by rfl, ?_⟩) hHeld ?_
  rotate_left
  · (intro w hSw; (try dsimp only at hSw); go_simp; (try with_reducible rfl))
  try simp only [Act.put, List.getElem_toArray, List.getElem_cons_zero, List.getElem_cons_succ, List.setIfInBounds_toArray, List.set_cons_zero, List.set_cons_succ]
  refine wpAnyH_take (i := 12) (v := ?_) rfl (by kernel_rfl) (by kernel_rfl) (by kernel_rfl) (fun _ _ _ h => h) (Or.inl ⟨by rfl, ?_⟩) hHeld ?_
  rotate_left
  · (intro w hSw; (try dsimp only at hSw); go_simp; (try with_reducible rfl))
  try simp only [Act.put, List.getElem_toArray, List.getElem_cons_zero, List.getElem_cons_succ, List.setIfInBounds_toArray, List.set_cons_zero, List.set_cons_succ]
  refine wpAnyH_take (i := 13) (v := ?_) rfl (by kernel_rfl) (by kernel_rfl) (by kernel_rfl) (fun _ _ _ h => h) (Or.inl ⟨by rfl, ?_⟩) hHeld ?_
  rotate_left
  · (intro w hSw; (try dsimp only at hSw); go_simp; (try with_reducible rfl))
  try simp only [Act.put, List.getElem_toArray, List.getElem_cons_zero, List.getElem_cons_succ, List.setIfInBounds_toArray, List.set_cons_zero, List.set_cons_succ]
  refine wpAnyH_take (i := 14) (v := ?_) rfl (by kernel_rfl) (by kernel_rfl) (by kernel_rfl) (fun _ _ _ h => h) (Or.inl ⟨by rfl, ?_⟩) hHeld ?_
  rotate_left
  · (intro w hSw; (try dsimp only at hSw); go_simp; (try with_reducible rfl))
  try simp only [Act.put, List.getElem_toArray, List.getElem_cons_zero, List.getElem_cons_succ, List.setIfInBounds_toArray, List.set_cons_zero, List.set_cons_succ]
  refine wpAnyH_done (by kernel_rfl) ?_ _
  clear hHeld
  clear ep eq_ hbl
  go_wp2_with fail
  refine (D0 hCx hWx).mono ?_
  rintro e w4 ⟨Az, nz, cz, rfl, hz, b⟩
  replace hA := hA.on b
  replace hCx := hCx.on b
  replace hWx := hWx.on b
  replace pa0 := (b.cell (p := ⟨w.heap.size, 0, none⟩) pal).trans pa0
  replace pa1 := (b.cell (p := ⟨w.heap.size, 1, none⟩) pal).trans pa1
  replace pal := Nat.lt_of_lt_of_le pal b.size
  replace bx0 := (b.cell (p := ⟨w2.heap.size, 0, none⟩) bxl).trans bx0
  replace bx1 := (b.cell (p := ⟨w2.heap.size, 1, none⟩) bxl).trans bx1
  replace bx2 := (b.cell (p := ⟨w2.heap.size, 2, none⟩) bxl).trans bx2
  replace bx3 := (b.cell (p := ⟨w2.heap.size, 3, none⟩) bxl).trans bx3
  replace bxl := Nat.lt_of_lt_of_le bxl b.size
  replace cc := cc.trans (b.mono cc.size)
  clear b
  have hzl := hz.1.trans HML.out
  have hAl := hA.1
  obtain rfl : nz = n := by omega
  clear hzl hAl
  obtain ⟨bz, oz, rfl, hbz⟩ := hz.some (by omega)
  have zp := hz.cell hp
  have zq := hz.cell hq
  rw [HU.out] at zp
  rw [HVV.out] at zq
  have hcl := hCx.1.trans HCL.out
  have hAl := hA.1
  obtain rfl : nx = nz := by omega
  clear hcl hAl
  obtain ⟨bq, oq, rfl, hbq⟩ := hCx.some (by omega)
  have cp_ := hCx.cell hp
  have cq_ := hCx.cell hq
  have e6 := hCx.at hp
  have g6 := hCx.at hq
  rw [HE.out] at cp_ e6
  rw [HG.out] at cq_ g6
  have e6i : (e : Int) < 256 := by omega
  have g6i : (g : Int) < 256 := by omega
  go_wp2_with fail
  have bD : Below w4.heap.size w4 w4.drew := below_drewN (Below.refl _ w4) 1
  replace zp := (bD.cell (p := ⟨bz, oz + p, none⟩) hbz).trans zp
  replace zq := (bD.cell (p := ⟨bz, oz + q, none⟩) hbz).trans zq
  replace cp_ := (bD.cell (p := ⟨bq, oq + p, none⟩) hbq).trans cp_
  replace cq_ := (bD.cell (p := ⟨bq, oq + q, none⟩) hbq).trans cq_
  replace hbq := Nat.lt_of_lt_of_le hbq bD.size
  replace hbz := Nat.lt_of_lt_of_le hbz bD.size
  replace hA := hA.on bD
  replace hCx := hCx.on bD
  replace hWx := hWx.on bD
  replace hz := hz.on bD
  replace pa0 := (bD.cell (p := ⟨w.heap.size, 0, none⟩) pal).trans pa0
  replace pa1 := (bD.cell (p := ⟨w.heap.size, 1, none⟩) pal).trans pa1
  replace pal := Nat.lt_of_lt_of_le pal bD.size
  replace bx0 := (bD.cell (p := ⟨w2.heap.size, 0, none⟩) bxl).trans bx0
  replace bx1 := (bD.cell (p := ⟨w2.heap.size, 1, none⟩) bxl).trans bx1
  replace bx2 := (bD.cell (p := ⟨w2.heap.size, 2, none⟩) bxl).trans bx2
  replace bx3 := (bD.cell (p := ⟨w2.heap.size, 3, none⟩) bxl).trans bx3
  replace bxl := Nat.lt_of_lt_of_le bxl bD.size
  replace cc := cc.trans (bD.mono cc.size)
  clear bD
  refine wp_region_held_drew (S := fun w' => w'.cell? ⟨bz, oz + p, none⟩ = some (.int .i64 u) ∧ w'.cell? ⟨bz, oz + q, none⟩ = some (.int .i64 v) ∧ w'.cell? ⟨bq, oq + p, none⟩ = some (.int .u8 (e : Int)) ∧ w'.cell? ⟨bq, oq + q, none⟩ = some (.int .u8 (g : Int)) ∧ w'.cell? ⟨w.heap.size, 0, none⟩ = some (.int .i64 (p : Int)) ∧ w'.cell? ⟨w.heap.size, 1, none⟩ = some (.int .i64 (q : Int)) ∧ w'.cell? ⟨w2.heap.size, 0, none⟩ = some (.int .i64 k) ∧ w'.cell? ⟨w2.heap.size, 1, none⟩ = some (.int .i64 S) ∧ w'.cell? ⟨w2.heap.size, 2, none⟩ = some (.slice (some ⟨bq, oq, none⟩) nx cx) ∧ w'.cell? ⟨w2.heap.size, 3, none⟩ = some (.slice Bx mx dx)) (by kernel_rfl) ?_ (fun hHeld => ?_)
  · exact ⟨zp, zq, cp_, cq_, pa0, pa1, bx0, bx1, bx2, bx3⟩
  refine wpAnyH_ready (rs := [0]) (by kernel_rfl) (by simp) ?_
  refine AllReadyH.cons rfl (fun K hK => ?_) AllReadyH.nil
  (try simp only [List.getElem_toArray, List.getElem_cons_zero, List.getElem_cons_succ])
  rw [if_pos (by rfl)]
  go_simp
  go_at_call 7
  refine (alive11_any _).mono ?_
  rintro e w5 ⟨rfl, b⟩
  replace zp := (b.cell (p := ⟨bz, oz + p, none⟩) hbz).trans zp
  replace zq := (b.cell (p := ⟨bz, oz + q, none⟩) hbz).trans zq
  replace cp_ := (b.cell (p := ⟨bq, oq + p, none⟩) hbq).trans cp_
  replace cq_ := (b.cell (p := ⟨bq, oq + q, none⟩) hbq).trans cq_
  replace hbq := Nat.lt_of_lt_of_le hbq b.size
  replace hbz := Nat.lt_of_lt_of_le hbz b.size
  replace hA := hA.on b
  replace hCx := hCx.on b
  replace hWx := hWx.on b
  replace hz := hz.on b
  replace pa0 := (b.cell (p := ⟨w.heap.size, 0, none⟩) pal).trans pa0
  replace pa1 := (b.cell (p := ⟨w.heap.size, 1, none⟩) pal).trans pa1
  replace pal := Nat.lt_of_lt_of_le pal b.size
  replace bx0 := (b.cell (p := ⟨w2.heap.size, 0, none⟩) bxl).trans bx0
  replace bx1 := (b.cell (p := ⟨w2.heap.size, 1, none⟩) bxl).trans bx1
  replace bx2 := (b.cell (p := ⟨w2.heap.size, 2, none⟩) bxl).trans bx2
  replace bx3 := (b.cell (p := ⟨w2.heap.size, 3, none⟩) bxl).trans bx3
  replace bxl := Nat.lt_of_lt_of_le bxl b.size
  replace cc := cc.trans (b.mono cc.size)
  clear b
  refine hK.out _ _ ?_ (fun hHeld => ?_)
  · exact ⟨zp, zq, cp_, cq_, pa0, pa1, bx0, bx1, bx2, bx3⟩
  clear hK K
  try simp only [Act.put, List.getElem_toArray, List.getElem_cons_zero, List.getElem_cons_succ, List.setIfInBounds_toArray, List.set_cons_zero, List.set_cons_succ]
  refine wpAnyH_take (i := 1) (v := ?_) rfl (by kernel_rfl) (by kernel_rfl) (by kernel_rfl) (fun _ _ _ h => h) (Or.inl ⟨by rfl, ?_⟩) hHeld ?_
  rotate_left
  · (intro w hSw; (try dsimp only at hSw); go_simp; (try with_reducible rfl))
  try simp only [Act.put, List.getElem_toArray, List.getElem_cons_zero, List.getElem_cons_succ, List.setIfInBounds_toArray, List.set_cons_zero, List.set_cons_succ]
  refine wpAnyH_take (i := 2) (v := ?_) rfl (by kernel_rfl) (by kernel_rfl) (by kernel_rfl) (fun _ _ _ h => h) (Or.inl ⟨by rfl, ?_⟩) hHeld ?_
  rotate_left
  · (intro w hSw; (try dsimp only at hSw); go_simp; (try with_reducible rfl))
  try simp only [Act.put, List.getElem_toArray, List.getElem_cons_zero, List.getElem_cons_succ, List.setIfInBounds_toArray, List.set_cons_zero, List.set_cons_succ]
  refine wpAnyH_take (i := 3) (v := ?_) rfl (by kernel_rfl) (by kernel_rfl) (by kernel_rfl) (fun _ _ _ h => h) (Or.inl ⟨by rfl, ?_⟩) hHeld ?_
  rotate_left
  · (intro w hSw; (try dsimp only at hSw); go_simp; (try with_reducible rfl))
  try simp only [Act.put, List.getElem_toArray, List.getElem_cons_zero, List.getElem_cons_succ, List.setIfInBounds_toArray, List.set_cons_zero, List.set_cons_succ]
  refine wpAnyH_take (i := 4) (v := ?_) rfl (by kernel_rfl) (by kernel_rfl) (by kernel_rfl) (fun _ _ _ h => h) (Or.inl ⟨by rfl, ?_⟩) hHeld ?_
  rotate_left
  · (intro w hSw; (try dsimp only at hSw); go_simp; (try with_reducible rfl))
  try simp only [Act.put, List.getElem_toArray, List.getElem_cons_zero, List.getElem_cons_succ, List.setIfInBounds_toArray, List.set_cons_zero, List.set_cons_succ]
  refine wpAnyH_take (i := 5) (v := ?_) rfl (by kernel_rfl) (by kernel_rfl) (by kernel_rfl) (fun _ _ _ h => h) (Or.inl ⟨by rfl, ?_⟩) hHeld ?_
  rotate_left
  · (intro w hSw; (try dsimp only at hSw); go_simp; (try with_reducible rfl))
  try simp only [Act.put, List.getElem_toArray, List.getElem_cons_zero, List.getElem_cons_succ, List.setIfInBounds_toArray, List.set_cons_zero, List.set_cons_succ]
  refine wpAnyH_take (i := 6) (v := ?_) rfl (by kernel_rfl) (by kernel_rfl) (by kernel_rfl) (fun _ _ _ h => h) (Or.inl ⟨by rfl, ?_⟩) hHeld ?_
  rotate_left
  · (intro w hSw; (try dsimp only at hSw); go_simp; (try with_reducible rfl))
  try simp only [Act.put, List.getElem_toArray, List.getElem_cons_zero, List.getElem_cons_succ, List.setIfInBounds_toArray, List.set_cons_zero, List.set_cons_succ]
  refine wpAnyH_take (i := 7) (v := ?_) rfl (by kernel_rfl) (by kernel_rfl) (by kernel_rfl) (fun _ _ _ h => h) (Or.inl ⟨by rfl, ?_⟩) hHeld ?_
  rotate_left
  · (intro w hSw; (try dsimp only at hSw); go_simp; (try with_reducible rfl))
  try simp only [Act.put, List.getElem_toArray, List.getElem_cons_zero, List.getElem_cons_succ, List.setIfInBounds_toArray, List.set_cons_zero, List.set_cons_succ]
  refine wpAnyH_take (i := 8) (v := ?_) rfl (by kernel_rfl) (by kernel_rfl) (by kernel_rfl) (fun _ _ _ h => h) (Or.inl ⟨by rfl, ?_⟩) hHeld ?_
  rotate_left
  · (intro w hSw; (try dsimp only at hSw); go_simp; (try with_reducible rfl))
  try simp only [Act.put, List.getElem_toArray, List.getElem_cons_zero, List.getElem_cons_succ, List.setIfInBounds_toArray, List.set_cons_zero, List.set_cons_succ]
  refine wpAnyH_take (i := 9) (v := ?_) rfl (by kernel_rfl) (by kernel_rfl) (by kernel_rfl) (fun _ _ _ h => h) (Or.inl ⟨by rfl, ?_⟩) hHeld ?_
  rotate_left
  · (intro w hSw; (try dsimp only at hSw); go_simp; (try with_reducible rfl))
  try simp only [Act.put, List.getElem_toArray, List.getElem_cons_zero, List.getElem_cons_succ, List.setIfInBounds_toArray, List.set_cons_zero, List.set_cons_succ]
  refine wpAnyH_take (i := 10) (v := ?_) rfl (by kernel_rfl) (by kernel_rfl) (by kernel_rfl) (fun _ _ _ h => h) (Or.inl ⟨by rfl, ?_⟩) hHeld ?_
  rotate_left
  · (intro w hSw; (try dsimp only at hSw); go_simp; (try with_reducible rfl))
  try simp only [Act.put, List.getElem_toArray, List.getElem_cons_zero, List.getElem_cons_succ, List.setIfInBounds_toArray, List.set_cons_zero, List.set_cons_succ]
  refine wpAnyH_take (i := 11) (v := ?_) rfl (by kernel_rfl) (by kernel_rfl) (by kernel_rfl) (fun _ _ _ h => h) (Or.inl ⟨by rfl, ?_⟩) hHeld ?_
  rotate_left
  · (intro w hSw; (try dsimp only at hSw); go_simp; (try with_reducible rfl))
  try simp only [Act.put, List.getElem_toArray, List.getElem_cons_zero, List.getElem_cons_succ, List.setIfInBounds_toArray, List.set_cons_zero, List.set_cons_succ]
  refine wpAnyH_take (i := 12) (v := ?_) rfl (by kernel_rfl) (by kernel_rfl) (by kernel_rfl) (fun _ _ _ h => h) (Or.inl ⟨by rfl, ?_⟩) hHeld ?_
  rotate_left
  · (intro w hSw; (try dsimp only at hSw); go_simp; (try with_reducible rfl))
  try simp only [Act.put, List.getElem_toArray, List.getElem_cons_zero, List.getElem_cons_succ, List.setIfInBounds_toArray, List.set_cons_zero, List.set_cons_succ]
  refine wpAnyH_take (i := 13) (v := ?_) rfl (by kernel_rfl) (by kernel_rfl) (by kernel_rfl) (fun _ _ _ h => h) (Or.inl ⟨by rfl, ?_⟩) hHeld ?_
  rotate_left
  · (intro w hSw; (try dsimp only at hSw); go_simp; (try with_reducible rfl))
  try simp only [Act.put, List.getElem_toArray, List.getElem_cons_zero, List.getElem_cons_succ, List.setIfInBounds_toArray, List.set_cons_zero, List.set_cons_succ]
  refine wpAnyH_take (i := 14) (v := ?_) rfl (by kernel_rfl) (by kernel_rfl) (by kernel_rfl) (fun _ _ _ h => h) (Or.inl ⟨by rfl, ?_⟩) hHeld ?_
  rotate_left
  · (intro w hSw; (try dsimp only at hSw); go_simp; (try with_reducible rfl))
  try simp only [Act.put, List.getElem_toArray, List.getElem_cons_zero, List.getElem_cons_succ, List.setIfInBounds_toArray, List.set_cons_zero, List.set_cons_succ]
  refine wpAnyH_take (i := 15) (v := ?_) rfl (by kernel_rfl) (by kernel_rfl) (by kernel_rfl) (fun _ _ _ h => h) (Or.inl ⟨by rfl, ?_⟩) hHeld ?_
  rotate_left
  · (intro w hSw; (try dsimp only at hSw); go_simp; (try with_reducible rfl))
  try simp only [Act.put, List.getElem_toArray, List.getElem_cons_zero, List.getElem_cons_succ, List.setIfInBounds_toArray, List.set_cons_zero, List.set_cons_succ]
  refine wpAnyH_take (i := 16) (v := ?_) rfl (by kernel_rfl) (by kernel_rfl) (by kernel_rfl) (fun _ _ _ h => h) (Or.inl ⟨by rfl, ?_⟩) hHeld ?_
  rotate_left
  · (intro w hSw; (try dsimp only at hSw); go_simp; (try with_reducible rfl))
  try simp only [Act.put, List.getElem_toArray, List.getElem_cons_zero, List.getElem_cons_succ, List.setIfInBounds_toArray, List.set_cons_zero, List.set_cons_succ]
  refine wpAnyH_take (i := 17) (v := ?_) rfl (by kernel_rfl) (by kernel_rfl) (by kernel_rfl) (fun _ _ _ h => h) (Or.inl ⟨by rfl, ?_⟩) hHeld ?_
  rotate_left
  · (intro w hSw; (try dsimp only at hSw); go_simp; (try with_reducible rfl))
  try simp only [Act.put, List.getElem_toArray, List.getElem_cons_zero, List.getElem_cons_succ, List.setIfInBounds_toArray, List.set_cons_zero, List.set_cons_succ]
  refine wpAnyH_take (i := 18) (v := ?_) rfl (by kernel_rfl) (by kernel_rfl) (by kernel_rfl) (fun _ _ _ h => h) (Or.inl ⟨by rfl, ?_⟩) hHeld ?_
  rotate_left
  · (intro w hSw; (try dsimp only at hSw); go_simp; (try with_reducible rfl))
  try simp only [Act.put, List.getElem_toArray, List.getElem_cons_zero, List.getElem_cons_succ, List.setIfInBounds_toArray, List.set_cons_zero, List.set_cons_succ]
  refine wpAnyH_take (i := 19) (v := ?_) rfl (by kernel_rfl) (by kernel_rfl) (by kernel_rfl) (fun _ _ _ h => h) (Or.inl ⟨by rfl, ?_⟩) hHeld ?_
  rotate_left
  · (intro w hSw; (try dsimp only at hSw); go_simp; (try with_reducible rfl))
  try simp only [Act.put, List.getElem_toArray, List.getElem_cons_zero, List.getElem_cons_succ, List.setIfInBounds_toArray, List.set_cons_zero, List.set_cons_succ]
  refine wpAnyH_take (i := 20) (v := ?_) rfl (by kernel_rfl) (by kernel_rfl) (by kernel_rfl) (fun _ _ _ h => h) (Or.inl ⟨by rfl, ?_⟩) hHeld ?_
  rotate_left
  · (intro w hSw; (try dsimp only at hSw); go_simp; (try with_reducible rfl))
  try simp only [Act.put, List.getElem_toArray, List.getElem_cons_zero, List.getElem_cons_succ, List.setIfInBounds_toArray, List.set_cons_zero, List.set_cons_succ]
  refine wpAnyH_take (i := 21) (v := ?_) rfl (by kernel_rfl) (by kernel_rfl) (by kernel_rfl) (fun _ _ _ h => h) (Or.inl ⟨by rfl, ?_⟩) hHeld ?_
  rotate_left
  · (intro w hSw; (try dsimp only at hSw); go_simp; (try with_reducible rfl))
  try simp only [Act.put, List.getElem_toArray, List.getElem_cons_zero, List.getElem_cons_succ, List.setIfInBounds_toArray, List.set_cons_zero, List.set_cons_succ]
  refine wpAnyH_take (i := 22) (v := ?_) rfl (by kernel_rfl) (by kernel_rfl) (by kernel_rfl) (fun _ _ _ h => h) (Or.inl ⟨by rfl, ?_⟩) hHeld ?_
  rotate_left
  · (intro w hSw; (try dsimp only at hSw); go_simp; (try with_reducible rfl))
  try simp only [Act.put, List.getElem_toArray, List.getElem_cons_zero, List.getElem_cons_succ, List.setIfInBounds_toArray, List.set_cons_zero, List.set_cons_succ]
  refine wpAnyH_take (i := 23) (v := ?_) rfl (by kernel_rfl) (by kernel_rfl) (by kernel_rfl) (fun _ _ _ h => h) (Or.inl ⟨by rfl, ?_⟩) hHeld ?_
  rotate_left
  · (intro w hSw; (try dsimp only at hSw); go_simp; (try with_reducible rfl))
  try simp only [Act.put, List.getElem_toArray, List.getElem_cons_zero, List.getElem_cons_succ, List.setIfInBounds_toArray, List.set_cons_zero, List.set_cons_succ]
  refine wpAnyH_take (i := 24) (v := ?_) rfl (by kernel_rfl) (by kernel_rfl) (by kernel_rfl) (fun _ _ _ h => h) (Or.inl ⟨by rfl, ?_⟩) hHeld ?_
  rotate_left
  · (intro w hSw; (try dsimp only at hSw); go_simp; (try with_reducible rfl))
  try simp only [Act.put, List.getElem_toArray, List.getElem_cons_zero, List.getElem_cons_succ, List.setIfInBounds_toArray, List.set_cons_zero, List.set_cons_succ]
  refine wpAnyH_take (i := 25) (v := ?_) rfl (by kernel_rfl) (by kernel_rfl) (by kernel_rfl) (fun _ _ _ h => h) (Or.inl ⟨by rfl, ?_⟩) hHeld ?_
  rotate_left
  · (intro w hSw; (try dsimp only at hSw); go_simp; (try with_reducible rfl))
  try simp only [Act.put, List.getElem_toArray, List.getElem_cons_zero, List.getElem_cons_succ, List.setIfInBounds_toArray, List.set_cons_zero, List.set_cons_succ]
  refine wpAnyH_take (i := 26) (v := ?_) rfl (by kernel_rfl) (by kernel_rfl) (by kernel_rfl) (fun _ _ _ h => h) (Or.inl ⟨by rfl, ?_⟩) hHeld ?_
  rotate_left
  · (intro w hSw; (try dsimp only at hSw); go_simp; (try with_reducible rfl))
  try simp only [Act.put, List.getElem_toArray, List.getElem_cons_zero, List.getElem_cons_succ, List.setIfInBounds_toArray, List.set_cons_zero, List.set_cons_succ]
  refine wpAnyH_take (i := 27) (v := ?_) rfl (by kernel_rfl) (by kernel_rfl) (by kernel_rfl) (fun _ _ _ h => h) (Or.inl ⟨by rfl, ?_⟩) hHeld ?_
  rotate_left
  · (intro w hSw; (try dsimp only at hSw); go_simp; (try with_reducible rfl))
  try simp only [Act.put, List.getElem_toArray, List.getElem_cons_zero, List.getElem_cons_succ, List.setIfInBounds_toArray, List.set_cons_zero, List.set_cons_succ]
  refine wpAnyH_take (i := 28) (v := ?_) rfl (by kernel_rfl) (by kernel_rfl) (by kernel_rfl) (fun _ _ _ h => h) (Or.inl ⟨by rfl, ?_⟩) hHeld ?_
  rotate_left
  · (intro w hSw; (try dsimp only at hSw); go_simp; (try with_reducible rfl))
  try simp only [Act.put, List.getElem_toArray, List.getElem_cons_zero, List.getElem_cons_succ, List.setIfInBounds_toArray, List.set_cons_zero, List.set_cons_succ]
  refine wpAnyH_take (i := 29) (v := ?_) rfl (by kernel_rfl) (by kernel_rfl) (by kernel_rfl) (fun _ _ _ h => h) (Or.inl ⟨by rfl, ?_⟩) hHeld ?_
  rotate_left
  · (intro w hSw; (try dsimp only at hSw); go_simp; (try with_reducible rfl))
  try simp only [Act.put, List.getElem_toArray, List.getElem_cons_zero, List.getElem_cons_succ, List.setIfInBounds_toArray, List.set_cons_zero, List.set_cons_succ]
  refine wpAnyH_take (i := 30) (v := ?_) rfl (by kernel_rfl) (by kernel_rfl) (by kernel_rfl) (fun _ _ _ h => h) (Or.inl ⟨by rfl, ?_⟩) hHeld ?_
  rotate_left
  · (intro w hSw; (try dsimp only at hSw); go_simp; (try with_reducible rfl))
  try simp only [Act.put, List.getElem_toArray, List.getElem_cons_zero, List.getElem_cons_succ, List.setIfInBounds_toArray, List.set_cons_zero, List.set_cons_succ]
  refine wpAnyH_take (i := 31) (v := ?_) rfl (by kernel_rfl) (by kernel_rfl) (by kernel_rfl) (fun _ _ _ h => h) (Or.inl ⟨by rfl, ?_⟩) hHeld ?_
  rotate_left
  · (intro w hSw; (try dsimp only at hSw); go_simp; (try with_reducible rfl))
  try simp only [Act.put, List.getElem_toArray, List.getElem_cons_zero, List.getElem_cons_succ, List.setIfInBounds_toArray, List.set_cons_zero, List.set_cons_succ]
  refine wpAnyH_take (i := 32) (v := ?_) rfl (by kernel_rfl) (by kernel_rfl) (by kernel_rfl) (fun _ _ _ h => h) (Or.inl ⟨by rfl, ?_⟩) hHeld ?_
  rotate_left
  · (intro w hSw; (try dsimp only at hSw); go_simp; (try with_reducible rfl))
  try simp only [Act.put, List.getElem_toArray, List.getElem_cons_zero, List.getElem_cons_succ, List.setIfInBounds_toArray, List.set_cons_zero, List.set_cons_succ]
  refine wpAnyH_take (i := 33) (v := ?_) rfl (by kernel_rfl) (by kernel_rfl) (by kernel_rfl) (fun _ _ _ h => h) (Or.inl ⟨by rfl, ?_⟩) hHeld ?_
  rotate_left
  · (intro w hSw; (try dsimp only at hSw); go_simp; (try with_reducible rfl))
  try simp only [Act.put, List.getElem_toArray, List.getElem_cons_zero, List.getElem_cons_succ, List.setIfInBounds_toArray, List.set_cons_zero, List.set_cons_succ]
  refine wpAnyH_take (i := 34) (v := ?_) rfl (by kernel_rfl) (by kernel_rfl) (by kernel_rfl) (fun _ _ _ h => h) (Or.inl ⟨by rfl, ?_⟩) hHeld ?_
  rotate_left
  · (intro w hSw; (try dsimp only at hSw); go_simp; (try with_reducible rfl))
  try simp only [Act.put, List.getElem_toArray, List.getElem_cons_zero, List.getElem_cons_succ, List.setIfInBounds_toArray, List.set_cons_zero, List.set_cons_succ]
  refine wpAnyH_take (i := 35) (v := ?_) rfl (by kernel_rfl) (by kernel_rfl) (by kernel_rfl) (fun _ _ _ h => h) (Or.inl ⟨by rfl, ?_⟩) hHeld ?_
  rotate_left
  · (intro w hSw; (try dsimp only at hSw); go_simp; (try with_reducible rfl))
  try simp only [Act.put, List.getElem_toArray, List.getElem_cons_zero, List.getElem_cons_succ, List.setIfInBounds_toArray, List.set_cons_zero, List.set_cons_succ]
  refine wpAnyH_take (i := 36) (v := ?_) rfl (by kernel_rfl) (by kernel_rfl) (by kernel_rfl) (fun _ _ _ h => h) (Or.inl ⟨by rfl, ?_⟩) hHeld ?_
  rotate_left
  · (intro w hSw; (try dsimp only at hSw); go_simp; (try with_reducible rfl))
  try simp only [Act.put, List.getElem_toArray, List.getElem_cons_zero, List.getElem_cons_succ, List.setIfInBounds_toArray, List.set_cons_zero, List.set_cons_succ]
  refine wpAnyH_take (i := 37) (v := ?_) rfl (by kernel_rfl) (by kernel_rfl) (by kernel_rfl) (fun _ _ _ h => h) (Or.inl ⟨by rfl, ?_⟩) hHeld ?_
  rotate_left
  · (intro w hSw; (try dsimp only at hSw); go_simp; (try with_reducible rfl))
  try simp only [Act.put, List.getElem_toArray, List.getElem_cons_zero, List.getElem_cons_succ, List.setIfInBounds_toArray, List.set_cons_zero, List.set_cons_succ]
  refine wpAnyH_take (i := 38) (v := ?_) rfl (by kernel_rfl) (by kernel_rfl) (by kernel_rfl) (fun _ _ _ h => h) (Or.inl ⟨by rfl, ?_⟩) hHeld ?_
  rotate_left
  · (intro w hSw; (try dsimp only at hSw); go_simp; (try with_reducible rfl))
  try simp only [Act.put, List.getElem_toArray, List.getElem_cons_zero, List.getElem_cons_succ, List.setIfInBounds_toArray, List.set_cons_zero, List.set_cons_succ]
  refine wpAnyH_take (i := 39) (v := ?_) rfl (by kernel_rfl) (by kernel_rfl) (by kernel_rfl) (fun _ _ _ h => h) (Or.inl ⟨by rfl, ?_⟩) hHeld ?_
  rotate_left
  · (intro w hSw; (try dsimp only at hSw); go_simp; (try with_reducible rfl))
  try simp only [Act.put, List.getElem_toArray, List.getElem_cons_zero, List.getElem_cons_succ, List.setIfInBounds_toArray, List.set_cons_zero, List.set_cons_succ]
  refine wpAnyH_take (i := 40) (v := ?_) rfl (by kernel_rfl) (by kernel_rfl) (by kernel_rfl) (fun _ _ _ h => h) (Or.inl ⟨by rfl, ?_⟩) hHeld ?_
  rotate_left
  · (intro w hSw; (try dsimp only at hSw); go_simp; (try with_reducible rfl))
  try simp only [Act.put, List.getElem_toArray, List.getElem_cons_zero, List.getElem_cons_succ, List.setIfInBounds_toArray, List.set_cons_zero, List.set_cons_succ]
  refine wpAnyH_take (i := 41) (v := ?_) rfl (by kernel_rfl) (by kernel_rfl) (by kernel_rfl) (fun _ _ _ h => h) (Or.inl ⟨by rfl, ?_⟩) hHeld ?_
  rotate_left
  · (intro w hSw; (try dsimp only at hSw); go_simp; (try with_reducible rfl))
  try simp only [Act.put, List.getElem_toArray, List.getElem_cons_zero, List.getElem_cons_succ, List.setIfInBounds_toArray, List.set_cons_zero, List.set_cons_succ]
  refine wpAnyH_done (by kernel_rfl) ?_ _
  clear hHeld
  go_wp2_with fail
  go_ret
  exact ⟨rfl, cc⟩

theorem pk_len4 (k : Int) (L : List Int) (h : k = 4) : pkC k L = [] ∧ pkS k L = 0 ∧ pkW k L = L := by unfold pkC pkS pkW; rw [if_pos h, if_pos h, if_pos h]; exact ⟨rfl, rfl, rfl⟩
theorem pk_not4 (k : Int) (L : List Int) (h : k ≠ 4) : pkC k L = L.map (pk k (gr L)) ∧ pkS k L = gr L ∧ pkW k L = [] := by unfold pkC pkS pkW; rw [if_neg h, if_neg h, if_neg h]; exact ⟨rfl, rfl, rfl⟩
theorem i64_at {L : List Int} (h : ∀ x ∈ L, I64 x) (j : Nat) : I64 (L[j]?.getD 0) := by
  rcases Nat.lt_or_ge j L.length with e | e
  · exact h _ (mem_at e)
  · rw [List.getElem?_eq_none e]; show I64 0; unfold I64; omega
theorem gr_i64 {k : Int} {L : List Int} (h : ∀ x ∈ L, I64 x) (ho : OkP k L) : I64 (gr L) := grk_i64 (fun j => ⟨i64_at h j, by
  rcases Nat.lt_or_ge j L.length with e | e
  · exact (ho.2 _ (mem_at e)).1
  · rw [List.getElem?_eq_none e]; decide⟩) _
theorem BlockOrder_walk {w : World} (k : Int) (wk : (Lit.int .i64 k).wf = true) {A : Option Addr} {n c : Nat} {L : List Int} (hA : IR w A n c L) (hn : n ≤ 9223372036854775807) (hi : ∀ x ∈ L, I64 x) (a b : Int) (wa : (Lit.int .i64 a).wf = true) (wb : (Lit.int .i64 b).wf = true) : Calls Try.prog 5 #[.int .i64 k, .slice A n c, .agg #[.int .i64 (a), .int .i64 (b)]] w fun e w' => e = .returned (.bool true) ∧ Below w.heap.size w w' := by
  have hk := i64_wf wk
  by_cases h0 : 20 < (n : Int)
  · exact BlockOrder_0 hn h0
  by_cases h1 : a < 0
  · exact BlockOrder_1 hn h0 h1
  by_cases h2 : (n : Int) ≤ a
  · exact BlockOrder_2 hn h0 h1 h2
  by_cases h3 : b < 0
  · exact BlockOrder_3 hn h0 h1 h2 h3
  by_cases h4 : (n : Int) ≤ b
  · exact BlockOrder_4 hn h0 h1 h2 h3 h4
  obtain ⟨p, rfl⟩ : ∃ p : Nat, a = (p : Int) := ⟨a.toNat, by omega⟩
  obtain ⟨q, rfl⟩ : ∃ q : Nat, b = (q : Int) := ⟨b.toNat, by omega⟩
  have hp : p < n := by omega
  have hq : q < n := by omega
  have h20 : n ≤ 20 := by omega
  have hl := hA.1
  by_cases ho : OkP k L
  · have hO := okB_pk ho (by omega)
    by_cases k4 : k = 4
    · obtain ⟨e1, e2, e3⟩ := pk_len4 k L k4
      have CP : ∀ {W : World}, IR W A n c L → Calls Try.prog 8 #[.int .i64 k, .slice A n c] W (GotBp W k 0 [] L 0) := fun h => by have := bkPack_yes hk h hi h20 ho; rwa [e1, e2, e3] at this
      by_cases hxy : L[p]?.getD 0 ≤ L[q]?.getD 0
      · exact BlockOrder_w hA h20 hp hq hxy k4 hxy rfl CP (fun h g => by rw [e1, e2, e3] at hO; have := bkLoad_N h g hO (by decide); rwa [show ldB k 0 [] L = L from if_pos k4] at this)
      · exact BlockOrder_gt hA h20 hp hq (by omega) CP
    · obtain ⟨e1, e2, e3⟩ := pk_not4 k L k4
      have k9 : Kind9 k := by rcases kind_or.1 ho.1 with h | h; exact h; exact absurd h k4
      have CP : ∀ {W : World}, IR W A n c L → Calls Try.prog 8 #[.int .i64 k, .slice A n c] W (GotBp W k (gr L) (L.map (pk k (gr L))) [] 0) := fun h => by have := bkPack_yes hk h hi h20 ho; rwa [e1, e2, e3] at this
      rw [e1, e2, e3] at hO
      have em : ldB k (gr L) (L.map (pk k (gr L))) [] = (L.map (pk k (gr L))).map (ld k (gr L)) := if_neg k4
      by_cases hxy : L[p]?.getD 0 ≤ L[q]?.getD 0
      · have hpk := pk_mono (s := gr L) k9 hxy
        refine BlockOrder_c (M := (L.map (pk k (gr L))).map (ld k (gr L))) (CC := L.map (pk k (gr L))) hA h20 hp hq hxy k4 ?_ (by rw [List.length_map, List.length_map]) ?_ (by rw [List.length_map]) CP (fun h g => by have := bkLoad_N h g hO (gr_i64 hi ho); rwa [em] at this)
        · have mm : ∀ j, j < L.length → ((L.map (pk k (gr L))).map (ld k (gr L)))[j]?.getD 0 = ld k (gr L) (pk k (gr L) (L[j]?.getD 0)) := fun j hj => by
            rw [map_at (d := 0) (by rw [List.length_map]; exact hj), map_at (d := 0) hj]
          rw [mm p (by omega), mm q (by omega)]
          exact ld_mono k9 (gr_pos L) hpk (pk_le _ _ _)
        · rw [map_at (d := 0) (by omega), map_at (d := 0) (by omega)]
          exact hpk
      · exact BlockOrder_gt hA h20 hp hq (by omega) CP
  · exact BlockOrder_no hA h20 hp hq (fun h => bkPack_no hk h hi h20 ho)

end Go.Proofs.Ytlmcpgahjfepjaa
