/-
  The walk of BlockNear.
-/
import Derived.Test.YtlmcpgahjfepjaaWTwice11
namespace Go.Proofs.Ytlmcpgahjfepjaa
set_option maxRecDepth 100000
open Go.RowKit
set_option linter.unusedVariables false
set_option linter.unusedSimpArgs false

set_option maxRecDepth 100000 in
set_option maxHeartbeats 8000000 in
theorem rtimes_N (w : World) {a b : Int} (ha : I64 a) (hb : I64 b) :
    Calls Try.prog 15 #[.int .i64 a, .int .i64 b] w (GotZ w (a * b)) := by
  have cc := Below.refl w.heap.size w
  go_enter Try.func15, Try.ntmps15
  go_wp2_with fail
  have f0 : (w.alloc (.cells #[.bool false, .slice none 0 0] 38)).frozen? ⟨w.heap.size, 0, none⟩ = false := by simp [go_sem]
  have f1 : (w.alloc (.cells #[.bool false, .slice none 0 0] 38)).frozen? ⟨w.heap.size, 1, none⟩ = false := by simp [go_sem]
  have bA : Below w.heap.size w (w.alloc (.cells #[.bool false, .slice none 0 0] 38)) := ((Below.refl _ w).alloc (by simp) _)
  replace cc := cc.trans (bA.mono cc.size)
  clear bA
  have g0 : (w.alloc (.cells #[.bool false, .slice none 0 0] 38)).cell? ⟨w.heap.size, 0, none⟩ = some (.bool false) := by simp [go_sem]
  have g1 : (w.alloc (.cells #[.bool false, .slice none 0 0] 38)).cell? ⟨w.heap.size, 1, none⟩ = some (.slice none 0 0) := by simp [go_sem]
  have gl : w.heap.size < (w.alloc (.cells #[.bool false, .slice none 0 0] 38)).heap.size := by simp <;> omega
  generalize w.alloc (.cells #[.bool false, .slice none 0 0] 38) = v1 at *
  refine (rzof_N _ a ha).mono ?_
  rintro e w2 ⟨bu, Au, nu, cu, rfl, hu, b⟩
  replace f0 := (b.frozen (p := ⟨w.heap.size, 0, none⟩) gl).trans f0
  replace f1 := (b.frozen (p := ⟨w.heap.size, 1, none⟩) gl).trans f1
  replace g0 := (b.cell (p := ⟨w.heap.size, 0, none⟩) gl).trans g0
  replace g1 := (b.cell (p := ⟨w.heap.size, 1, none⟩) gl).trans g1
  replace gl := Nat.lt_of_lt_of_le gl b.size
  replace cc := cc.trans (b.mono cc.size)
  clear b
  go_wp2_with fail
  refine (rzof_N _ b hb).mono ?_
  rintro e w3 ⟨bv, Av, nv, cv, rfl, hv, b⟩
  replace f0 := (b.frozen (p := ⟨w.heap.size, 0, none⟩) gl).trans f0
  replace f1 := (b.frozen (p := ⟨w.heap.size, 1, none⟩) gl).trans f1
  replace hu := hu.on b
  replace g0 := (b.cell (p := ⟨w.heap.size, 0, none⟩) gl).trans g0
  replace g1 := (b.cell (p := ⟨w.heap.size, 1, none⟩) gl).trans g1
  replace gl := Nat.lt_of_lt_of_le gl b.size
  replace cc := cc.trans (b.mono cc.size)
  clear b
  go_wp2_with fail
  refine (rzmul_N hu hv (Nat.le_trans (len_one ha.abs) (by omega)) (Nat.le_trans (len_one hb.abs) (by omega))).mono ?_
  rintro e w4 ⟨bm, Am, nm, cm, rfl, hm, b⟩
  replace f0 := (b.frozen (p := ⟨w.heap.size, 0, none⟩) gl).trans f0
  replace f1 := (b.frozen (p := ⟨w.heap.size, 1, none⟩) gl).trans f1
  replace hu := hu.on b
  replace hv := hv.on b
  replace g0 := (b.cell (p := ⟨w.heap.size, 0, none⟩) gl).trans g0
  replace g1 := (b.cell (p := ⟨w.heap.size, 1, none⟩) gl).trans g1
  replace gl := Nat.lt_of_lt_of_le gl b.size
  replace cc := cc.trans (b.mono cc.size)
  clear b
  have hn : Zn w4 bm Am nm cm (a * b) := hm
  have eb : Box w4 (w.heap.size) false none 0 0 := ⟨g0, g1⟩
  have HZ : Hid (Zn ((w4.setCell ⟨w.heap.size, 0, none⟩ (.bool bm)).setCell ⟨w.heap.size, 1, none⟩ (.slice Am nm cm)) bm Am nm cm (a * b)) := Lib.hid (hn.put eb _ _)
  clear hn
  go_wp2_with fail
  refine bodyPost_ret (v := .agg #[.bool bm, .slice Am nm cm]) (by simp [results, Try.results15, go_sem, g0, g1]) rfl ⟨_, _, _, _, rfl, HZ.out, below_put cc (by omega) _ _⟩

set_option maxRecDepth 100000 in
set_option maxHeartbeats 8000000 in
theorem BlockNear_few {w : World} {k : Int} {A : Option Addr} {n c : Nat} (h : 20 < n) :
    Calls Try.prog 3 #[.int .i64 k, .slice A n c] w fun e w' => e = .returned (.bool true) ∧ Below w.heap.size w w' := by
  have t0 : decide (20 < (n : Int)) = true := decide_eq_true (by omega)
  have u0 : decide (20 < n) = true := decide_eq_true (by omega)
  have cc := Below.refl w.heap.size w
  go_enter Try.func3, Try.ntmps3
  go_wp2_with fail
  refine (alive11_any _).mono ?_
  rintro e w1 ⟨rfl, b⟩
  replace cc := cc.trans (b.mono cc.size)
  clear b
  go_wp2_with fail
  go_ret
  exact ⟨rfl, cc⟩

set_option maxRecDepth 100000 in
set_option maxHeartbeats 8000000 in
theorem BlockNear_no {w : World} {k : Int} {A : Option Addr} {n c : Nat} {L : List Int} (hA : IR w A n c L) (h20 : n ≤ 20) (CP : ∀ {W : World}, IR W A n c L → Calls Try.prog 8 #[.int .i64 k, .slice A n c] W (GotBp W 0 0 [] [] 1)) :
    Calls Try.prog 3 #[.int .i64 k, .slice A n c] w fun e w' => e = .returned (.bool true) ∧ Below w.heap.size w w' := by
  have t0 : decide (20 < (n : Int)) = false := decide_eq_false (by omega)
  have u0 : decide (20 < n) = false := decide_eq_false (by omega)
  have cc := Below.refl w.heap.size w
  go_enter Try.func3, Try.ntmps3
  go_wp2_with fail
  refine (CP hA).mono ?_
  rintro e w1 ⟨Ax, nx, cx, Bx, mx, dx, rfl, hCx, hWx, b⟩
  replace hA := hA.on b
  replace cc := cc.trans (b.mono cc.size)
  clear b
  have e1_ := hCx.1
  have e2_ := hWx.1
  obtain rfl : nx = 0 := e1_
  obtain rfl : mx = 0 := e2_
  go_wp2_with fail
  have bA := below_one w1 (.cells #[.int .i64 0, .int .i64 0, .slice Ax 0 cx, .slice Bx 0 dx] 26)
  replace hA := hA.on bA
  replace hCx := hCx.on bA
  replace hWx := hWx.on bA
  replace cc := cc.trans (bA.mono cc.size)
  clear bA
  have bx0 : (w1.alloc (.cells #[.int .i64 0, .int .i64 0, .slice Ax 0 cx, .slice Bx 0 dx] 26)).cell? ⟨w1.heap.size, 0, none⟩ = some (.int .i64 0) := by simp [go_sem]
  have bx1 : (w1.alloc (.cells #[.int .i64 0, .int .i64 0, .slice Ax 0 cx, .slice Bx 0 dx] 26)).cell? ⟨w1.heap.size, 1, none⟩ = some (.int .i64 0) := by simp [go_sem]
  have bx2 : (w1.alloc (.cells #[.int .i64 0, .int .i64 0, .slice Ax 0 cx, .slice Bx 0 dx] 26)).cell? ⟨w1.heap.size, 2, none⟩ = some (.slice Ax 0 cx) := by simp [go_sem]
  have bx3 : (w1.alloc (.cells #[.int .i64 0, .int .i64 0, .slice Ax 0 cx, .slice Bx 0 dx] 26)).cell? ⟨w1.heap.size, 3, none⟩ = some (.slice Bx 0 dx) := by simp [go_sem]
  have bxl : w1.heap.size < (w1.alloc (.cells #[.int .i64 0, .int .i64 0, .slice Ax 0 cx, .slice Bx 0 dx] 26)).heap.size := by simp
  generalize w1.alloc (.cells #[.int .i64 0, .int .i64 0, .slice Ax 0 cx, .slice Bx 0 dx] 26) = v2 at *
  go_wp2_with fail
  refine (alive11_any _).mono ?_
  rintro e w3 ⟨rfl, b⟩
  replace hA := hA.on b
  replace hCx := hCx.on b
  replace hWx := hWx.on b
  replace bx0 := (b.cell (p := ⟨w1.heap.size, 0, none⟩) bxl).trans bx0
  replace bx1 := (b.cell (p := ⟨w1.heap.size, 1, none⟩) bxl).trans bx1
  replace bx2 := (b.cell (p := ⟨w1.heap.size, 2, none⟩) bxl).trans bx2
  replace bx3 := (b.cell (p := ⟨w1.heap.size, 3, none⟩) bxl).trans bx3
  replace bxl := Nat.lt_of_lt_of_le bxl b.size
  replace cc := cc.trans (b.mono cc.size)
  clear b
  go_wp2_with fail
  refine (rSame_same hCx hWx (by omega) (by omega) (BR.nil _ _ _) (IR.nil _ _ _) (by omega) (by omega) rfl rfl).mono ?_
  rintro e w4 ⟨rfl, b⟩
  replace hA := hA.on b
  replace hCx := hCx.on b
  replace hWx := hWx.on b
  replace bx0 := (b.cell (p := ⟨w1.heap.size, 0, none⟩) bxl).trans bx0
  replace bx1 := (b.cell (p := ⟨w1.heap.size, 1, none⟩) bxl).trans bx1
  replace bx2 := (b.cell (p := ⟨w1.heap.size, 2, none⟩) bxl).trans bx2
  replace bx3 := (b.cell (p := ⟨w1.heap.size, 3, none⟩) bxl).trans bx3
  replace bxl := Nat.lt_of_lt_of_le bxl b.size
  replace cc := cc.trans (b.mono cc.size)
  clear b
  go_wp2_with fail
  go_ret
  exact ⟨rfl, cc⟩

set_option maxRecDepth 100000 in
set_option maxHeartbeats 8000000 in
theorem BlockNear_w {w : World} {k : Int} {A : Option Addr} {n c : Nat} {L : List Int} (hA : IR w A n c L) (h20 : n ≤ 20) {S : Int} {CC : List Nat} {E : List Int} (hk : k = 4) (CP : ∀ {W : World}, IR W A n c L → Calls Try.prog 8 #[.int .i64 k, .slice A n c] W (GotBp W k S CC E 0)) (D0 : ∀ {W : World} {A B : Option Addr} {n c m d : Nat}, BR W A n c CC → IR W B m d E → Calls Try.prog 10 #[.agg #[.int .i64 k, .int .i64 S, .slice A n c, .slice B m d]] W (GotI W L)) :
    Calls Try.prog 3 #[.int .i64 k, .slice A n c] w fun e w' => e = .returned (.bool true) ∧ Below w.heap.size w w' := by
  have t0 : decide (20 < (n : Int)) = false := decide_eq_false (by omega)
  have u0 : decide (20 < n) = false := decide_eq_false (by omega)
  subst hk
  have cc := Below.refl w.heap.size w
  go_enter Try.func3, Try.ntmps3
  go_wp2_with fail
  refine (CP hA).mono ?_
  rintro e w1 ⟨Ax, nx, cx, Bx, mx, dx, rfl, hCx, hWx, b⟩
  replace hA := hA.on b
  replace cc := cc.trans (b.mono cc.size)
  clear b
  go_wp2_with fail
  have bA := below_one w1 (.cells #[.int .i64 4, .int .i64 S, .slice Ax nx cx, .slice Bx mx dx] 26)
  replace hA := hA.on bA
  replace hCx := hCx.on bA
  replace hWx := hWx.on bA
  replace cc := cc.trans (bA.mono cc.size)
  clear bA
  have bx0 : (w1.alloc (.cells #[.int .i64 4, .int .i64 S, .slice Ax nx cx, .slice Bx mx dx] 26)).cell? ⟨w1.heap.size, 0, none⟩ = some (.int .i64 4) := by simp [go_sem]
  have bx1 : (w1.alloc (.cells #[.int .i64 4, .int .i64 S, .slice Ax nx cx, .slice Bx mx dx] 26)).cell? ⟨w1.heap.size, 1, none⟩ = some (.int .i64 S) := by simp [go_sem]
  have bx2 : (w1.alloc (.cells #[.int .i64 4, .int .i64 S, .slice Ax nx cx, .slice Bx mx dx] 26)).cell? ⟨w1.heap.size, 2, none⟩ = some (.slice Ax nx cx) := by simp [go_sem]
  have bx3 : (w1.alloc (.cells #[.int .i64 4, .int .i64 S, .slice Ax nx cx, .slice Bx mx dx] 26)).cell? ⟨w1.heap.size, 3, none⟩ = some (.slice Bx mx dx) := by simp [go_sem]
  have bxl : w1.heap.size < (w1.alloc (.cells #[.int .i64 4, .int .i64 S, .slice Ax nx cx, .slice Bx mx dx] 26)).heap.size := by simp
  generalize w1.alloc (.cells #[.int .i64 4, .int .i64 S, .slice Ax nx cx, .slice Bx mx dx] 26) = v2 at *
  go_wp2_with fail
  refine (D0 hCx hWx).mono ?_
  rintro e w3 ⟨Az, nz, cz, rfl, hz, b⟩
  replace hA := hA.on b
  replace hCx := hCx.on b
  replace hWx := hWx.on b
  replace bx0 := (b.cell (p := ⟨w1.heap.size, 0, none⟩) bxl).trans bx0
  replace bx1 := (b.cell (p := ⟨w1.heap.size, 1, none⟩) bxl).trans bx1
  replace bx2 := (b.cell (p := ⟨w1.heap.size, 2, none⟩) bxl).trans bx2
  replace bx3 := (b.cell (p := ⟨w1.heap.size, 3, none⟩) bxl).trans bx3
  replace bxl := Nat.lt_of_lt_of_le bxl b.size
  replace cc := cc.trans (b.mono cc.size)
  clear b
  go_wp2_with fail
  refine (alive11_any _).mono ?_
  rintro e w4 ⟨rfl, b⟩
  replace hA := hA.on b
  replace hCx := hCx.on b
  replace hWx := hWx.on b
  replace hz := hz.on b
  replace bx0 := (b.cell (p := ⟨w1.heap.size, 0, none⟩) bxl).trans bx0
  replace bx1 := (b.cell (p := ⟨w1.heap.size, 1, none⟩) bxl).trans bx1
  replace bx2 := (b.cell (p := ⟨w1.heap.size, 2, none⟩) bxl).trans bx2
  replace bx3 := (b.cell (p := ⟨w1.heap.size, 3, none⟩) bxl).trans bx3
  replace bxl := Nat.lt_of_lt_of_le bxl b.size
  replace cc := cc.trans (b.mono cc.size)
  clear b
  go_wp2_with fail
  refine (rsame9_self hA hz (by omega)).mono ?_
  rintro e w5 ⟨rfl, b⟩
  replace hA := hA.on b
  replace hCx := hCx.on b
  replace hWx := hWx.on b
  replace hz := hz.on b
  replace bx0 := (b.cell (p := ⟨w1.heap.size, 0, none⟩) bxl).trans bx0
  replace bx1 := (b.cell (p := ⟨w1.heap.size, 1, none⟩) bxl).trans bx1
  replace bx2 := (b.cell (p := ⟨w1.heap.size, 2, none⟩) bxl).trans bx2
  replace bx3 := (b.cell (p := ⟨w1.heap.size, 3, none⟩) bxl).trans bx3
  replace bxl := Nat.lt_of_lt_of_le bxl b.size
  replace cc := cc.trans (b.mono cc.size)
  clear b
  go_wp2_with fail
  go_ret
  exact ⟨rfl, cc⟩

set_option maxRecDepth 100000 in
set_option maxHeartbeats 8000000 in
theorem BlockNear_yes {w : World} {k : Int} {A : Option Addr} {n c : Nat} {L : List Int} (hA : IR w A n c L) (h20 : n ≤ 20) {S g D : Int} {CC : List Nat} {E M : List Int} (hk : k ≠ 4) (hS : I64 S) (hg : I64 g) (hD : I64 D) (h2D : I64 (2 * D)) (hLi : ∀ j : Nat, I64 (L[j]?.getD 0)) (hMi : ∀ j : Nat, I64 (M[j]?.getD 0)) (hM : M.length = L.length) (hnear : ∀ j, j < L.length → (((L[j]?.getD 0 - M[j]?.getD 0).natAbs : Nat) : Int) * (2 * D) ≤ S * g + D) (CP : ∀ {W : World}, IR W A n c L → Calls Try.prog 8 #[.int .i64 k, .slice A n c] W (GotBp W k S CC E 0)) (D0 : ∀ {W : World} {A B : Option Addr} {n c m d : Nat}, BR W A n c CC → IR W B m d E → Calls Try.prog 10 #[.agg #[.int .i64 k, .int .i64 S, .slice A n c, .slice B m d]] W (GotI W M)) (CG : ∀ {W : World} {A : Option Addr} {n c : Nat}, IR W A n c L → Calls Try.prog 12 #[.slice A n c] W (GotV W (.int .i64 S))) (CDn : ∀ W : World, Calls Try.prog 13 #[.int .i64 k] W (GotV W (.int .i64 D))) (CGp : ∀ W : World, Calls Try.prog 16 #[.int .i64 k] W (GotV W (.int .i64 g))) :
    Calls Try.prog 3 #[.int .i64 k, .slice A n c] w fun e w' => e = .returned (.bool true) ∧ Below w.heap.size w w' := by
  have t0 : decide (20 < (n : Int)) = false := decide_eq_false (by omega)
  have u0 : decide (20 < n) = false := decide_eq_false (by omega)
  have k4 : (k == 4) = false := beq_eq_false_iff_ne.2 hk
  have hd2 : IntKind.i64.wrap (2 * D) = 2 * D := IntWalk.i64_in _ (by unfold I64 at h2D; omega)
  have ls := len_prod hS hg
  have lb : (limbs (S * g + D).natAbs).length ≤ 3 := zlen_add (Nat.le_trans ls (by omega)) (Nat.le_trans (len_one hD.abs) (by omega))
  have HL := Lib.hid hLi
  have HMi := Lib.hid hMi
  have HML := Lib.hid hM
  have HN := Lib.hid hnear
  clear hk hLi hMi hM hnear
  have cc := Below.refl w.heap.size w
  go_enter Try.func3, Try.ntmps3
  go_wp2_with fail
  refine (CP hA).mono ?_
  rintro e w1 ⟨Ax, nx, cx, Bx, mx, dx, rfl, hCx, hWx, b⟩
  replace hA := hA.on b
  replace cc := cc.trans (b.mono cc.size)
  clear b
  go_wp2_with fail
  have bA := below_one w1 (.cells #[.int .i64 k, .int .i64 S, .slice Ax nx cx, .slice Bx mx dx] 26)
  replace hA := hA.on bA
  replace hCx := hCx.on bA
  replace hWx := hWx.on bA
  replace cc := cc.trans (bA.mono cc.size)
  clear bA
  have bx0 : (w1.alloc (.cells #[.int .i64 k, .int .i64 S, .slice Ax nx cx, .slice Bx mx dx] 26)).cell? ⟨w1.heap.size, 0, none⟩ = some (.int .i64 k) := by simp [go_sem]
  have bx1 : (w1.alloc (.cells #[.int .i64 k, .int .i64 S, .slice Ax nx cx, .slice Bx mx dx] 26)).cell? ⟨w1.heap.size, 1, none⟩ = some (.int .i64 S) := by simp [go_sem]
  have bx2 : (w1.alloc (.cells #[.int .i64 k, .int .i64 S, .slice Ax nx cx, .slice Bx mx dx] 26)).cell? ⟨w1.heap.size, 2, none⟩ = some (.slice Ax nx cx) := by simp [go_sem]
  have bx3 : (w1.alloc (.cells #[.int .i64 k, .int .i64 S, .slice Ax nx cx, .slice Bx mx dx] 26)).cell? ⟨w1.heap.size, 3, none⟩ = some (.slice Bx mx dx) := by simp [go_sem]
  have bxl : w1.heap.size < (w1.alloc (.cells #[.int .i64 k, .int .i64 S, .slice Ax nx cx, .slice Bx mx dx] 26)).heap.size := by simp
  generalize w1.alloc (.cells #[.int .i64 k, .int .i64 S, .slice Ax nx cx, .slice Bx mx dx] 26) = v2 at *
  go_wp2_with fail
  refine (D0 hCx hWx).mono ?_
  rintro e w3 ⟨Az, nz, cz, rfl, hz, b⟩
  replace hA := hA.on b
  replace hCx := hCx.on b
  replace hWx := hWx.on b
  replace bx0 := (b.cell (p := ⟨w1.heap.size, 0, none⟩) bxl).trans bx0
  replace bx1 := (b.cell (p := ⟨w1.heap.size, 1, none⟩) bxl).trans bx1
  replace bx2 := (b.cell (p := ⟨w1.heap.size, 2, none⟩) bxl).trans bx2
  replace bx3 := (b.cell (p := ⟨w1.heap.size, 3, none⟩) bxl).trans bx3
  replace bxl := Nat.lt_of_lt_of_le bxl b.size
  replace cc := cc.trans (b.mono cc.size)
  clear b
  obtain rfl : nz = n := by have h1 := hz.1; have h2 := hA.1; have h3 := HML.out; omega
  clear hCx hWx
  go_wp2_with fail
  have bD : Below w3.heap.size w3 w3.drew := below_drewN (Below.refl _ w3) 1
  replace hA := hA.on bD
  replace hz := hz.on bD
  replace bx0 := (bD.cell (p := ⟨w1.heap.size, 0, none⟩) bxl).trans bx0
  replace bx1 := (bD.cell (p := ⟨w1.heap.size, 1, none⟩) bxl).trans bx1
  replace bx2 := (bD.cell (p := ⟨w1.heap.size, 2, none⟩) bxl).trans bx2
  replace bx3 := (bD.cell (p := ⟨w1.heap.size, 3, none⟩) bxl).trans bx3
  replace bxl := Nat.lt_of_lt_of_le bxl bD.size
  replace cc := cc.trans (bD.mono cc.size)
  clear bD
  refine wp_region_held_drew (S := fun w' => w'.cell? ⟨w1.heap.size, 0, none⟩ = some (.int .i64 k) ∧ w'.cell? ⟨w1.heap.size, 1, none⟩ = some (.int .i64 S) ∧ w'.cell? ⟨w1.heap.size, 2, none⟩ = some (.slice Ax nx cx) ∧ w'.cell? ⟨w1.heap.size, 3, none⟩ = some (.slice Bx mx dx)) (by kernel_rfl) ?_ (fun hHeld => ?_)
  · exact ⟨bx0, bx1, bx2, bx3⟩
  refine wpAnyH_take (i := 0) (v := ?_) rfl (by kernel_rfl) (by kernel_rfl) (by kernel_rfl) (fun _ _ _ h => h) (Or.inl ⟨by rfl, ?_⟩) hHeld ?_
  rotate_left
  · (intro w hSw; (try dsimp only at hSw); go_simp; (try with_reducible rfl))
  try simp only [Act.put, List.getElem_toArray, List.getElem_cons_zero, List.getElem_cons_succ, List.setIfInBounds_toArray, List.set_cons_zero, List.set_cons_succ]
  refine wpAnyH_take (i := 1) (v := ?_) rfl (by kernel_rfl) (by kernel_rfl) (by kernel_rfl) (fun _ _ _ h => h) (Or.inl ⟨by rfl, ?_⟩) hHeld ?_
  rotate_left
  · (intro w hSw; (try dsimp only at hSw); go_simp; (try with_reducible rfl))
  try simp only [Act.put, List.getElem_toArray, List.getElem_cons_zero, List.getElem_cons_succ, List.setIfInBounds_toArray, List.set_cons_zero, List.set_cons_succ]
  refine wpAnyH_take (i := 2) (v := ?_) rfl (by kernel_rfl) (by kernel_rfl) (by kernel_rfl) (fun _ _ _ h => h) (Or.inl ⟨by rfl, ?_⟩) hHeld ?_
  rotate_left
  · (intro w hSw; (try dsimp only at hSw); go_simp; (try with_reducible rfl))
  try simp only [Act.put, List.getElem_toArray, List.getElem_cons_zero, List.getElem_cons_succ, List.setIfInBounds_toArray, List.set_cons_zero, List.set_cons_succ]
  refine wpAnyH_take (i := 3) (v := ?_) rfl (by kernel_rfl) (by kernel_rfl) (by kernel_rfl) (fun _ _ _ h => h) (Or.inl ⟨by rfl, ?_⟩) hHeld ?_
  rotate_left
  · (intro w hSw; (try dsimp only at hSw); go_simp; (try with_reducible rfl))
  try simp only [Act.put, List.getElem_toArray, List.getElem_cons_zero, List.getElem_cons_succ, List.setIfInBounds_toArray, List.set_cons_zero, List.set_cons_succ]
  refine wpAnyH_take (i := 4) (v := ?_) rfl (by kernel_rfl) (by kernel_rfl) (by kernel_rfl) (fun _ _ _ h => h) (Or.inl ⟨by rfl, ?_⟩) hHeld ?_
  rotate_left
  · (intro w hSw; (try dsimp only at hSw); go_simp; (try with_reducible rfl))
  try simp only [Act.put, List.getElem_toArray, List.getElem_cons_zero, List.getElem_cons_succ, List.setIfInBounds_toArray, List.set_cons_zero, List.set_cons_succ]
  refine wpAnyH_take (i := 5) (v := ?_) rfl (by kernel_rfl) (by kernel_rfl) (by kernel_rfl) (fun _ _ _ h => h) (Or.inl ⟨by rfl, ?_⟩) hHeld ?_
  rotate_left
  · (intro w hSw; (try dsimp only at hSw); go_simp; (try with_reducible rfl))
  try simp only [Act.put, List.getElem_toArray, List.getElem_cons_zero, List.getElem_cons_succ, List.setIfInBounds_toArray, List.set_cons_zero, List.set_cons_succ]
  refine wpAnyH_take (i := 6) (v := ?_) rfl (by kernel_rfl) (by kernel_rfl) (by kernel_rfl) (fun _ _ _ h => h) (Or.inl ⟨by rfl, ?_⟩) hHeld ?_
  rotate_left
  · (intro w hSw; (try dsimp only at hSw); go_simp; (try with_reducible rfl))
  try simp only [Act.put, List.getElem_toArray, List.getElem_cons_zero, List.getElem_cons_succ, List.setIfInBounds_toArray, List.set_cons_zero, List.set_cons_succ]
  refine wpAnyH_take (i := 7) (v := ?_) rfl (by kernel_rfl) (by kernel_rfl) (by kernel_rfl) (fun _ _ _ h => h) (Or.inl ⟨by rfl, ?_⟩) hHeld ?_
  rotate_left
  · (intro w hSw; (try dsimp only at hSw); go_simp; (try with_reducible rfl))
  try simp only [Act.put, List.getElem_toArray, List.getElem_cons_zero, List.getElem_cons_succ, List.setIfInBounds_toArray, List.set_cons_zero, List.set_cons_succ]
  refine wpAnyH_take (i := 8) (v := ?_) rfl (by kernel_rfl) (by kernel_rfl) (by kernel_rfl) (fun _ _ _ h => h) (Or.inl ⟨by rfl, ?_⟩) hHeld ?_
  rotate_left
  · (intro w hSw; (try dsimp only at hSw); go_simp; (try with_reducible rfl))
  try simp only [Act.put, List.getElem_toArray, List.getElem_cons_zero, List.getElem_cons_succ, List.setIfInBounds_toArray, List.set_cons_zero, List.set_cons_succ]
  refine wpAnyH_ready (rs := [9]) (by kernel_rfl) (by simp) ?_
  refine AllReadyH.cons rfl (fun K hK => ?_) AllReadyH.nil
  (try simp only [List.getElem_toArray, List.getElem_cons_zero, List.getElem_cons_succ])
  rw [if_pos (by rfl)]
  go_simp
  go_at_call 12
  refine (CG hA).mono ?_
  rintro e w4 ⟨rfl, b⟩
  replace hA := hA.on b
  replace hz := hz.on b
  replace bx0 := (b.cell (p := ⟨w1.heap.size, 0, none⟩) bxl).trans bx0
  replace bx1 := (b.cell (p := ⟨w1.heap.size, 1, none⟩) bxl).trans bx1
  replace bx2 := (b.cell (p := ⟨w1.heap.size, 2, none⟩) bxl).trans bx2
  replace bx3 := (b.cell (p := ⟨w1.heap.size, 3, none⟩) bxl).trans bx3
  replace bxl := Nat.lt_of_lt_of_le bxl b.size
  replace cc := cc.trans (b.mono cc.size)
  clear b
  refine hK.out _ _ ?_ (fun hHeld => ?_)
  · exact ⟨bx0, bx1, bx2, bx3⟩
  clear hK K
  try simp only [Act.put, List.getElem_toArray, List.getElem_cons_zero, List.getElem_cons_succ, List.setIfInBounds_toArray, List.set_cons_zero, List.set_cons_succ]
  refine wpAnyH_take (i := 10) (v := ?_) rfl (by kernel_rfl) (by kernel_rfl) (by kernel_rfl) (fun _ _ _ h => h) (Or.inl ⟨by rfl, ?_⟩) hHeld ?_
  rotate_left
  · (intro w hSw; (try dsimp only at hSw); go_simp; (try with_reducible rfl))
  try simp only [Act.put, List.getElem_toArray, List.getElem_cons_zero, List.getElem_cons_succ, List.setIfInBounds_toArray, List.set_cons_zero, List.set_cons_succ]
  refine wpAnyH_take (i := 11) (v := ?_) rfl (by kernel_rfl) (by kernel_rfl) (by kernel_rfl) (fun _ _ _ h => h) (Or.inl ⟨by rfl, ?_⟩) hHeld ?_
  rotate_left
  · (intro w hSw; (try dsimp only at hSw); go_simp; (try with_reducible rfl))
  try simp only [Act.put, List.getElem_toArray, List.getElem_cons_zero, List.getElem_cons_succ, List.setIfInBounds_toArray, List.set_cons_zero, List.set_cons_succ]
  refine wpAnyH_done (by kernel_rfl) ?_ _
  clear hHeld
  go_wp2_with fail
  refine (CDn _).mono ?_
  rintro e w5 ⟨rfl, b⟩
  replace hA := hA.on b
  replace hz := hz.on b
  replace bx0 := (b.cell (p := ⟨w1.heap.size, 0, none⟩) bxl).trans bx0
  replace bx1 := (b.cell (p := ⟨w1.heap.size, 1, none⟩) bxl).trans bx1
  replace bx2 := (b.cell (p := ⟨w1.heap.size, 2, none⟩) bxl).trans bx2
  replace bx3 := (b.cell (p := ⟨w1.heap.size, 3, none⟩) bxl).trans bx3
  replace bxl := Nat.lt_of_lt_of_le bxl b.size
  replace cc := cc.trans (b.mono cc.size)
  clear b
  go_upto_region 12 with fail
  go_cut [9] (fun u wx => ∃ (g_ : Nat) (b_ : Bool) (A_ : Option Addr) (n_ c_ : Nat), u = .pointer (some ⟨g_, 0, none⟩) ∧ LoneZ w5 wx g_ b_ A_ n_ c_ (S * g + D))
  case first =>
    have BB0 : Below w5.heap.size w5 w5.drew := below_drewN (Below.refl _ w5) 1
    have BB1 : Below w5.heap.size w5 (w5.alloc (.cells #[.bool false, .slice none 0 0] 38)).drew := below_drewN (below_one _ _) 1
    go_region_held3 (fun w' => w'.cell? ⟨w1.heap.size, 0, none⟩ = some (.int .i64 k) ∧ w'.cell? ⟨w1.heap.size, 1, none⟩ = some (.int .i64 S) ∧ w'.cell? ⟨w1.heap.size, 2, none⟩ = some (.slice Ax nx cx) ∧ w'.cell? ⟨w1.heap.size, 3, none⟩ = some (.slice Bx mx dx))
      (first | with_reducible exact ⟨bx0, bx1, bx2, bx3⟩ | with_reducible exact ⟨keep_alloc (bx0), keep_alloc (bx1), keep_alloc (bx2), keep_alloc (bx3)⟩ | with_reducible exact ⟨keep_alloc (keep_alloc (bx0)), keep_alloc (keep_alloc (bx1)), keep_alloc (keep_alloc (bx2)), keep_alloc (keep_alloc (bx3))⟩ | with_reducible exact ⟨((qq.cell (p := ⟨w1.heap.size, 0, none⟩) bxl).trans bx0), ((qq.cell (p := ⟨w1.heap.size, 1, none⟩) bxl).trans bx1), ((qq.cell (p := ⟨w1.heap.size, 2, none⟩) bxl).trans bx2), ((qq.cell (p := ⟨w1.heap.size, 3, none⟩) bxl).trans bx3)⟩ | with_reducible exact ⟨keep_alloc (((qq.cell (p := ⟨w1.heap.size, 0, none⟩) bxl).trans bx0)), keep_alloc (((qq.cell (p := ⟨w1.heap.size, 1, none⟩) bxl).trans bx1)), keep_alloc (((qq.cell (p := ⟨w1.heap.size, 2, none⟩) bxl).trans bx2)), keep_alloc (((qq.cell (p := ⟨w1.heap.size, 3, none⟩) bxl).trans bx3))⟩ | with_reducible exact ⟨keep_alloc (keep_alloc (((qq.cell (p := ⟨w1.heap.size, 0, none⟩) bxl).trans bx0))), keep_alloc (keep_alloc (((qq.cell (p := ⟨w1.heap.size, 1, none⟩) bxl).trans bx1))), keep_alloc (keep_alloc (((qq.cell (p := ⟨w1.heap.size, 2, none⟩) bxl).trans bx2))), keep_alloc (keep_alloc (((qq.cell (p := ⟨w1.heap.size, 3, none⟩) bxl).trans bx3)))⟩ | with_reducible exact ⟨((cell_store (by omega)).trans ((qq.cell (p := ⟨w1.heap.size, 0, none⟩) bxl).trans bx0)), ((cell_store (by omega)).trans ((qq.cell (p := ⟨w1.heap.size, 1, none⟩) bxl).trans bx1)), ((cell_store (by omega)).trans ((qq.cell (p := ⟨w1.heap.size, 2, none⟩) bxl).trans bx2)), ((cell_store (by omega)).trans ((qq.cell (p := ⟨w1.heap.size, 3, none⟩) bxl).trans bx3))⟩ | with_reducible exact ⟨keep_alloc (((cell_store (by omega)).trans ((qq.cell (p := ⟨w1.heap.size, 0, none⟩) bxl).trans bx0))), keep_alloc (((cell_store (by omega)).trans ((qq.cell (p := ⟨w1.heap.size, 1, none⟩) bxl).trans bx1))), keep_alloc (((cell_store (by omega)).trans ((qq.cell (p := ⟨w1.heap.size, 2, none⟩) bxl).trans bx2))), keep_alloc (((cell_store (by omega)).trans ((qq.cell (p := ⟨w1.heap.size, 3, none⟩) bxl).trans bx3)))⟩ | with_reducible exact ⟨keep_alloc (keep_alloc (((cell_store (by omega)).trans ((qq.cell (p := ⟨w1.heap.size, 0, none⟩) bxl).trans bx0)))), keep_alloc (keep_alloc (((cell_store (by omega)).trans ((qq.cell (p := ⟨w1.heap.size, 1, none⟩) bxl).trans bx1)))), keep_alloc (keep_alloc (((cell_store (by omega)).trans ((qq.cell (p := ⟨w1.heap.size, 2, none⟩) bxl).trans bx2)))), keep_alloc (keep_alloc (((cell_store (by omega)).trans ((qq.cell (p := ⟨w1.heap.size, 3, none⟩) bxl).trans bx3))))⟩ | go_keep)
      (first
        | (go_at_call 16; (with_reducible refine (CGp _).mono ?_); rintro e y1 ⟨rfl, q⟩; have qq := BB0.trans (q.mono BB0.size); have hA' := (hA.on BB0).on q; have hz' := (hz.on BB0).on q; have qs1 := qq.size; clear q)
        | (go_at_call 16; (with_reducible refine (CGp _).mono ?_); rintro e y1 ⟨rfl, q⟩; have qq := BB1.trans (q.mono BB1.size); have hA' := (hA.on BB1).on q; have hz' := (hz.on BB1).on q; have qs1 := qq.size; have bo_0 := (q.cell (p := ⟨w5.heap.size, 0, none⟩) (by simp)).trans (show _ = some (.bool false) by simp [go_sem]); have fo_0 := (q.frozen (p := ⟨w5.heap.size, 0, none⟩) (by simp)).trans (show _ = false by simp [go_sem]); have bo_1 := (q.cell (p := ⟨w5.heap.size, 1, none⟩) (by simp)).trans (show _ = some (.slice none 0 0) by simp [go_sem]); have fo_1 := (q.frozen (p := ⟨w5.heap.size, 1, none⟩) (by simp)).trans (show _ = false by simp [go_sem]); have ol : w5.heap.size < y1.heap.size := Nat.lt_of_lt_of_le (by simp) q.size; clear q)
        | (go_at_call 15; have up := Below.refl y1.heap.size y1; (with_reducible refine (rtimes_N _ hS hg).mono ?_); rintro e y2 ⟨bt, At, nt, ct, rfl, ht, q⟩; replace qq := (qq.trans (up.mono qq.size)).trans (q.mono (Nat.le_trans qq.size up.size)); replace hA' := (hA'.on up).on q; replace hz' := (hz'.on up).on q; (try replace bo_0 := (q.cell (Nat.lt_of_lt_of_le ol up.size)).trans ((up.cell ol).trans bo_0)); (try replace fo_0 := (q.frozen (Nat.lt_of_lt_of_le ol up.size)).trans ((up.frozen ol).trans fo_0)); (try replace bo_1 := (q.cell (Nat.lt_of_lt_of_le ol up.size)).trans ((up.cell ol).trans bo_1)); (try replace fo_1 := (q.frozen (Nat.lt_of_lt_of_le ol up.size)).trans ((up.frozen ol).trans fo_1)); (try replace ol := Nat.lt_of_lt_of_le ol (Nat.le_trans up.size q.size)); have qs2 := qq.size; clear q up)
        | (go_at_call 15; have up := below_one y1 (.cells #[.bool false, .slice none 0 0] 38); (with_reducible refine (rtimes_N _ hS hg).mono ?_); rintro e y2 ⟨bt, At, nt, ct, rfl, ht, q⟩; replace qq := (qq.trans (up.mono qq.size)).trans (q.mono (Nat.le_trans qq.size up.size)); replace hA' := (hA'.on up).on q; replace hz' := (hz'.on up).on q; (try replace bo_0 := (q.cell (Nat.lt_of_lt_of_le ol up.size)).trans ((up.cell ol).trans bo_0)); (try replace fo_0 := (q.frozen (Nat.lt_of_lt_of_le ol up.size)).trans ((up.frozen ol).trans fo_0)); (try replace bo_1 := (q.cell (Nat.lt_of_lt_of_le ol up.size)).trans ((up.cell ol).trans bo_1)); (try replace fo_1 := (q.frozen (Nat.lt_of_lt_of_le ol up.size)).trans ((up.frozen ol).trans fo_1)); (try replace ol := Nat.lt_of_lt_of_le ol (Nat.le_trans up.size q.size)); have qs2 := qq.size; have bo_0 := (q.cell (p := ⟨y1.heap.size, 0, none⟩) (by simp)).trans (show _ = some (.bool false) by simp [go_sem]); have fo_0 := (q.frozen (p := ⟨y1.heap.size, 0, none⟩) (by simp)).trans (show _ = false by simp [go_sem]); have bo_1 := (q.cell (p := ⟨y1.heap.size, 1, none⟩) (by simp)).trans (show _ = some (.slice none 0 0) by simp [go_sem]); have fo_1 := (q.frozen (p := ⟨y1.heap.size, 1, none⟩) (by simp)).trans (show _ = false by simp [go_sem]); have ol : y1.heap.size < y2.heap.size := Nat.lt_of_lt_of_le (by simp) q.size; clear q up)
        | (go_at_call 17; have up := Below.refl y2.heap.size y2; (with_reducible refine (rzof_N _ D hD).mono ?_); rintro e y3 ⟨bv, Av, nv, cv, rfl, hv, q⟩; replace qq := (qq.trans (up.mono qq.size)).trans (q.mono (Nat.le_trans qq.size up.size)); replace hA' := (hA'.on up).on q; replace hz' := (hz'.on up).on q; replace ht := (ht.on up).on q; (try replace bo_0 := (q.cell (Nat.lt_of_lt_of_le ol up.size)).trans ((up.cell ol).trans bo_0)); (try replace fo_0 := (q.frozen (Nat.lt_of_lt_of_le ol up.size)).trans ((up.frozen ol).trans fo_0)); (try replace bo_1 := (q.cell (Nat.lt_of_lt_of_le ol up.size)).trans ((up.cell ol).trans bo_1)); (try replace fo_1 := (q.frozen (Nat.lt_of_lt_of_le ol up.size)).trans ((up.frozen ol).trans fo_1)); (try replace ol := Nat.lt_of_lt_of_le ol (Nat.le_trans up.size q.size)); have qs3 := qq.size; clear q up)
        | (go_at_call 17; have up := below_one y2 (.cells #[.bool false, .slice none 0 0] 38); (with_reducible refine (rzof_N _ D hD).mono ?_); rintro e y3 ⟨bv, Av, nv, cv, rfl, hv, q⟩; replace qq := (qq.trans (up.mono qq.size)).trans (q.mono (Nat.le_trans qq.size up.size)); replace hA' := (hA'.on up).on q; replace hz' := (hz'.on up).on q; replace ht := (ht.on up).on q; (try replace bo_0 := (q.cell (Nat.lt_of_lt_of_le ol up.size)).trans ((up.cell ol).trans bo_0)); (try replace fo_0 := (q.frozen (Nat.lt_of_lt_of_le ol up.size)).trans ((up.frozen ol).trans fo_0)); (try replace bo_1 := (q.cell (Nat.lt_of_lt_of_le ol up.size)).trans ((up.cell ol).trans bo_1)); (try replace fo_1 := (q.frozen (Nat.lt_of_lt_of_le ol up.size)).trans ((up.frozen ol).trans fo_1)); (try replace ol := Nat.lt_of_lt_of_le ol (Nat.le_trans up.size q.size)); have qs3 := qq.size; have bo_0 := (q.cell (p := ⟨y2.heap.size, 0, none⟩) (by simp)).trans (show _ = some (.bool false) by simp [go_sem]); have fo_0 := (q.frozen (p := ⟨y2.heap.size, 0, none⟩) (by simp)).trans (show _ = false by simp [go_sem]); have bo_1 := (q.cell (p := ⟨y2.heap.size, 1, none⟩) (by simp)).trans (show _ = some (.slice none 0 0) by simp [go_sem]); have fo_1 := (q.frozen (p := ⟨y2.heap.size, 1, none⟩) (by simp)).trans (show _ = false by simp [go_sem]); have ol : y2.heap.size < y3.heap.size := Nat.lt_of_lt_of_le (by simp) q.size; clear q up)
        | (go_at_call 14; have up := Below.refl y3.heap.size y3; (with_reducible refine (rzadd_N (ht.on up) (hv.on up) (Nat.le_trans ls (by omega)) (Nat.le_trans (len_one hD.abs) (by omega))).mono ?_); rintro e y4 ⟨bm, Am, nm, cm, rfl, hm, q⟩; replace qq := (qq.trans (up.mono qq.size)).trans (q.mono (Nat.le_trans qq.size up.size)); replace hA' := (hA'.on up).on q; replace hz' := (hz'.on up).on q; replace ht := (ht.on up).on q; replace hv := (hv.on up).on q; (try replace bo_0 := (q.cell (Nat.lt_of_lt_of_le ol up.size)).trans ((up.cell ol).trans bo_0)); (try replace fo_0 := (q.frozen (Nat.lt_of_lt_of_le ol up.size)).trans ((up.frozen ol).trans fo_0)); (try replace bo_1 := (q.cell (Nat.lt_of_lt_of_le ol up.size)).trans ((up.cell ol).trans bo_1)); (try replace fo_1 := (q.frozen (Nat.lt_of_lt_of_le ol up.size)).trans ((up.frozen ol).trans fo_1)); (try replace ol := Nat.lt_of_lt_of_le ol (Nat.le_trans up.size q.size)); have qs4 := qq.size; clear q up)
        | (go_at_call 14; have up := below_one y3 (.cells #[.bool false, .slice none 0 0] 38); (with_reducible refine (rzadd_N (ht.on up) (hv.on up) (Nat.le_trans ls (by omega)) (Nat.le_trans (len_one hD.abs) (by omega))).mono ?_); rintro e y4 ⟨bm, Am, nm, cm, rfl, hm, q⟩; replace qq := (qq.trans (up.mono qq.size)).trans (q.mono (Nat.le_trans qq.size up.size)); replace hA' := (hA'.on up).on q; replace hz' := (hz'.on up).on q; replace ht := (ht.on up).on q; replace hv := (hv.on up).on q; (try replace bo_0 := (q.cell (Nat.lt_of_lt_of_le ol up.size)).trans ((up.cell ol).trans bo_0)); (try replace fo_0 := (q.frozen (Nat.lt_of_lt_of_le ol up.size)).trans ((up.frozen ol).trans fo_0)); (try replace bo_1 := (q.cell (Nat.lt_of_lt_of_le ol up.size)).trans ((up.cell ol).trans bo_1)); (try replace fo_1 := (q.frozen (Nat.lt_of_lt_of_le ol up.size)).trans ((up.frozen ol).trans fo_1)); (try replace ol := Nat.lt_of_lt_of_le ol (Nat.le_trans up.size q.size)); have qs4 := qq.size; have bo_0 := (q.cell (p := ⟨y3.heap.size, 0, none⟩) (by simp)).trans (show _ = some (.bool false) by simp [go_sem]); have fo_0 := (q.frozen (p := ⟨y3.heap.size, 0, none⟩) (by simp)).trans (show _ = false by simp [go_sem]); have bo_1 := (q.cell (p := ⟨y3.heap.size, 1, none⟩) (by simp)).trans (show _ = some (.slice none 0 0) by simp [go_sem]); have fo_1 := (q.frozen (p := ⟨y3.heap.size, 1, none⟩) (by simp)).trans (show _ = false by simp [go_sem]); have ol : y3.heap.size < y4.heap.size := Nat.lt_of_lt_of_le (by simp) q.size; clear q up))
    all_goals (go_wp2_with fail; go_meet)
    all_goals refine ⟨_, bm, Am, nm, cm, rfl, ?_⟩
    all_goals first
      | with_reducible exact loneZA hm qq _
      | with_reducible exact loneZB bo_0 bo_1 hm qq (by omega)
  case rest =>
    obtain ⟨gbd, bbd, Abd, nbd, cbd, rfl, ⟨bd0, bd1⟩, hbd, b, bdge⟩ := hcut
    have bdl := cell_lt bd0
    simp only at bdl
    have bdqbx : w1.heap.size < gbd := Nat.lt_of_lt_of_le bxl bdge
    replace hA := hA.on b
    replace hz := hz.on b
    replace bx0 := (b.cell (p := ⟨w1.heap.size, 0, none⟩) bxl).trans bx0
    replace bx1 := (b.cell (p := ⟨w1.heap.size, 1, none⟩) bxl).trans bx1
    replace bx2 := (b.cell (p := ⟨w1.heap.size, 2, none⟩) bxl).trans bx2
    replace bx3 := (b.cell (p := ⟨w1.heap.size, 3, none⟩) bxl).trans bx3
    replace bxl := Nat.lt_of_lt_of_le bxl b.size
    replace cc := cc.trans (b.mono cc.size)
    clear b
    obtain ⟨wb, rfl⟩ : ∃ W : World, W = wc := ⟨wc, rfl⟩
    have HA := Lib.hid hA
    have HZ := Lib.hid hz
    have HBD := Lib.hid hbd
    have BD0 := Lib.hid bd0
    have BD1 := Lib.hid bd1
    have BDL := Lib.hid bdl
    have CCV := Lib.hid cc
    clear hA hz hbd bd0 bd1 bdl cc bx0 bx1 bx2 bx3 bxl bdge bdqbx
    go_wp2_with fail
    go_loopw [10] (fun iv wr => ∃ i : Nat, i ≤ nz ∧ iv = .int .i64 (i : Int) ∧ Below wb.heap.size wb wr) (fun iv _ => nz - (intOf iv).toNat)
    case atStart => exact ⟨0, by omega, rfl, Below.refl _ _⟩
    case round =>
      obtain ⟨i, hi, rfl, hbl⟩ := hrel
      have cc := CCV.out.trans (hbl.mono CCV.out.size)
      by_cases hlt : i < nz
      · skip
        have bd0 := (hbl.cell (p := ⟨gbd, 0, none⟩) BDL.out).trans BD0.out
        have bd1 := (hbl.cell (p := ⟨gbd, 1, none⟩) BDL.out).trans BD1.out
        have bdl := Nat.lt_of_lt_of_le BDL.out hbl.size
        have hbd := HBD.out.on hbl
        have hAl := HA.out.1
        obtain ⟨b1, o1, eA, hb1, hc1⟩ := (HA.out.on hbl).2.2 (by omega)
        subst eA
        obtain ⟨b2, o2, eZ, hb2, hc2⟩ := (HZ.out.on hbl).2.2 (by omega)
        subst eZ
        have e1 := hc1 i hlt
        have e2 := hc2 i hlt
        have hx6 := HL.out i
        have hy6 := HMi.out i
        have hn := HN.out i (by omega)
        have k3 : IntKind.i64.wrap ((i : Int) + 1) = ((i + 1 : Nat) : Int) := by rw [IntWalk.i64_in _ (by omega)]; omega
        obtain ⟨x, hx⟩ : ∃ x, L[i]?.getD 0 = x := ⟨_, rfl⟩
        obtain ⟨y, hy⟩ : ∃ y, M[i]?.getD 0 = y := ⟨_, rfl⟩
        rw [hx] at e1 hx6 hn
        rw [hy] at e2 hy6 hn
        have ld_ : (limbs (x - y).natAbs).length ≤ 2 := len_diff (len_one hx6.abs) (len_one hy6.abs)
        have lf_ : (limbs ((((x - y).natAbs : Nat) : Int) * (2 * D)).natAbs).length ≤ 3 := zlen_mul (by rw [Int.natAbs_natCast]; exact ld_) (len_one h2D.abs)
        obtain ⟨r, hr⟩ : ∃ r, cmpZ ((((x - y).natAbs : Nat) : Int) * (2 * D)) (S * g + D) = r := ⟨_, rfl⟩
        have t1 : decide (0 < r) = false := decide_eq_false (by rw [← hr]; have := cmpZ_ngt.2 hn; omega)
        have HR := Lib.hid hr
        clear hc1 hc2 hx hy hn hr hAl
        go_upto_region 16 with fail
        go_cut [11] (fun u wx => ∃ (g_ : Nat) (b_ : Bool) (A_ : Option Addr) (n_ c_ : Nat), u = .pointer (some ⟨g_, 0, none⟩) ∧ LoneZ wr wx g_ b_ A_ n_ c_ (x - y))
        case first =>
          have BB0 : Below wr.heap.size wr wr.drew := below_drewN (Below.refl _ wr) 1
          have BB1 : Below wr.heap.size wr (wr.alloc (.cells #[.bool false, .slice none 0 0] 38)).drew := below_drewN (below_one _ _) 1
          go_region_held3 (fun w' => w'.cell? ⟨b1, o1 + i, none⟩ = some (.int .i64 x) ∧ w'.cell? ⟨b2, o2 + i, none⟩ = some (.int .i64 y) ∧ w'.cell? ⟨gbd, 0, none⟩ = some (.bool bbd) ∧ w'.cell? ⟨gbd, 1, none⟩ = some (.slice Abd nbd cbd))
            (first | with_reducible exact ⟨e1, e2, bd0, bd1⟩ | with_reducible exact ⟨keep_alloc (e1), keep_alloc (e2), keep_alloc (bd0), keep_alloc (bd1)⟩ | with_reducible exact ⟨keep_alloc (keep_alloc (e1)), keep_alloc (keep_alloc (e2)), keep_alloc (keep_alloc (bd0)), keep_alloc (keep_alloc (bd1))⟩ | with_reducible exact ⟨((qq.cell (p := ⟨b1, o1 + i, none⟩) hb1).trans e1), ((qq.cell (p := ⟨b2, o2 + i, none⟩) hb2).trans e2), ((qq.cell (p := ⟨gbd, 0, none⟩) bdl).trans bd0), ((qq.cell (p := ⟨gbd, 1, none⟩) bdl).trans bd1)⟩ | with_reducible exact ⟨keep_alloc (((qq.cell (p := ⟨b1, o1 + i, none⟩) hb1).trans e1)), keep_alloc (((qq.cell (p := ⟨b2, o2 + i, none⟩) hb2).trans e2)), keep_alloc (((qq.cell (p := ⟨gbd, 0, none⟩) bdl).trans bd0)), keep_alloc (((qq.cell (p := ⟨gbd, 1, none⟩) bdl).trans bd1))⟩ | with_reducible exact ⟨keep_alloc (keep_alloc (((qq.cell (p := ⟨b1, o1 + i, none⟩) hb1).trans e1))), keep_alloc (keep_alloc (((qq.cell (p := ⟨b2, o2 + i, none⟩) hb2).trans e2))), keep_alloc (keep_alloc (((qq.cell (p := ⟨gbd, 0, none⟩) bdl).trans bd0))), keep_alloc (keep_alloc (((qq.cell (p := ⟨gbd, 1, none⟩) bdl).trans bd1)))⟩ | with_reducible exact ⟨((cell_store (by omega)).trans ((qq.cell (p := ⟨b1, o1 + i, none⟩) hb1).trans e1)), ((cell_store (by omega)).trans ((qq.cell (p := ⟨b2, o2 + i, none⟩) hb2).trans e2)), ((cell_store (by omega)).trans ((qq.cell (p := ⟨gbd, 0, none⟩) bdl).trans bd0)), ((cell_store (by omega)).trans ((qq.cell (p := ⟨gbd, 1, none⟩) bdl).trans bd1))⟩ | with_reducible exact ⟨keep_alloc (((cell_store (by omega)).trans ((qq.cell (p := ⟨b1, o1 + i, none⟩) hb1).trans e1))), keep_alloc (((cell_store (by omega)).trans ((qq.cell (p := ⟨b2, o2 + i, none⟩) hb2).trans e2))), keep_alloc (((cell_store (by omega)).trans ((qq.cell (p := ⟨gbd, 0, none⟩) bdl).trans bd0))), keep_alloc (((cell_store (by omega)).trans ((qq.cell (p := ⟨gbd, 1, none⟩) bdl).trans bd1)))⟩ | with_reducible exact ⟨keep_alloc (keep_alloc (((cell_store (by omega)).trans ((qq.cell (p := ⟨b1, o1 + i, none⟩) hb1).trans e1)))), keep_alloc (keep_alloc (((cell_store (by omega)).trans ((qq.cell (p := ⟨b2, o2 + i, none⟩) hb2).trans e2)))), keep_alloc (keep_alloc (((cell_store (by omega)).trans ((qq.cell (p := ⟨gbd, 0, none⟩) bdl).trans bd0)))), keep_alloc (keep_alloc (((cell_store (by omega)).trans ((qq.cell (p := ⟨gbd, 1, none⟩) bdl).trans bd1))))⟩ | go_keep)
            (first
              | (go_at_call 17; (with_reducible refine (rzof_N _ x hx6).mono ?_); rintro e y1 ⟨bu, Au, nu, cu, rfl, hu, q⟩; have qq := BB0.trans (q.mono BB0.size); have hbd' := (hbd.on BB0).on q; have qs1 := qq.size; clear q)
              | (go_at_call 17; (with_reducible refine (rzof_N _ x hx6).mono ?_); rintro e y1 ⟨bu, Au, nu, cu, rfl, hu, q⟩; have qq := BB1.trans (q.mono BB1.size); have hbd' := (hbd.on BB1).on q; have qs1 := qq.size; have bo_0 := (q.cell (p := ⟨wr.heap.size, 0, none⟩) (by simp)).trans (show _ = some (.bool false) by simp [go_sem]); have fo_0 := (q.frozen (p := ⟨wr.heap.size, 0, none⟩) (by simp)).trans (show _ = false by simp [go_sem]); have bo_1 := (q.cell (p := ⟨wr.heap.size, 1, none⟩) (by simp)).trans (show _ = some (.slice none 0 0) by simp [go_sem]); have fo_1 := (q.frozen (p := ⟨wr.heap.size, 1, none⟩) (by simp)).trans (show _ = false by simp [go_sem]); have ol : wr.heap.size < y1.heap.size := Nat.lt_of_lt_of_le (by simp) q.size; clear q)
              | (go_at_call 17; have up := Below.refl y1.heap.size y1; (with_reducible refine (rzof_N _ y hy6).mono ?_); rintro e y2 ⟨bv, Av, nv, cv, rfl, hv, q⟩; replace qq := (qq.trans (up.mono qq.size)).trans (q.mono (Nat.le_trans qq.size up.size)); replace hbd' := (hbd'.on up).on q; replace hu := (hu.on up).on q; (try replace bo_0 := (q.cell (Nat.lt_of_lt_of_le ol up.size)).trans ((up.cell ol).trans bo_0)); (try replace fo_0 := (q.frozen (Nat.lt_of_lt_of_le ol up.size)).trans ((up.frozen ol).trans fo_0)); (try replace bo_1 := (q.cell (Nat.lt_of_lt_of_le ol up.size)).trans ((up.cell ol).trans bo_1)); (try replace fo_1 := (q.frozen (Nat.lt_of_lt_of_le ol up.size)).trans ((up.frozen ol).trans fo_1)); (try replace ol := Nat.lt_of_lt_of_le ol (Nat.le_trans up.size q.size)); have qs2 := qq.size; clear q up)
              | (go_at_call 17; have up := below_one y1 (.cells #[.bool false, .slice none 0 0] 38); (with_reducible refine (rzof_N _ y hy6).mono ?_); rintro e y2 ⟨bv, Av, nv, cv, rfl, hv, q⟩; replace qq := (qq.trans (up.mono qq.size)).trans (q.mono (Nat.le_trans qq.size up.size)); replace hbd' := (hbd'.on up).on q; replace hu := (hu.on up).on q; (try replace bo_0 := (q.cell (Nat.lt_of_lt_of_le ol up.size)).trans ((up.cell ol).trans bo_0)); (try replace fo_0 := (q.frozen (Nat.lt_of_lt_of_le ol up.size)).trans ((up.frozen ol).trans fo_0)); (try replace bo_1 := (q.cell (Nat.lt_of_lt_of_le ol up.size)).trans ((up.cell ol).trans bo_1)); (try replace fo_1 := (q.frozen (Nat.lt_of_lt_of_le ol up.size)).trans ((up.frozen ol).trans fo_1)); (try replace ol := Nat.lt_of_lt_of_le ol (Nat.le_trans up.size q.size)); have qs2 := qq.size; have bo_0 := (q.cell (p := ⟨y1.heap.size, 0, none⟩) (by simp)).trans (show _ = some (.bool false) by simp [go_sem]); have fo_0 := (q.frozen (p := ⟨y1.heap.size, 0, none⟩) (by simp)).trans (show _ = false by simp [go_sem]); have bo_1 := (q.cell (p := ⟨y1.heap.size, 1, none⟩) (by simp)).trans (show _ = some (.slice none 0 0) by simp [go_sem]); have fo_1 := (q.frozen (p := ⟨y1.heap.size, 1, none⟩) (by simp)).trans (show _ = false by simp [go_sem]); have ol : y1.heap.size < y2.heap.size := Nat.lt_of_lt_of_le (by simp) q.size; clear q up)
              | (go_at_call 18; have up := Below.refl y2.heap.size y2; (with_reducible refine (rzsub_N (hu.on up) (Nat.le_trans (len_one hx6.abs) (by omega)) (hv.on up) (Nat.le_trans (len_one hy6.abs) (by omega))).mono ?_); rintro e y3 ⟨bm, Am, nm, cm, rfl, hm, q⟩; replace qq := (qq.trans (up.mono qq.size)).trans (q.mono (Nat.le_trans qq.size up.size)); replace hbd' := (hbd'.on up).on q; replace hu := (hu.on up).on q; replace hv := (hv.on up).on q; (try replace bo_0 := (q.cell (Nat.lt_of_lt_of_le ol up.size)).trans ((up.cell ol).trans bo_0)); (try replace fo_0 := (q.frozen (Nat.lt_of_lt_of_le ol up.size)).trans ((up.frozen ol).trans fo_0)); (try replace bo_1 := (q.cell (Nat.lt_of_lt_of_le ol up.size)).trans ((up.cell ol).trans bo_1)); (try replace fo_1 := (q.frozen (Nat.lt_of_lt_of_le ol up.size)).trans ((up.frozen ol).trans fo_1)); (try replace ol := Nat.lt_of_lt_of_le ol (Nat.le_trans up.size q.size)); have qs3 := qq.size; clear q up)
              | (go_at_call 18; have up := below_one y2 (.cells #[.bool false, .slice none 0 0] 38); (with_reducible refine (rzsub_N (hu.on up) (Nat.le_trans (len_one hx6.abs) (by omega)) (hv.on up) (Nat.le_trans (len_one hy6.abs) (by omega))).mono ?_); rintro e y3 ⟨bm, Am, nm, cm, rfl, hm, q⟩; replace qq := (qq.trans (up.mono qq.size)).trans (q.mono (Nat.le_trans qq.size up.size)); replace hbd' := (hbd'.on up).on q; replace hu := (hu.on up).on q; replace hv := (hv.on up).on q; (try replace bo_0 := (q.cell (Nat.lt_of_lt_of_le ol up.size)).trans ((up.cell ol).trans bo_0)); (try replace fo_0 := (q.frozen (Nat.lt_of_lt_of_le ol up.size)).trans ((up.frozen ol).trans fo_0)); (try replace bo_1 := (q.cell (Nat.lt_of_lt_of_le ol up.size)).trans ((up.cell ol).trans bo_1)); (try replace fo_1 := (q.frozen (Nat.lt_of_lt_of_le ol up.size)).trans ((up.frozen ol).trans fo_1)); (try replace ol := Nat.lt_of_lt_of_le ol (Nat.le_trans up.size q.size)); have qs3 := qq.size; have bo_0 := (q.cell (p := ⟨y2.heap.size, 0, none⟩) (by simp)).trans (show _ = some (.bool false) by simp [go_sem]); have fo_0 := (q.frozen (p := ⟨y2.heap.size, 0, none⟩) (by simp)).trans (show _ = false by simp [go_sem]); have bo_1 := (q.cell (p := ⟨y2.heap.size, 1, none⟩) (by simp)).trans (show _ = some (.slice none 0 0) by simp [go_sem]); have fo_1 := (q.frozen (p := ⟨y2.heap.size, 1, none⟩) (by simp)).trans (show _ = false by simp [go_sem]); have ol : y2.heap.size < y3.heap.size := Nat.lt_of_lt_of_le (by simp) q.size; clear q up))
          all_goals (go_wp2_with fail; go_meet)
          all_goals refine ⟨_, bm, Am, nm, cm, rfl, ?_⟩
          all_goals first
            | with_reducible exact loneZA hm qq _
            | with_reducible exact loneZB bo_0 bo_1 hm qq (by omega)
        case rest =>
          obtain ⟨gdi, bdi, Adi, ndi, cdi, rfl, ⟨di0, di1⟩, hdi, b, dige⟩ := hcut
          have hB1 := hbl.trans (b.mono hbl.size)
          have dil := cell_lt di0
          simp only at dil
          have diqbd : gbd < gdi := Nat.lt_of_lt_of_le bdl dige
          replace e1 := (b.cell (p := ⟨b1, o1 + i, none⟩) hb1).trans e1
          replace e2 := (b.cell (p := ⟨b2, o2 + i, none⟩) hb2).trans e2
          replace hb1 := Nat.lt_of_lt_of_le hb1 b.size
          replace hb2 := Nat.lt_of_lt_of_le hb2 b.size
          replace hbd := hbd.on b
          replace bd0 := (b.cell (p := ⟨gbd, 0, none⟩) bdl).trans bd0
          replace bd1 := (b.cell (p := ⟨gbd, 1, none⟩) bdl).trans bd1
          replace bdl := Nat.lt_of_lt_of_le bdl b.size
          replace cc := cc.trans (b.mono cc.size)
          clear b
          clear e1 e2
          have hdn := zn_size hdi
          clear hdi
          go_upto_region 17 with fail
          go_cut [12] (fun u wx => ∃ (g_ : Nat) (b_ : Bool) (A_ : Option Addr) (n_ c_ : Nat), u = .pointer (some ⟨g_, 0, none⟩) ∧ LoneZ wc wx g_ b_ A_ n_ c_ ((((x - y).natAbs : Nat) : Int) * (2 * D)))
          case first =>
            have BB0 : Below wc.heap.size wc wc.drew := below_drewN (Below.refl _ wc) 1
            have BB1 : Below wc.heap.size wc (wc.alloc (.cells #[.bool false, .slice none 0 0] 38)).drew := below_drewN (below_one _ _) 1
            go_region_held3 (fun w' => w'.cell? ⟨gbd, 0, none⟩ = some (.bool bbd) ∧ w'.cell? ⟨gbd, 1, none⟩ = some (.slice Abd nbd cbd) ∧ w'.cell? ⟨gdi, 0, none⟩ = some (.bool bdi) ∧ w'.cell? ⟨gdi, 1, none⟩ = some (.slice Adi ndi cdi))
              (first | with_reducible exact ⟨bd0, bd1, di0, di1⟩ | with_reducible exact ⟨keep_alloc (bd0), keep_alloc (bd1), keep_alloc (di0), keep_alloc (di1)⟩ | with_reducible exact ⟨keep_alloc (keep_alloc (bd0)), keep_alloc (keep_alloc (bd1)), keep_alloc (keep_alloc (di0)), keep_alloc (keep_alloc (di1))⟩ | with_reducible exact ⟨((qq.cell (p := ⟨gbd, 0, none⟩) bdl).trans bd0), ((qq.cell (p := ⟨gbd, 1, none⟩) bdl).trans bd1), ((qq.cell (p := ⟨gdi, 0, none⟩) dil).trans di0), ((qq.cell (p := ⟨gdi, 1, none⟩) dil).trans di1)⟩ | with_reducible exact ⟨keep_alloc (((qq.cell (p := ⟨gbd, 0, none⟩) bdl).trans bd0)), keep_alloc (((qq.cell (p := ⟨gbd, 1, none⟩) bdl).trans bd1)), keep_alloc (((qq.cell (p := ⟨gdi, 0, none⟩) dil).trans di0)), keep_alloc (((qq.cell (p := ⟨gdi, 1, none⟩) dil).trans di1))⟩ | with_reducible exact ⟨keep_alloc (keep_alloc (((qq.cell (p := ⟨gbd, 0, none⟩) bdl).trans bd0))), keep_alloc (keep_alloc (((qq.cell (p := ⟨gbd, 1, none⟩) bdl).trans bd1))), keep_alloc (keep_alloc (((qq.cell (p := ⟨gdi, 0, none⟩) dil).trans di0))), keep_alloc (keep_alloc (((qq.cell (p := ⟨gdi, 1, none⟩) dil).trans di1)))⟩ | with_reducible exact ⟨((cell_store (by omega)).trans ((qq.cell (p := ⟨gbd, 0, none⟩) bdl).trans bd0)), ((cell_store (by omega)).trans ((qq.cell (p := ⟨gbd, 1, none⟩) bdl).trans bd1)), ((cell_store (by omega)).trans ((qq.cell (p := ⟨gdi, 0, none⟩) dil).trans di0)), ((cell_store (by omega)).trans ((qq.cell (p := ⟨gdi, 1, none⟩) dil).trans di1))⟩ | with_reducible exact ⟨keep_alloc (((cell_store (by omega)).trans ((qq.cell (p := ⟨gbd, 0, none⟩) bdl).trans bd0))), keep_alloc (((cell_store (by omega)).trans ((qq.cell (p := ⟨gbd, 1, none⟩) bdl).trans bd1))), keep_alloc (((cell_store (by omega)).trans ((qq.cell (p := ⟨gdi, 0, none⟩) dil).trans di0))), keep_alloc (((cell_store (by omega)).trans ((qq.cell (p := ⟨gdi, 1, none⟩) dil).trans di1)))⟩ | with_reducible exact ⟨keep_alloc (keep_alloc (((cell_store (by omega)).trans ((qq.cell (p := ⟨gbd, 0, none⟩) bdl).trans bd0)))), keep_alloc (keep_alloc (((cell_store (by omega)).trans ((qq.cell (p := ⟨gbd, 1, none⟩) bdl).trans bd1)))), keep_alloc (keep_alloc (((cell_store (by omega)).trans ((qq.cell (p := ⟨gdi, 0, none⟩) dil).trans di0)))), keep_alloc (keep_alloc (((cell_store (by omega)).trans ((qq.cell (p := ⟨gdi, 1, none⟩) dil).trans di1))))⟩ | go_keep)
              (first
                | (go_at_call 17; (with_reducible refine (rzof_N _ (2 * D) h2D).mono ?_); rintro e y1 ⟨bu, Au, nu, cu, rfl, hu, q⟩; have qq := BB0.trans (q.mono BB0.size); have hbd' := (hbd.on BB0).on q; have hdn' := (hdn.on BB0).on q; have qs1 := qq.size; clear q)
                | (go_at_call 17; (with_reducible refine (rzof_N _ (2 * D) h2D).mono ?_); rintro e y1 ⟨bu, Au, nu, cu, rfl, hu, q⟩; have qq := BB1.trans (q.mono BB1.size); have hbd' := (hbd.on BB1).on q; have hdn' := (hdn.on BB1).on q; have qs1 := qq.size; have bo_0 := (q.cell (p := ⟨wc.heap.size, 0, none⟩) (by simp)).trans (show _ = some (.bool false) by simp [go_sem]); have fo_0 := (q.frozen (p := ⟨wc.heap.size, 0, none⟩) (by simp)).trans (show _ = false by simp [go_sem]); have bo_1 := (q.cell (p := ⟨wc.heap.size, 1, none⟩) (by simp)).trans (show _ = some (.slice none 0 0) by simp [go_sem]); have fo_1 := (q.frozen (p := ⟨wc.heap.size, 1, none⟩) (by simp)).trans (show _ = false by simp [go_sem]); have ol : wc.heap.size < y1.heap.size := Nat.lt_of_lt_of_le (by simp) q.size; clear q)
                | (go_at_call 19; have up := Below.refl y1.heap.size y1; (with_reducible refine (rzmul_N (hdn'.on up) (hu.on up) (by rw [Int.natAbs_natCast]; omega) (Nat.le_trans (len_one h2D.abs) (by omega))).mono ?_); rintro e y2 ⟨bm, Am, nm, cm, rfl, hm, q⟩; replace qq := (qq.trans (up.mono qq.size)).trans (q.mono (Nat.le_trans qq.size up.size)); replace hbd' := (hbd'.on up).on q; replace hdn' := (hdn'.on up).on q; replace hu := (hu.on up).on q; (try replace bo_0 := (q.cell (Nat.lt_of_lt_of_le ol up.size)).trans ((up.cell ol).trans bo_0)); (try replace fo_0 := (q.frozen (Nat.lt_of_lt_of_le ol up.size)).trans ((up.frozen ol).trans fo_0)); (try replace bo_1 := (q.cell (Nat.lt_of_lt_of_le ol up.size)).trans ((up.cell ol).trans bo_1)); (try replace fo_1 := (q.frozen (Nat.lt_of_lt_of_le ol up.size)).trans ((up.frozen ol).trans fo_1)); (try replace ol := Nat.lt_of_lt_of_le ol (Nat.le_trans up.size q.size)); have qs2 := qq.size; clear q up)
                | (go_at_call 19; have up := below_one y1 (.cells #[.bool false, .slice none 0 0] 38); (with_reducible refine (rzmul_N (hdn'.on up) (hu.on up) (by rw [Int.natAbs_natCast]; omega) (Nat.le_trans (len_one h2D.abs) (by omega))).mono ?_); rintro e y2 ⟨bm, Am, nm, cm, rfl, hm, q⟩; replace qq := (qq.trans (up.mono qq.size)).trans (q.mono (Nat.le_trans qq.size up.size)); replace hbd' := (hbd'.on up).on q; replace hdn' := (hdn'.on up).on q; replace hu := (hu.on up).on q; (try replace bo_0 := (q.cell (Nat.lt_of_lt_of_le ol up.size)).trans ((up.cell ol).trans bo_0)); (try replace fo_0 := (q.frozen (Nat.lt_of_lt_of_le ol up.size)).trans ((up.frozen ol).trans fo_0)); (try replace bo_1 := (q.cell (Nat.lt_of_lt_of_le ol up.size)).trans ((up.cell ol).trans bo_1)); (try replace fo_1 := (q.frozen (Nat.lt_of_lt_of_le ol up.size)).trans ((up.frozen ol).trans fo_1)); (try replace ol := Nat.lt_of_lt_of_le ol (Nat.le_trans up.size q.size)); have qs2 := qq.size; have bo_0 := (q.cell (p := ⟨y1.heap.size, 0, none⟩) (by simp)).trans (show _ = some (.bool false) by simp [go_sem]); have fo_0 := (q.frozen (p := ⟨y1.heap.size, 0, none⟩) (by simp)).trans (show _ = false by simp [go_sem]); have bo_1 := (q.cell (p := ⟨y1.heap.size, 1, none⟩) (by simp)).trans (show _ = some (.slice none 0 0) by simp [go_sem]); have fo_1 := (q.frozen (p := ⟨y1.heap.size, 1, none⟩) (by simp)).trans (show _ = false by simp [go_sem]); have ol : y1.heap.size < y2.heap.size := Nat.lt_of_lt_of_le (by simp) q.size; clear q up))
            all_goals (go_wp2_with fail; go_meet)
            all_goals refine ⟨_, bm, Am, nm, cm, rfl, ?_⟩
            all_goals first
              | with_reducible exact loneZA hm qq _
              | with_reducible exact loneZB bo_0 bo_1 hm qq (by omega)
          case rest =>
            obtain ⟨gfa, bfa, Afa, nfa, cfa, rfl, ⟨fa0, fa1⟩, hfa, b, fage⟩ := hcut
            have hB1 := hB1.trans (b.mono hB1.size)
            have fal := cell_lt fa0
            simp only at fal
            have faqbd : gbd < gfa := Nat.lt_of_lt_of_le bdl fage
            have faqdi : gdi < gfa := Nat.lt_of_lt_of_le dil fage
            replace hbd := hbd.on b
            replace hdn := hdn.on b
            replace bd0 := (b.cell (p := ⟨gbd, 0, none⟩) bdl).trans bd0
            replace bd1 := (b.cell (p := ⟨gbd, 1, none⟩) bdl).trans bd1
            replace bdl := Nat.lt_of_lt_of_le bdl b.size
            replace di0 := (b.cell (p := ⟨gdi, 0, none⟩) dil).trans di0
            replace di1 := (b.cell (p := ⟨gdi, 1, none⟩) dil).trans di1
            replace dil := Nat.lt_of_lt_of_le dil b.size
            replace cc := cc.trans (b.mono cc.size)
            clear b
            go_wp2_with fail
            refine (rzcmp_w r hfa hbd (Nat.le_trans lf_ (by omega)) (Nat.le_trans lb (by omega)) HR.out).mono ?_
            rintro e w61 ⟨rfl, b⟩
            replace hB1 := hB1.trans (b.mono hB1.size)
            replace hbd := hbd.on b
            replace hdn := hdn.on b
            replace hfa := hfa.on b
            replace bd0 := (b.cell (p := ⟨gbd, 0, none⟩) bdl).trans bd0
            replace bd1 := (b.cell (p := ⟨gbd, 1, none⟩) bdl).trans bd1
            replace bdl := Nat.lt_of_lt_of_le bdl b.size
            replace di0 := (b.cell (p := ⟨gdi, 0, none⟩) dil).trans di0
            replace di1 := (b.cell (p := ⟨gdi, 1, none⟩) dil).trans di1
            replace dil := Nat.lt_of_lt_of_le dil b.size
            replace fa0 := (b.cell (p := ⟨gfa, 0, none⟩) fal).trans fa0
            replace fa1 := (b.cell (p := ⟨gfa, 1, none⟩) fal).trans fa1
            replace fal := Nat.lt_of_lt_of_le fal b.size
            replace cc := cc.trans (b.mono cc.size)
            clear b
            go_wp2_with fail
            go_roundw
            case rel => exact ⟨i + 1, by omega, rfl, hB1⟩
            case measure => simp [intOf] <;> omega
      · obtain rfl : i = nz := by omega
        go_wp2_with fail
        refine (alive11_any _).mono ?_
        rintro e w6 ⟨rfl, b⟩
        replace cc := cc.trans (b.mono cc.size)
        clear b
        go_wp2_with fail
        go_ret
        exact ⟨rfl, cc⟩

theorem BlockNear_walk {w : World} (k : Int) (wk : (Lit.int .i64 k).wf = true) {A : Option Addr} {n c : Nat} {L : List Int} (hA : IR w A n c L) (hn : n ≤ 9223372036854775807) (hi : ∀ x ∈ L, I64 x) : Calls Try.prog 3 #[.int .i64 k, .slice A n c] w fun e w' => e = .returned (.bool true) ∧ Below w.heap.size w w' := by
  have hk := i64_wf wk
  have hl := hA.1
  by_cases h0 : 20 < n
  · exact BlockNear_few h0
  have h20 : n ≤ 20 := by omega
  by_cases ho : OkP k L
  · have hO := okB_pk ho (by omega)
    by_cases k4 : k = 4
    · obtain ⟨e1, e2, e3⟩ := pk_len4 k L k4
      have CP : ∀ {W : World}, IR W A n c L → Calls Try.prog 8 #[.int .i64 k, .slice A n c] W (GotBp W k 0 [] L 0) := fun h => by have := bkPack_yes hk h hi h20 ho; rwa [e1, e2, e3] at this
      exact BlockNear_w hA h20 k4 CP (fun h g => by rw [e1, e2, e3] at hO; have := bkLoad_N h g hO (by decide); rwa [show ldB k 0 [] L = L from if_pos k4] at this)
    · obtain ⟨e1, e2, e3⟩ := pk_not4 k L k4
      have k9 : Kind9 k := by rcases kind_or.1 ho.1 with h | h; exact h; exact absurd h k4
      have CP : ∀ {W : World}, IR W A n c L → Calls Try.prog 8 #[.int .i64 k, .slice A n c] W (GotBp W k (gr L) (L.map (pk k (gr L))) [] 0) := fun h => by have := bkPack_yes hk h hi h20 ho; rwa [e1, e2, e3] at this
      rw [e1, e2, e3] at hO
      refine BlockNear_yes hA h20 k4 (gr_i64 hi ho) (gap9_i64 k) (den9_i64 k) (by have := den9_bd k; unfold I64; omega) (i64_at hi) (M := back11 k L) (fun j => (back11_fit k9 hi ho j).1) (back11_len k L) (fun j hj => ?_) CP (fun h g => by have := bkLoad_N h g hO (gr_i64 hi ho); rwa [show ldB k (gr L) (L.map (pk k (gr L))) [] = back11 k L from if_neg k4] at this) (fun h => rgreat_N h (by have := h.1; omega) (fun j => ⟨i64_at hi j, by
        rcases Nat.lt_or_ge j L.length with e | e
        · exact (ho.2 _ (mem_at e)).1
        · rw [List.getElem?_eq_none e]; decide⟩)) (fun W => rden9_N W k) (fun W => rgap9_N W k)
      rw [back11_at hj]
      obtain ⟨a, b, e⟩ := okP_at ho k9 (mem_at (d := 0) hj)
      obtain ⟨h1, h2⟩ := pk_near k9 (gr_pos L) a b e
      have hd := (den9_bd k).1
      rw [Int.mul_comm (gap9 k)] at h1 h2
      generalize L[j]?.getD 0 = x at *
      generalize ld k (gr L) (pk k (gr L) x) = y at *
      generalize gr L * gap9 k = z at *
      rcases Int.le_total 0 (x - y) with hz | hz
      · rw [Int.natAbs_of_nonneg hz, Int.mul_comm, Int.mul_assoc, Int.mul_sub, Int.mul_comm _ x, Int.mul_comm _ y]; omega
      · rw [Int.ofNat_natAbs_of_nonpos hz, Int.mul_comm, Int.mul_assoc, Int.mul_neg, Int.mul_sub, Int.mul_comm _ x, Int.mul_comm _ y]; omega
  · exact BlockNear_no hA h20 (fun h => bkPack_no hk h hi h20 ho)

end Go.Proofs.Ytlmcpgahjfepjaa
