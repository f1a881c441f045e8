/-
  The walk of PackRows.
-/
import Derived.Test.YtfdapcogkbddaaaA2
import Derived.Test.YtfdapcogkbddaaaA1
namespace Go.Proofs.Ytfdapcogkbddaaa
set_option maxRecDepth 100000
open Go.RowKit
set_option linter.unusedVariables false
set_option linter.unusedSimpArgs false

set_option maxRecDepth 100000 in
set_option maxHeartbeats 8000000 in
theorem PackRows_a {w : World} {A B : Option Addr} {n c m d : Nat} {z : Int} (h : 1000 < n) :
    Calls Try.prog 4 #[.slice A n c, .slice B m d, .int .i64 z] w fun e w' => e = .returned (.bool true) ∧ Below w.heap.size w w' := by
  have t_n : decide (1000 < (n : Int)) = true := decide_eq_true (by omega)
  have u_n : decide (1000 < n) = true := decide_eq_true (by omega)
  clear h
  have cc := Below.refl w.heap.size w
  go_enter Try.func4, Try.ntmps4
  go_wp2_with fail
  refine (alive13_any _).mono ?_
  rintro e w1 ⟨rfl, b⟩
  replace cc := bK cc b
  clear b
  go_wp2_with fail
  go_ret
  exact ⟨rfl, cc⟩

set_option maxRecDepth 100000 in
set_option maxHeartbeats 8000000 in
theorem PackRows_b {w : World} {A B : Option Addr} {n c m d : Nat} {z : Int} (h : n ≤ 1000) (h2 : 1000 < m) :
    Calls Try.prog 4 #[.slice A n c, .slice B m d, .int .i64 z] w fun e w' => e = .returned (.bool true) ∧ Below w.heap.size w w' := by
  have t_n : decide (1000 < (n : Int)) = false := decide_eq_false (by omega)
  have u_n : decide (1000 < n) = false := decide_eq_false (by omega)
  have t_m : decide (1000 < (m : Int)) = true := decide_eq_true (by omega)
  have u_m : decide (1000 < m) = true := decide_eq_true (by omega)
  clear h h2
  have cc := Below.refl w.heap.size w
  go_enter Try.func4, Try.ntmps4
  go_wp2_with fail
  refine (alive13_any _).mono ?_
  rintro e w1 ⟨rfl, b⟩
  replace cc := bK cc b
  clear b
  go_wp2_with fail
  go_ret
  exact ⟨rfl, cc⟩

set_option maxRecDepth 100000 in
set_option maxHeartbeats 8000000 in
theorem PackRows_yes {w : World} {A B : Option Addr} {n c m d : Nat} {z : Int} {l r : List Nat} (hA : BR w A n c l) (hB : BR w B m d r) (h : n ≤ 1000) (h2 : m ≤ 1000) (hz : -9223372036854775808 ≤ z ∧ z ≤ 9223372036854775807) :
    Calls Try.prog 4 #[.slice A n c, .slice B m d, .int .i64 z] w fun e w' => e = .returned (.bool true) ∧ Below w.heap.size w w' := by
  have t_n : decide (1000 < (n : Int)) = false := decide_eq_false (by omega)
  have u_n : decide (1000 < n) = false := decide_eq_false (by omega)
  have t_m : decide (1000 < (m : Int)) = false := decide_eq_false (by omega)
  have u_m : decide (1000 < m) = false := decide_eq_false (by omega)
  have m64 : r.length < 2 * 128 ^ 9 := by rw [b64_9, ← hB.1]; omega
  have h8 : ∀ x ∈ l ++ (vb r.length ++ r), x < 256 := fun x hx => by rcases List.mem_append.1 hx with e | e; exact hA.2.2.1 x e; rcases List.mem_append.1 e with e | e; exact vb_lt m64 x e; exact hB.2.2.1 x e
  have l8 : (l ++ (vb r.length ++ r)).length ≤ 3000 := by have := (vb_len r.length).2; rw [List.length_append, List.length_append, ← hA.1, ← hB.1]; rw [← hB.1] at this; omega
  have lL : (rwL z l).length ≤ 1000 := by rcases rw_ways hA.2.2.1 z with ⟨e, _⟩ | ⟨e, _⟩; rw [e]; simp; have e2 := congrArg List.length e; rw [List.length_append, List.length_append, ← hA.1] at e2; omega
  have lR : (rwR z l).length ≤ 1000 := by rcases rw_ways hA.2.2.1 z with ⟨_, e, _⟩ | ⟨e, _⟩; rw [e]; simp; have e2 := congrArg List.length e; rw [List.length_append, List.length_append, ← hA.1] at e2; omega
  have C1 : ∀ {W : World}, BR W A n c l → Calls Try.prog 19 #[.slice A n c, .int .i64 z] W (GotTr W (rwL z l) (rwR z l) (rwE z l)) := fun h => pTakeRow_N h (by omega) hz
  have C2 : ∀ {W : World}, BR W A n c l → Calls Try.prog 20 #[.slice A n c, .int .i64 z] W (GotTr W (rwL z l) (rwR z l) (rwE z l)) := fun h => rTakeRow_N h (by omega) hz
  have C3 : ∀ {W : World}, BR W A n c l → BR W B m d r → Calls Try.prog 21 #[.slice A n c, .slice B m d] W (GotNew W (l ++ (vb r.length ++ r))) := fun h h2 => pPutRow_N h (by omega) h2 (by omega)
  have C4 : ∀ {W : World}, BR W A n c l → BR W B m d r → Calls Try.prog 22 #[.slice A n c, .slice B m d] W (GotNew W (l ++ (vb r.length ++ r))) := fun h h2 => rPutRow13_N h (by omega) h2 (by omega)
  generalize l ++ (vb r.length ++ r) = P at *
  generalize rwL z l = X at *
  generalize rwR z l = R at *
  generalize rwE z l = E at *
  have H8 := Lib.hid h8
  have L8 := Lib.hid l8
  have HL := Lib.hid lL
  have HR := Lib.hid lR
  clear h h2 m64 h8 l8 lL lR hz
  have cc := Below.refl w.heap.size w
  go_enter Try.func4, Try.ntmps4
  go_wp2_with fail
  refine (C1 hA).mono ?_
  rintro e w1 ⟨Ax, nx, cx, Bx, px, dx, rfl, hx, kx, b⟩
  replace hA := hA.on b
  replace hB := hB.on b
  replace cc := bK cc b
  clear b
  go_wp2_with fail
  refine (C2 hA).mono ?_
  rintro e w2 ⟨Ay, ny, cy, By, py, dy, rfl, hy, ky, b⟩
  replace hA := hA.on b
  replace hB := hB.on b
  replace hx := hx.on b
  replace kx := kx.on b
  replace cc := bK cc b
  clear b
  go_wp2_with fail
  refine (alive13_any _).mono ?_
  rintro e w3 ⟨rfl, b⟩
  replace hA := hA.on b
  replace hB := hB.on b
  replace hx := hx.on b
  replace kx := kx.on b
  replace hy := hy.on b
  replace ky := ky.on b
  replace cc := bK cc b
  clear b
  go_wp2_with fail
  refine (C3 hA hB).mono ?_
  rintro e w4 ⟨g5, q5, d5, rfl, hO, b⟩
  replace hA := hA.on b
  replace hB := hB.on b
  replace hx := hx.on b
  replace kx := kx.on b
  replace hy := hy.on b
  replace ky := ky.on b
  replace cc := bK cc b
  clear b
  have h5 := BR.of_own hO (H8.out)
  clear hO
  go_wp2_with fail
  refine (C4 hA hB).mono ?_
  rintro e w5 ⟨g6, q6, d6, rfl, hO, b⟩
  replace hA := hA.on b
  replace hB := hB.on b
  replace hx := hx.on b
  replace kx := kx.on b
  replace hy := hy.on b
  replace ky := ky.on b
  replace h5 := h5.on b
  replace cc := bK cc b
  clear b
  have h6 := BR.of_own hO (H8.out)
  clear hO
  go_wp2_with fail
  refine (rsameB_self h5 h6 (by have := h5.1; have := L8.out; omega)).mono ?_
  rintro e w6 ⟨rfl, b⟩
  replace hA := hA.on b
  replace hB := hB.on b
  replace hx := hx.on b
  replace kx := kx.on b
  replace hy := hy.on b
  replace ky := ky.on b
  replace h5 := h5.on b
  replace h6 := h6.on b
  replace cc := bK cc b
  clear b
  go_wp2_with fail
  refine (rsameB_self hx hy (by have := hx.1; have := HL.out; omega)).mono ?_
  rintro e w7 ⟨rfl, b⟩
  replace hA := hA.on b
  replace hB := hB.on b
  replace hx := hx.on b
  replace kx := kx.on b
  replace hy := hy.on b
  replace ky := ky.on b
  replace h5 := h5.on b
  replace h6 := h6.on b
  replace cc := bK cc b
  clear b
  go_wp2_with fail
  refine (rsameB_self kx ky (by have := kx.1; have := HR.out; omega)).mono ?_
  rintro e w8 ⟨rfl, b⟩
  replace hA := hA.on b
  replace hB := hB.on b
  replace hx := hx.on b
  replace kx := kx.on b
  replace hy := hy.on b
  replace ky := ky.on b
  replace h5 := h5.on b
  replace h6 := h6.on b
  replace cc := bK cc b
  clear b
  go_wp2_with fail
  go_ret
  exact ⟨rfl, cc⟩

theorem PackRows_walk {w : World} {A B : Option Addr} {n c m d : Nat} {l r : List Nat} (hA : BR w A n c l) (hB : BR w B m d r) (z : Int) (wz : (Lit.int .i64 z).wf = true) : Calls Try.prog 4 #[.slice A n c, .slice B m d, .int .i64 z] w fun e w' => e = .returned (.bool true) ∧ Below w.heap.size w w' := by
  by_cases h : 1000 < n
  · exact PackRows_a h
  by_cases h2 : 1000 < m
  · exact PackRows_b (by omega) h2
  · exact PackRows_yes hA hB (by omega) (by omega) (bounds_i64 wz)

end Go.Proofs.Ytfdapcogkbddaaa
