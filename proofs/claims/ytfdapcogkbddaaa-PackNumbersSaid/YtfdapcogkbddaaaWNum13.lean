/-
  The walk of PackNumbers.
-/
import Derived.Test.YtfdapcogkbddaaaA2
import Derived.Test.YtfdapcogkbddaaaA1
namespace Go.Proofs.Ytfdapcogkbddaaa
set_option maxRecDepth 100000
open Go.RowKit
set_option linter.unusedVariables false
set_option linter.unusedSimpArgs false

set_option maxRecDepth 100000 in
set_option maxHeartbeats 8000000 in
theorem PackNumbers_few {w : World} {A : Option Addr} {n c N : Nat} {z : Int} (h : 1000 < n) :
    Calls Try.prog 3 #[.slice A n c, .int .u64 (N : Int), .int .i64 z] w fun e w' => e = .returned (.bool true) ∧ Below w.heap.size w w' := by
  have t_n : decide (1000 < (n : Int)) = true := decide_eq_true (by omega)
  have u_n : decide (1000 < n) = true := decide_eq_true (by omega)
  clear h
  have cc := Below.refl w.heap.size w
  go_enter Try.func3, Try.ntmps3
  go_wp2_with fail
  refine (alive13_any _).mono ?_
  rintro e w1 ⟨rfl, b⟩
  replace cc := bK cc b
  clear b
  go_wp2_with fail
  go_ret
  exact ⟨rfl, cc⟩

set_option maxRecDepth 100000 in
set_option maxHeartbeats 8000000 in
theorem PackNumbers_yes {w : World} {A : Option Addr} {n c N : Nat} {z : Int} {l : List Nat} (hA : BR w A n c l) (h : n ≤ 1000) (hN : N < 2 * 128 ^ 9) (hz : -9223372036854775808 ≤ z ∧ z ≤ 9223372036854775807) :
    Calls Try.prog 3 #[.slice A n c, .int .u64 (N : Int), .int .i64 z] w fun e w' => e = .returned (.bool true) ∧ Below w.heap.size w w' := by
  have t_n : decide (1000 < (n : Int)) = false := decide_eq_false (by omega)
  have u_n : decide (1000 < n) = false := decide_eq_false (by omega)
  have hrl := tkR_len hA.2.2.1
  rw [← hA.1] at hrl
  have h8 : ∀ x ∈ l ++ vb N, x < 256 := fun x hx => by rcases List.mem_append.1 hx with e | e; exact hA.2.2.1 x e; exact vb_lt hN x e
  have h9 : ∀ x ∈ l ++ vb (zig z), x < 256 := fun x hx => by rcases List.mem_append.1 hx with e | e; exact hA.2.2.1 x e; exact vb_lt (zig_lt hz) x e
  have l8 : (l ++ vb N).length ≤ 2000 := by have := (vb_len N).2; rw [List.length_append, ← hA.1]; omega
  have l9 : (l ++ vb (zig z)).length ≤ 2000 := by have := (vb_len (zig z)).2; rw [List.length_append, ← hA.1]; omega
  have C1 : ∀ {W : World}, BR W A n c l → Calls Try.prog 10 #[.slice A n c] W (GotTk W (.int .u64 ((tkN l : Nat) : Int)) (tkR l) (tkE l)) := fun h => pTake_N h (by omega)
  have C2 : ∀ {W : World}, BR W A n c l → Calls Try.prog 11 #[.slice A n c] W (GotTk W (.int .u64 ((tkN l : Nat) : Int)) (tkR l) (tkE l)) := fun h => rTake_N h (by omega)
  have C3 : ∀ {W : World}, BR W A n c l → Calls Try.prog 12 #[.slice A n c] W (GotTk W (.int .i64 (unz (tkN l))) (tkR l) (tkE l)) := fun h => pTakeInt_N h (by omega)
  have C4 : ∀ {W : World}, BR W A n c l → Calls Try.prog 13 #[.slice A n c] W (GotTk W (.int .i64 (unz (tkN l))) (tkR l) (tkE l)) := fun h => rTakeInt_N h (by omega)
  have C5 : ∀ {W : World}, BR W A n c l → Calls Try.prog 15 #[.slice A n c, .int .u64 (N : Int)] W (GotNew W (l ++ vb N)) := fun h => pPut_N h (by omega) hN
  have C6 : ∀ {W : World}, BR W A n c l → Calls Try.prog 16 #[.slice A n c, .int .u64 (N : Int)] W (GotNew W (l ++ vb N)) := fun h => rPut13_N h (by omega) hN
  have C7 : ∀ {W : World}, BR W A n c l → Calls Try.prog 17 #[.slice A n c, .int .i64 z] W (GotNew W (l ++ vb (zig z))) := fun h => pPutInt_N h (by omega) hz
  have C8 : ∀ {W : World}, BR W A n c l → Calls Try.prog 18 #[.slice A n c, .int .i64 z] W (GotNew W (l ++ vb (zig z))) := fun h => rPutInt13_N h (by omega) hz
  generalize l ++ vb N = P at *
  generalize l ++ vb (zig z) = Q at *
  generalize unz (tkN l) = y at *
  generalize tkN l = a at *
  generalize tkR l = R at *
  generalize tkE l = E at *
  have hRl := Lib.hid hrl
  have HNN := Lib.hid h
  have H8 := Lib.hid h8
  have H9 := Lib.hid h9
  have L8 := Lib.hid l8
  have L9 := Lib.hid l9
  clear h hN hz hrl h8 h9 l8 l9
  have cc := Below.refl w.heap.size w
  go_enter Try.func3, Try.ntmps3
  go_wp2_with fail
  refine (C1 hA).mono ?_
  rintro e w1 ⟨Ax, nx, cx, rfl, hx, b⟩
  replace hA := hA.on b
  replace cc := bK cc b
  clear b
  go_wp2_with fail
  refine (C2 hA).mono ?_
  rintro e w2 ⟨Ay, ny, cy, rfl, hy, b⟩
  replace hA := hA.on b
  replace hx := hx.on b
  replace cc := bK cc b
  clear b
  go_wp2_with fail
  refine (C3 hA).mono ?_
  rintro e w3 ⟨Au, nu, cu, rfl, hu, b⟩
  replace hA := hA.on b
  replace hx := hx.on b
  replace hy := hy.on b
  replace cc := bK cc b
  clear b
  go_wp2_with fail
  refine (C4 hA).mono ?_
  rintro e w4 ⟨Av, nv, cv, rfl, hv, b⟩
  replace hA := hA.on b
  replace hx := hx.on b
  replace hy := hy.on b
  replace hu := hu.on b
  replace cc := bK cc b
  clear b
  go_wp2_with fail
  refine (C5 hA).mono ?_
  rintro e w5 ⟨g5, q5, d5, rfl, hO, b⟩
  replace hA := hA.on b
  replace hx := hx.on b
  replace hy := hy.on b
  replace hu := hu.on b
  replace hv := hv.on b
  replace cc := bK cc b
  clear b
  have h5 := BR.of_own hO (H8.out)
  clear hO
  go_wp2_with fail
  refine (C6 hA).mono ?_
  rintro e w6 ⟨g6, q6, d6, rfl, hO, b⟩
  replace hA := hA.on b
  replace hx := hx.on b
  replace hy := hy.on b
  replace hu := hu.on b
  replace hv := hv.on b
  replace h5 := h5.on b
  replace cc := bK cc b
  clear b
  have h6 := BR.of_own hO (H8.out)
  clear hO
  go_wp2_with fail
  refine (rsameB_self h5 h6 (by have := h5.1; have := L8.out; omega)).mono ?_
  rintro e w7 ⟨rfl, b⟩
  replace hA := hA.on b
  replace hx := hx.on b
  replace hy := hy.on b
  replace hu := hu.on b
  replace hv := hv.on b
  replace h5 := h5.on b
  replace h6 := h6.on b
  replace cc := bK cc b
  clear b
  clear h5 h6
  go_wp2_with fail
  refine (C7 hA).mono ?_
  rintro e w8 ⟨g7, q7, d7, rfl, hO, b⟩
  replace hA := hA.on b
  replace hx := hx.on b
  replace hy := hy.on b
  replace hu := hu.on b
  replace hv := hv.on b
  replace cc := bK cc b
  clear b
  have h7 := BR.of_own hO (H9.out)
  clear hO
  go_wp2_with fail
  refine (C8 hA).mono ?_
  rintro e w9 ⟨g8, q8, d8, rfl, hO, b⟩
  replace hA := hA.on b
  replace hx := hx.on b
  replace hy := hy.on b
  replace hu := hu.on b
  replace hv := hv.on b
  replace h7 := h7.on b
  replace cc := bK cc b
  clear b
  have h8 := BR.of_own hO (H9.out)
  clear hO
  go_wp2_with fail
  refine (rsameB_self h7 h8 (by have := h7.1; have := L9.out; omega)).mono ?_
  rintro e w10 ⟨rfl, b⟩
  replace hA := hA.on b
  replace hx := hx.on b
  replace hy := hy.on b
  replace hu := hu.on b
  replace hv := hv.on b
  replace h7 := h7.on b
  replace h8 := h8.on b
  replace cc := bK cc b
  clear b
  clear h7 h8
  go_wp2_with fail
  refine (alive13_any _).mono ?_
  rintro e w11 ⟨rfl, b⟩
  replace hA := hA.on b
  replace hx := hx.on b
  replace hy := hy.on b
  replace hu := hu.on b
  replace hv := hv.on b
  replace cc := bK cc b
  clear b
  go_wp2_with fail
  refine (rsameB_self hx hy (by have := hx.1; have := hRl.out; have := HNN.out; omega)).mono ?_
  rintro e w12 ⟨rfl, b⟩
  replace hA := hA.on b
  replace hx := hx.on b
  replace hy := hy.on b
  replace hu := hu.on b
  replace hv := hv.on b
  replace cc := bK cc b
  clear b
  go_wp2_with fail
  refine (rsameB_self hu hv (by have := hu.1; have := hRl.out; have := HNN.out; omega)).mono ?_
  rintro e w13 ⟨rfl, b⟩
  replace hA := hA.on b
  replace hx := hx.on b
  replace hy := hy.on b
  replace hu := hu.on b
  replace hv := hv.on b
  replace cc := bK cc b
  clear b
  go_wp2_with fail
  go_ret
  exact ⟨rfl, cc⟩

theorem u64_nat13 {a : Int} (h : (Lit.int .u64 a).wf = true) : ∃ q : Nat, a = (q : Int) ∧ q < 2 * 128 ^ 9 := by
  have : 0 ≤ a ∧ a ≤ 18446744073709551615 := bounds_u64 h
  rw [b64_9]
  exact ⟨a.toNat, by omega, by omega⟩
theorem PackNumbers_walk {w : World} {A : Option Addr} {n c : Nat} {l : List Nat} (hA : BR w A n c l) (N : Int) (wN : (Lit.int .u64 N).wf = true) (z : Int) (wz : (Lit.int .i64 z).wf = true) : Calls Try.prog 3 #[.slice A n c, .int .u64 N, .int .i64 z] w fun e w' => e = .returned (.bool true) ∧ Below w.heap.size w w' := by
  obtain ⟨N, rfl, hN⟩ := u64_nat13 wN
  by_cases h : 1000 < n
  · exact PackNumbers_few h
  · exact PackNumbers_yes hA (by omega) hN (bounds_i64 wz)

end Go.Proofs.Ytfdapcogkbddaaa
