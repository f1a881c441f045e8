/-
  The walk of PackOrder.
-/
import Derived.Test.YtfdapcogkbddaaaA2
import Derived.Test.YtfdapcogkbddaaaA1
namespace Go.Proofs.Ytfdapcogkbddaaa
set_option maxRecDepth 100000
open Go.RowKit
set_option linter.unusedVariables false
set_option linter.unusedSimpArgs false

set_option maxRecDepth 100000 in
set_option maxHeartbeats 8000000 in
theorem PackOrder_ln {w : World} {a b : Nat} {z : Int} (ha : a < 2 * 128 ^ 9) (hb : b < 2 * 128 ^ 9) (hz : -9223372036854775808 ≤ z ∧ z ≤ 9223372036854775807) (hab : a ≤ b) (hn : z < 0) :
    Calls Try.prog 7 #[.int .u64 (a : Int), .int .u64 (b : Int), .int .i64 z] w fun e w' => e = .returned (.bool true) ∧ Below w.heap.size w w' := by
  have la := vb_len a
  have lb := vb_len b
  have lm := vb_mono hab
  have C1 : ∀ W : World, Calls Try.prog 15 #[.slice none 0 0, .int .u64 (a : Int)] W (GotNew W (vb a)) := fun W => pPut_N (BR.nil W none 0) (by omega) ha
  have C2 : ∀ W : World, Calls Try.prog 15 #[.slice none 0 0, .int .u64 (b : Int)] W (GotNew W (vb b)) := fun W => pPut_N (BR.nil W none 0) (by omega) hb
  have C3 : ∀ W : World, Calls Try.prog 17 #[.slice none 0 0, .int .i64 z] W (GotNew W (vb (zig z))) := fun W => pPutInt_N (BR.nil W none 0) (by omega) hz
  have C4 : ∀ W : World, Calls Try.prog 15 #[.slice none 0 0, .int .u64 ((zig z : Nat) : Int)] W (GotNew W (vb (zig z))) := fun W => pPut_N (BR.nil W none 0) (by omega) (zig_lt hz)
  have hs : decide (vb a = vb b) = decide (a = b) := decide_eq_decide.2 (vb_inj ha hb)
  obtain ⟨s, es⟩ : ∃ s, decide (a = b) = s := ⟨_, rfl⟩
  have k0 : ((a : Int) == (b : Int)) = s := by rw [← es]; by_cases e : a = b; rw [decide_eq_true e, beq_iff_eq.2 (by omega)]; rw [decide_eq_false e, beq_eq_false_iff_ne.2 (by omega)]
  have k0b : (a == b) = s := by rw [← es]; by_cases e : a = b; rw [decide_eq_true e, beq_iff_eq.2 e]; rw [decide_eq_false e, beq_eq_false_iff_ne.2 e]
  have hs2 : decide (vb a = vb b) = s := by rw [hs, es]
  have hlt8a := vb_lt ha
  have hlt8b := vb_lt hb
  have hlt8z := vb_lt (zig_lt hz)
  have lz := (vb_len (zig z)).2
  obtain ⟨va, eva⟩ : ∃ x, vb a = x := ⟨_, rfl⟩
  obtain ⟨vb_, evb⟩ : ∃ x, vb b = x := ⟨_, rfl⟩
  obtain ⟨vz, evz⟩ : ∃ x, vb (zig z) = x := ⟨_, rfl⟩
  rw [eva] at C1 la hs2 hlt8a lm
  rw [evb] at C2 lb hs2 hlt8b lm
  rw [evz] at C3 C4 hlt8z lz
  obtain ⟨p, ep⟩ : ∃ x, va.length = x := ⟨_, rfl⟩
  obtain ⟨q, eq⟩ : ∃ x, vb_.length = x := ⟨_, rfl⟩
  have HP := Lib.hid ep
  have HQ := Lib.hid eq
  rw [ep] at la lm
  rw [eq] at lb lm
  have t1 : decide ((p : Int) < 1) = false := decide_eq_false (by omega)
  have t1b : decide (p < 1) = false := decide_eq_false (by omega)
  have t2 : decide (10 < (p : Int)) = false := decide_eq_false (by omega)
  have t2b : decide (10 < p) = false := decide_eq_false (by omega)
  have t3 : decide ((a : Int) ≤ (b : Int)) = true := decide_eq_true (by omega)
  have t3b : decide (a ≤ b) = true := decide_eq_true (by omega)
  have t4 : decide ((q : Int) < (p : Int)) = false := decide_eq_false (by omega)
  have t4b : decide (q < p) = false := decide_eq_false (by omega)
  have t5 : decide (z < 0) = true := decide_eq_true (by omega)
  have hg : (zig z : Int) = 2 * (-(z + 1)) + 1 := by unfold zig; split <;> omega
  have hz2 : -9223372036854775808 ≤ z ∧ z ≤ 9223372036854775807 := hz
  generalize zig z = y at *
  obtain ⟨v0, hv0⟩ : ∃ v, IntKind.u64.wrap (IntKind.u64.wrap z * 2) = v := ⟨_, rfl⟩
  obtain ⟨u, hu⟩ : ∃ u, IntKind.u64.wrap z = u := ⟨_, rfl⟩
  rw [hu] at hv0
  obtain ⟨y1, hy⟩ : ∃ y, z + 1 = y := ⟨_, rfl⟩
  have k2 : IntKind.i64.wrap (z + 1) = y1 := by rw [IntWalk.i64_in _ (by omega)]; exact hy
  obtain ⟨x, hx⟩ : ∃ x, -y1 = x := ⟨_, rfl⟩
  have k3 : IntKind.i64.wrap (-y1) = x := by rw [IntWalk.i64_in _ (by omega)]; exact hx
  have k4 : IntKind.u64.wrap x = x := by rw [IntKind.wrap_u64]; omega
  obtain ⟨v, hv⟩ : ∃ v, x * 2 = v := ⟨_, rfl⟩
  have k5 : IntKind.u64.wrap (x * 2) = v := by rw [IntKind.wrap_u64]; omega
  have k6 : IntKind.u64.wrap (v + 1) = (y : Int) := by rw [IntKind.wrap_u64]; omega
  clear hy hx hv
  have LZ := Lib.hid lz
  have A8 := Lib.hid hlt8a
  have B8 := Lib.hid hlt8b
  have Z8 := Lib.hid hlt8z
  have LA := Lib.hid la
  clear la lb lm ha hb hz hz2 hab hn hg hs es lz hlt8a hlt8b hlt8z eva evb evz ep eq
  have cc := Below.refl w.heap.size w
  go_enter Try.func7, Try.ntmps7
  go_wp2_with fail
  refine (C1 _).mono ?_
  rintro e w1 ⟨g1, n1, d1, rfl, hO, b⟩
  replace cc := bK cc b
  clear b
  have h1 := BR.of_own hO (A8.out)
  clear hO
  obtain rfl : n1 = p := by rw [h1.1]; exact HP.out
  go_wp2_with fail
  refine (C2 _).mono ?_
  rintro e w2 ⟨g2, n2, d2, rfl, hO, b⟩
  replace h1 := h1.on b
  replace cc := bK cc b
  clear b
  have h2 := BR.of_own hO (B8.out)
  clear hO
  obtain rfl : n2 = q := by rw [h2.1]; exact HQ.out
  go_wp2_with fail
  refine (alive13_any _).mono ?_
  rintro e w3 ⟨rfl, b⟩
  replace h1 := h1.on b
  replace h2 := h2.on b
  replace cc := bK cc b
  clear b
  go_wp2_with fail
  refine (C3 _).mono ?_
  rintro e w4 ⟨g3, n3, d3, rfl, hO, b⟩
  replace h1 := h1.on b
  replace h2 := h2.on b
  replace cc := bK cc b
  clear b
  have h3 := BR.of_own hO (Z8.out)
  clear hO
  go_wp2_with fail
  refine (C4 _).mono ?_
  rintro e w5 ⟨g4, n4, d4, rfl, hO, b⟩
  replace h1 := h1.on b
  replace h2 := h2.on b
  replace h3 := h3.on b
  replace cc := bK cc b
  clear b
  have h4 := BR.of_own hO (Z8.out)
  clear hO
  go_wp2_with fail
  refine (rsameB_self h3 h4 (by have := h3.1; have := LZ.out; omega)).mono ?_
  rintro e w6 ⟨rfl, b⟩
  replace h1 := h1.on b
  replace h2 := h2.on b
  replace h3 := h3.on b
  replace h4 := h4.on b
  replace cc := bK cc b
  clear b
  have CS := rsameB_any h1 h2 (by have := LA.out; omega)
  rw [hs2] at CS
  go_wp2_with fail
  refine (CS).mono ?_
  rintro e w7 ⟨rfl, b⟩
  replace h1 := h1.on b
  replace h2 := h2.on b
  replace h3 := h3.on b
  replace h4 := h4.on b
  replace cc := bK cc b
  clear b
  go_wp2_with fail
  go_ret
  exact ⟨rfl, cc⟩

set_option maxRecDepth 100000 in
set_option maxHeartbeats 8000000 in
theorem PackOrder_lp {w : World} {a b : Nat} {z : Int} (ha : a < 2 * 128 ^ 9) (hb : b < 2 * 128 ^ 9) (hz : -9223372036854775808 ≤ z ∧ z ≤ 9223372036854775807) (hab : a ≤ b) (hn : ¬ z < 0) :
    Calls Try.prog 7 #[.int .u64 (a : Int), .int .u64 (b : Int), .int .i64 z] w fun e w' => e = .returned (.bool true) ∧ Below w.heap.size w w' := by
  have la := vb_len a
  have lb := vb_len b
  have lm := vb_mono hab
  have C1 : ∀ W : World, Calls Try.prog 15 #[.slice none 0 0, .int .u64 (a : Int)] W (GotNew W (vb a)) := fun W => pPut_N (BR.nil W none 0) (by omega) ha
  have C2 : ∀ W : World, Calls Try.prog 15 #[.slice none 0 0, .int .u64 (b : Int)] W (GotNew W (vb b)) := fun W => pPut_N (BR.nil W none 0) (by omega) hb
  have C3 : ∀ W : World, Calls Try.prog 17 #[.slice none 0 0, .int .i64 z] W (GotNew W (vb (zig z))) := fun W => pPutInt_N (BR.nil W none 0) (by omega) hz
  have C4 : ∀ W : World, Calls Try.prog 15 #[.slice none 0 0, .int .u64 ((zig z : Nat) : Int)] W (GotNew W (vb (zig z))) := fun W => pPut_N (BR.nil W none 0) (by omega) (zig_lt hz)
  have hs : decide (vb a = vb b) = decide (a = b) := decide_eq_decide.2 (vb_inj ha hb)
  obtain ⟨s, es⟩ : ∃ s, decide (a = b) = s := ⟨_, rfl⟩
  have k0 : ((a : Int) == (b : Int)) = s := by rw [← es]; by_cases e : a = b; rw [decide_eq_true e, beq_iff_eq.2 (by omega)]; rw [decide_eq_false e, beq_eq_false_iff_ne.2 (by omega)]
  have k0b : (a == b) = s := by rw [← es]; by_cases e : a = b; rw [decide_eq_true e, beq_iff_eq.2 e]; rw [decide_eq_false e, beq_eq_false_iff_ne.2 e]
  have hs2 : decide (vb a = vb b) = s := by rw [hs, es]
  have hlt8a := vb_lt ha
  have hlt8b := vb_lt hb
  have hlt8z := vb_lt (zig_lt hz)
  have lz := (vb_len (zig z)).2
  obtain ⟨va, eva⟩ : ∃ x, vb a = x := ⟨_, rfl⟩
  obtain ⟨vb_, evb⟩ : ∃ x, vb b = x := ⟨_, rfl⟩
  obtain ⟨vz, evz⟩ : ∃ x, vb (zig z) = x := ⟨_, rfl⟩
  rw [eva] at C1 la hs2 hlt8a lm
  rw [evb] at C2 lb hs2 hlt8b lm
  rw [evz] at C3 C4 hlt8z lz
  obtain ⟨p, ep⟩ : ∃ x, va.length = x := ⟨_, rfl⟩
  obtain ⟨q, eq⟩ : ∃ x, vb_.length = x := ⟨_, rfl⟩
  have HP := Lib.hid ep
  have HQ := Lib.hid eq
  rw [ep] at la lm
  rw [eq] at lb lm
  have t1 : decide ((p : Int) < 1) = false := decide_eq_false (by omega)
  have t1b : decide (p < 1) = false := decide_eq_false (by omega)
  have t2 : decide (10 < (p : Int)) = false := decide_eq_false (by omega)
  have t2b : decide (10 < p) = false := decide_eq_false (by omega)
  have t3 : decide ((a : Int) ≤ (b : Int)) = true := decide_eq_true (by omega)
  have t3b : decide (a ≤ b) = true := decide_eq_true (by omega)
  have t4 : decide ((q : Int) < (p : Int)) = false := decide_eq_false (by omega)
  have t4b : decide (q < p) = false := decide_eq_false (by omega)
  have t5 : decide (z < 0) = false := decide_eq_false (by omega)
  have hg : (zig z : Int) = 2 * z := by unfold zig; split <;> omega
  have hz2 : -9223372036854775808 ≤ z ∧ z ≤ 9223372036854775807 := hz
  generalize zig z = y at *
  have k1 : IntKind.u64.wrap z = z := by rw [IntKind.wrap_u64]; omega
  have k2 : IntKind.u64.wrap (z * 2) = (y : Int) := by rw [IntKind.wrap_u64]; omega
  have LZ := Lib.hid lz
  have A8 := Lib.hid hlt8a
  have B8 := Lib.hid hlt8b
  have Z8 := Lib.hid hlt8z
  have LA := Lib.hid la
  clear la lb lm ha hb hz hz2 hab hn hg hs es lz hlt8a hlt8b hlt8z eva evb evz ep eq
  have cc := Below.refl w.heap.size w
  go_enter Try.func7, Try.ntmps7
  go_wp2_with fail
  refine (C1 _).mono ?_
  rintro e w1 ⟨g1, n1, d1, rfl, hO, b⟩
  replace cc := bK cc b
  clear b
  have h1 := BR.of_own hO (A8.out)
  clear hO
  obtain rfl : n1 = p := by rw [h1.1]; exact HP.out
  go_wp2_with fail
  refine (C2 _).mono ?_
  rintro e w2 ⟨g2, n2, d2, rfl, hO, b⟩
  replace h1 := h1.on b
  replace cc := bK cc b
  clear b
  have h2 := BR.of_own hO (B8.out)
  clear hO
  obtain rfl : n2 = q := by rw [h2.1]; exact HQ.out
  go_wp2_with fail
  refine (alive13_any _).mono ?_
  rintro e w3 ⟨rfl, b⟩
  replace h1 := h1.on b
  replace h2 := h2.on b
  replace cc := bK cc b
  clear b
  go_wp2_with fail
  refine (C3 _).mono ?_
  rintro e w4 ⟨g3, n3, d3, rfl, hO, b⟩
  replace h1 := h1.on b
  replace h2 := h2.on b
  replace cc := bK cc b
  clear b
  have h3 := BR.of_own hO (Z8.out)
  clear hO
  go_wp2_with fail
  refine (C4 _).mono ?_
  rintro e w5 ⟨g4, n4, d4, rfl, hO, b⟩
  replace h1 := h1.on b
  replace h2 := h2.on b
  replace h3 := h3.on b
  replace cc := bK cc b
  clear b
  have h4 := BR.of_own hO (Z8.out)
  clear hO
  go_wp2_with fail
  refine (rsameB_self h3 h4 (by have := h3.1; have := LZ.out; omega)).mono ?_
  rintro e w6 ⟨rfl, b⟩
  replace h1 := h1.on b
  replace h2 := h2.on b
  replace h3 := h3.on b
  replace h4 := h4.on b
  replace cc := bK cc b
  clear b
  have CS := rsameB_any h1 h2 (by have := LA.out; omega)
  rw [hs2] at CS
  go_wp2_with fail
  refine (CS).mono ?_
  rintro e w7 ⟨rfl, b⟩
  replace h1 := h1.on b
  replace h2 := h2.on b
  replace h3 := h3.on b
  replace h4 := h4.on b
  replace cc := bK cc b
  clear b
  go_wp2_with fail
  go_ret
  exact ⟨rfl, cc⟩

set_option maxRecDepth 100000 in
set_option maxHeartbeats 8000000 in
theorem PackOrder_gn {w : World} {a b : Nat} {z : Int} (ha : a < 2 * 128 ^ 9) (hb : b < 2 * 128 ^ 9) (hz : -9223372036854775808 ≤ z ∧ z ≤ 9223372036854775807) (hab : ¬ a ≤ b) (hn : z < 0) :
    Calls Try.prog 7 #[.int .u64 (a : Int), .int .u64 (b : Int), .int .i64 z] w fun e w' => e = .returned (.bool true) ∧ Below w.heap.size w w' := by
  have la := vb_len a
  have lb := vb_len b
  have C1 : ∀ W : World, Calls Try.prog 15 #[.slice none 0 0, .int .u64 (a : Int)] W (GotNew W (vb a)) := fun W => pPut_N (BR.nil W none 0) (by omega) ha
  have C2 : ∀ W : World, Calls Try.prog 15 #[.slice none 0 0, .int .u64 (b : Int)] W (GotNew W (vb b)) := fun W => pPut_N (BR.nil W none 0) (by omega) hb
  have C3 : ∀ W : World, Calls Try.prog 17 #[.slice none 0 0, .int .i64 z] W (GotNew W (vb (zig z))) := fun W => pPutInt_N (BR.nil W none 0) (by omega) hz
  have C4 : ∀ W : World, Calls Try.prog 15 #[.slice none 0 0, .int .u64 ((zig z : Nat) : Int)] W (GotNew W (vb (zig z))) := fun W => pPut_N (BR.nil W none 0) (by omega) (zig_lt hz)
  have hs : decide (vb a = vb b) = decide (a = b) := decide_eq_decide.2 (vb_inj ha hb)
  obtain ⟨s, es⟩ : ∃ s, decide (a = b) = s := ⟨_, rfl⟩
  have k0 : ((a : Int) == (b : Int)) = s := by rw [← es]; by_cases e : a = b; rw [decide_eq_true e, beq_iff_eq.2 (by omega)]; rw [decide_eq_false e, beq_eq_false_iff_ne.2 (by omega)]
  have k0b : (a == b) = s := by rw [← es]; by_cases e : a = b; rw [decide_eq_true e, beq_iff_eq.2 e]; rw [decide_eq_false e, beq_eq_false_iff_ne.2 e]
  have hs2 : decide (vb a = vb b) = s := by rw [hs, es]
  have hlt8a := vb_lt ha
  have hlt8b := vb_lt hb
  have hlt8z := vb_lt (zig_lt hz)
  have lz := (vb_len (zig z)).2
  obtain ⟨va, eva⟩ : ∃ x, vb a = x := ⟨_, rfl⟩
  obtain ⟨vb_, evb⟩ : ∃ x, vb b = x := ⟨_, rfl⟩
  obtain ⟨vz, evz⟩ : ∃ x, vb (zig z) = x := ⟨_, rfl⟩
  rw [eva] at C1 la hs2 hlt8a
  rw [evb] at C2 lb hs2 hlt8b
  rw [evz] at C3 C4 hlt8z lz
  obtain ⟨p, ep⟩ : ∃ x, va.length = x := ⟨_, rfl⟩
  obtain ⟨q, eq⟩ : ∃ x, vb_.length = x := ⟨_, rfl⟩
  have HP := Lib.hid ep
  have HQ := Lib.hid eq
  rw [ep] at la
  rw [eq] at lb
  have t1 : decide ((p : Int) < 1) = false := decide_eq_false (by omega)
  have t1b : decide (p < 1) = false := decide_eq_false (by omega)
  have t2 : decide (10 < (p : Int)) = false := decide_eq_false (by omega)
  have t2b : decide (10 < p) = false := decide_eq_false (by omega)
  have t3 : decide ((a : Int) ≤ (b : Int)) = false := decide_eq_false (by omega)
  have t3b : decide (a ≤ b) = false := decide_eq_false (by omega)
  have t5 : decide (z < 0) = true := decide_eq_true (by omega)
  have hg : (zig z : Int) = 2 * (-(z + 1)) + 1 := by unfold zig; split <;> omega
  have hz2 : -9223372036854775808 ≤ z ∧ z ≤ 9223372036854775807 := hz
  generalize zig z = y at *
  obtain ⟨v0, hv0⟩ : ∃ v, IntKind.u64.wrap (IntKind.u64.wrap z * 2) = v := ⟨_, rfl⟩
  obtain ⟨u, hu⟩ : ∃ u, IntKind.u64.wrap z = u := ⟨_, rfl⟩
  rw [hu] at hv0
  obtain ⟨y1, hy⟩ : ∃ y, z + 1 = y := ⟨_, rfl⟩
  have k2 : IntKind.i64.wrap (z + 1) = y1 := by rw [IntWalk.i64_in _ (by omega)]; exact hy
  obtain ⟨x, hx⟩ : ∃ x, -y1 = x := ⟨_, rfl⟩
  have k3 : IntKind.i64.wrap (-y1) = x := by rw [IntWalk.i64_in _ (by omega)]; exact hx
  have k4 : IntKind.u64.wrap x = x := by rw [IntKind.wrap_u64]; omega
  obtain ⟨v, hv⟩ : ∃ v, x * 2 = v := ⟨_, rfl⟩
  have k5 : IntKind.u64.wrap (x * 2) = v := by rw [IntKind.wrap_u64]; omega
  have k6 : IntKind.u64.wrap (v + 1) = (y : Int) := by rw [IntKind.wrap_u64]; omega
  clear hy hx hv
  have LZ := Lib.hid lz
  have A8 := Lib.hid hlt8a
  have B8 := Lib.hid hlt8b
  have Z8 := Lib.hid hlt8z
  have LA := Lib.hid la
  clear la lb ha hb hz hz2 hab hn hg hs es lz hlt8a hlt8b hlt8z eva evb evz ep eq
  have cc := Below.refl w.heap.size w
  go_enter Try.func7, Try.ntmps7
  go_wp2_with fail
  refine (C1 _).mono ?_
  rintro e w1 ⟨g1, n1, d1, rfl, hO, b⟩
  replace cc := bK cc b
  clear b
  have h1 := BR.of_own hO (A8.out)
  clear hO
  obtain rfl : n1 = p := by rw [h1.1]; exact HP.out
  go_wp2_with fail
  refine (C2 _).mono ?_
  rintro e w2 ⟨g2, n2, d2, rfl, hO, b⟩
  replace h1 := h1.on b
  replace cc := bK cc b
  clear b
  have h2 := BR.of_own hO (B8.out)
  clear hO
  obtain rfl : n2 = q := by rw [h2.1]; exact HQ.out
  go_wp2_with fail
  refine (alive13_any _).mono ?_
  rintro e w3 ⟨rfl, b⟩
  replace h1 := h1.on b
  replace h2 := h2.on b
  replace cc := bK cc b
  clear b
  go_wp2_with fail
  refine (C3 _).mono ?_
  rintro e w4 ⟨g3, n3, d3, rfl, hO, b⟩
  replace h1 := h1.on b
  replace h2 := h2.on b
  replace cc := bK cc b
  clear b
  have h3 := BR.of_own hO (Z8.out)
  clear hO
  go_wp2_with fail
  refine (C4 _).mono ?_
  rintro e w5 ⟨g4, n4, d4, rfl, hO, b⟩
  replace h1 := h1.on b
  replace h2 := h2.on b
  replace h3 := h3.on b
  replace cc := bK cc b
  clear b
  have h4 := BR.of_own hO (Z8.out)
  clear hO
  go_wp2_with fail
  refine (rsameB_self h3 h4 (by have := h3.1; have := LZ.out; omega)).mono ?_
  rintro e w6 ⟨rfl, b⟩
  replace h1 := h1.on b
  replace h2 := h2.on b
  replace h3 := h3.on b
  replace h4 := h4.on b
  replace cc := bK cc b
  clear b
  have CS := rsameB_any h1 h2 (by have := LA.out; omega)
  rw [hs2] at CS
  go_wp2_with fail
  refine (CS).mono ?_
  rintro e w7 ⟨rfl, b⟩
  replace h1 := h1.on b
  replace h2 := h2.on b
  replace h3 := h3.on b
  replace h4 := h4.on b
  replace cc := bK cc b
  clear b
  go_wp2_with fail
  go_ret
  exact ⟨rfl, cc⟩

set_option maxRecDepth 100000 in
set_option maxHeartbeats 8000000 in
theorem PackOrder_gp {w : World} {a b : Nat} {z : Int} (ha : a < 2 * 128 ^ 9) (hb : b < 2 * 128 ^ 9) (hz : -9223372036854775808 ≤ z ∧ z ≤ 9223372036854775807) (hab : ¬ a ≤ b) (hn : ¬ z < 0) :
    Calls Try.prog 7 #[.int .u64 (a : Int), .int .u64 (b : Int), .int .i64 z] w fun e w' => e = .returned (.bool true) ∧ Below w.heap.size w w' := by
  have la := vb_len a
  have lb := vb_len b
  have C1 : ∀ W : World, Calls Try.prog 15 #[.slice none 0 0, .int .u64 (a : Int)] W (GotNew W (vb a)) := fun W => pPut_N (BR.nil W none 0) (by omega) ha
  have C2 : ∀ W : World, Calls Try.prog 15 #[.slice none 0 0, .int .u64 (b : Int)] W (GotNew W (vb b)) := fun W => pPut_N (BR.nil W none 0) (by omega) hb
  have C3 : ∀ W : World, Calls Try.prog 17 #[.slice none 0 0, .int .i64 z] W (GotNew W (vb (zig z))) := fun W => pPutInt_N (BR.nil W none 0) (by omega) hz
  have C4 : ∀ W : World, Calls Try.prog 15 #[.slice none 0 0, .int .u64 ((zig z : Nat) : Int)] W (GotNew W (vb (zig z))) := fun W => pPut_N (BR.nil W none 0) (by omega) (zig_lt hz)
  have hs : decide (vb a = vb b) = decide (a = b) := decide_eq_decide.2 (vb_inj ha hb)
  obtain ⟨s, es⟩ : ∃ s, decide (a = b) = s := ⟨_, rfl⟩
  have k0 : ((a : Int) == (b : Int)) = s := by rw [← es]; by_cases e : a = b; rw [decide_eq_true e, beq_iff_eq.2 (by omega)]; rw [decide_eq_false e, beq_eq_false_iff_ne.2 (by omega)]
  have k0b : (a == b) = s := by rw [← es]; by_cases e : a = b; rw [decide_eq_true e, beq_iff_eq.2 e]; rw [decide_eq_false e, beq_eq_false_iff_ne.2 e]
  have hs2 : decide (vb a = vb b) = s := by rw [hs, es]
  have hlt8a := vb_lt ha
  have hlt8b := vb_lt hb
  have hlt8z := vb_lt (zig_lt hz)
  have lz := (vb_len (zig z)).2
  obtain ⟨va, eva⟩ : ∃ x, vb a = x := ⟨_, rfl⟩
  obtain ⟨vb_, evb⟩ : ∃ x, vb b = x := ⟨_, rfl⟩
  obtain ⟨vz, evz⟩ : ∃ x, vb (zig z) = x := ⟨_, rfl⟩
  rw [eva] at C1 la hs2 hlt8a
  rw [evb] at C2 lb hs2 hlt8b
  rw [evz] at C3 C4 hlt8z lz
  obtain ⟨p, ep⟩ : ∃ x, va.length = x := ⟨_, rfl⟩
  obtain ⟨q, eq⟩ : ∃ x, vb_.length = x := ⟨_, rfl⟩
  have HP := Lib.hid ep
  have HQ := Lib.hid eq
  rw [ep] at la
  rw [eq] at lb
  have t1 : decide ((p : Int) < 1) = false := decide_eq_false (by omega)
  have t1b : decide (p < 1) = false := decide_eq_false (by omega)
  have t2 : decide (10 < (p : Int)) = false := decide_eq_false (by omega)
  have t2b : decide (10 < p) = false := decide_eq_false (by omega)
  have t3 : decide ((a : Int) ≤ (b : Int)) = false := decide_eq_false (by omega)
  have t3b : decide (a ≤ b) = false := decide_eq_false (by omega)
  have t5 : decide (z < 0) = false := decide_eq_false (by omega)
  have hg : (zig z : Int) = 2 * z := by unfold zig; split <;> omega
  have hz2 : -9223372036854775808 ≤ z ∧ z ≤ 9223372036854775807 := hz
  generalize zig z = y at *
  have k1 : IntKind.u64.wrap z = z := by rw [IntKind.wrap_u64]; omega
  have k2 : IntKind.u64.wrap (z * 2) = (y : Int) := by rw [IntKind.wrap_u64]; omega
  have LZ := Lib.hid lz
  have A8 := Lib.hid hlt8a
  have B8 := Lib.hid hlt8b
  have Z8 := Lib.hid hlt8z
  have LA := Lib.hid la
  clear la lb ha hb hz hz2 hab hn hg hs es lz hlt8a hlt8b hlt8z eva evb evz ep eq
  have cc := Below.refl w.heap.size w
  go_enter Try.func7, Try.ntmps7
  go_wp2_with fail
  refine (C1 _).mono ?_
  rintro e w1 ⟨g1, n1, d1, rfl, hO, b⟩
  replace cc := bK cc b
  clear b
  have h1 := BR.of_own hO (A8.out)
  clear hO
  obtain rfl : n1 = p := by rw [h1.1]; exact HP.out
  go_wp2_with fail
  refine (C2 _).mono ?_
  rintro e w2 ⟨g2, n2, d2, rfl, hO, b⟩
  replace h1 := h1.on b
  replace cc := bK cc b
  clear b
  have h2 := BR.of_own hO (B8.out)
  clear hO
  obtain rfl : n2 = q := by rw [h2.1]; exact HQ.out
  go_wp2_with fail
  refine (alive13_any _).mono ?_
  rintro e w3 ⟨rfl, b⟩
  replace h1 := h1.on b
  replace h2 := h2.on b
  replace cc := bK cc b
  clear b
  go_wp2_with fail
  refine (C3 _).mono ?_
  rintro e w4 ⟨g3, n3, d3, rfl, hO, b⟩
  replace h1 := h1.on b
  replace h2 := h2.on b
  replace cc := bK cc b
  clear b
  have h3 := BR.of_own hO (Z8.out)
  clear hO
  go_wp2_with fail
  refine (C4 _).mono ?_
  rintro e w5 ⟨g4, n4, d4, rfl, hO, b⟩
  replace h1 := h1.on b
  replace h2 := h2.on b
  replace h3 := h3.on b
  replace cc := bK cc b
  clear b
  have h4 := BR.of_own hO (Z8.out)
  clear hO
  go_wp2_with fail
  refine (rsameB_self h3 h4 (by have := h3.1; have := LZ.out; omega)).mono ?_
  rintro e w6 ⟨rfl, b⟩
  replace h1 := h1.on b
  replace h2 := h2.on b
  replace h3 := h3.on b
  replace h4 := h4.on b
  replace cc := bK cc b
  clear b
  have CS := rsameB_any h1 h2 (by have := LA.out; omega)
  rw [hs2] at CS
  go_wp2_with fail
  refine (CS).mono ?_
  rintro e w7 ⟨rfl, b⟩
  replace h1 := h1.on b
  replace h2 := h2.on b
  replace h3 := h3.on b
  replace h4 := h4.on b
  replace cc := bK cc b
  clear b
  go_wp2_with fail
  go_ret
  exact ⟨rfl, cc⟩

theorem u64_nat13o {a : Int} (h : (Lit.int .u64 a).wf = true) : ∃ q : Nat, a = (q : Int) ∧ q < 2 * 128 ^ 9 := by
  have : 0 ≤ a ∧ a ≤ 18446744073709551615 := bounds_u64 h
  rw [b64_9]
  exact ⟨a.toNat, by omega, by omega⟩
theorem PackOrder_walk {w : World} (a : Int) (wa : (Lit.int .u64 a).wf = true) (b : Int) (wb : (Lit.int .u64 b).wf = true) (z : Int) (wz : (Lit.int .i64 z).wf = true) : Calls Try.prog 7 #[.int .u64 a, .int .u64 b, .int .i64 z] w fun e w' => e = .returned (.bool true) ∧ Below w.heap.size w w' := by
  obtain ⟨a, rfl, ha⟩ := u64_nat13o wa
  obtain ⟨b, rfl, hb⟩ := u64_nat13o wb
  have hz := bounds_i64 wz
  by_cases hab : a ≤ b
  · by_cases hn : z < 0
    · exact PackOrder_ln ha hb hz hab hn
    · exact PackOrder_lp ha hb hz hab hn
  · by_cases hn : z < 0
    · exact PackOrder_gn ha hb hz hab hn
    · exact PackOrder_gp ha hb hz hab hn

end Go.Proofs.Ytfdapcogkbddaaa
