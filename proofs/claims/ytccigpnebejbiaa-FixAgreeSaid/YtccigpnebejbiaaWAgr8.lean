/-
  The walk of FixAgree.
-/
import Derived.Test.YtccigpnebejbiaaPSid8
import Derived.Test.YtccigpnebejbiaaA3
namespace Go.Proofs.Ytccigpnebejbiaa
set_option maxRecDepth 100000
open Go.RowKit
set_option linter.unusedVariables false
set_option linter.unusedSimpArgs false

set_option maxRecDepth 100000 in
set_option maxHeartbeats 8000000 in
theorem FixAgree_0 {w : World} {a b j : Int} (k0 : j < 0) :
    Calls Try.prog 7 #[.int .i64 a, .int .i64 b, .int .i64 j] w (fun e w' => e = .returned (.bool true) ∧ Below w.heap.size w w') := by
  have t1 : decide (j < 0) = true := decide_eq_true k0
  have cc := Below.refl w.heap.size w
  go_enter Try.func7, Try.ntmps7
  go_wp2_with fail
  refine (alive8_any _).mono ?_
  rintro e w1 ⟨rfl, b⟩
  replace cc := bK cc b
  clear b
  go_wp2_with fail
  go_ret
  exact ⟨rfl, cc⟩

set_option maxRecDepth 100000 in
set_option maxHeartbeats 8000000 in
theorem FixAgree_1 {w : World} {a b j : Int} (k0 : ¬ j < 0) (k1 : 40 < j) :
    Calls Try.prog 7 #[.int .i64 a, .int .i64 b, .int .i64 j] w (fun e w' => e = .returned (.bool true) ∧ Below w.heap.size w w') := by
  have t1 : decide (j < 0) = false := decide_eq_false k0
  have t2 : decide (40 < j) = true := decide_eq_true k1
  have cc := Below.refl w.heap.size w
  go_enter Try.func7, Try.ntmps7
  go_wp2_with fail
  refine (alive8_any _).mono ?_
  rintro e w1 ⟨rfl, b⟩
  replace cc := bK cc b
  clear b
  go_wp2_with fail
  go_ret
  exact ⟨rfl, cc⟩

set_option maxRecDepth 100000 in
set_option maxHeartbeats 8000000 in
theorem FixAgree_low {w : World} {a b j o p e s h : Int} (k0 : ¬ j < 0) (k1 : ¬ 40 < j) (ho : o = ((2 ^ j.toNat : Nat) : Int)) (hb : b < 1) (A0 : ∀ W : World, Calls Try.prog 13 #[.int .i64 a, .int .i64 b, .int .i64 j] W (GotV W (.tuple #[.int .i64 (p), .int .i64 (e)]))) (A1 : ∀ W : World, Calls Try.prog 8 #[.int .i64 a, .int .i64 b, .int .i64 o] W (GotV W (.tuple #[.int .i64 (p), .int .i64 (e)]))) :
    Calls Try.prog 7 #[.int .i64 a, .int .i64 b, .int .i64 j] w (fun e w' => e = .returned (.bool true) ∧ Below w.heap.size w w') := by
  have t1 : decide (j < 0) = false := decide_eq_false k0
  have t2 : decide (40 < j) = false := decide_eq_false k1
  have t3 : decide (b < 1) = true := decide_eq_true hb
  have HO : wrap64 ((2 : Int) ^ j.toNat) = o := wrap_one8 (by omega) (by omega) ho
  have j64 : j ≤ 64 := by omega
  clear ho
  have cc := Below.refl w.heap.size w
  go_enter Try.func7, Try.ntmps7
  go_wp2_with fail
  refine (A0 _).mono ?_
  rintro e w1 ⟨rfl, b⟩
  replace cc := bK cc b
  clear b
  go_wp2_with fail
  refine (A1 _).mono ?_
  rintro e w2 ⟨rfl, b⟩
  replace cc := bK cc b
  clear b
  go_wp2_with fail
  refine (alive8_any _).mono ?_
  rintro e w3 ⟨rfl, b⟩
  replace cc := bK cc b
  clear b
  go_wp2_with fail
  go_ret
  exact ⟨rfl, cc⟩

set_option maxRecDepth 100000 in
set_option maxHeartbeats 8000000 in
theorem FixAgree_ok {w : World} {a b j o p e s h : Int} (k0 : ¬ j < 0) (k1 : ¬ 40 < j) (ho : o = ((2 ^ j.toNat : Nat) : Int)) (hb : ¬ b < 1) (A0 : ∀ W : World, Calls Try.prog 13 #[.int .i64 a, .int .i64 b, .int .i64 j] W (GotV W (.tuple #[.int .i64 (p), .int .i64 (e)]))) (A1 : ∀ W : World, Calls Try.prog 8 #[.int .i64 a, .int .i64 b, .int .i64 o] W (GotV W (.tuple #[.int .i64 (p), .int .i64 (e)]))) (A2 : ∀ W : World, Calls Try.prog 14 #[.int .i64 a, .int .i64 b, .int .i64 j] W (GotV W (.tuple #[.int .i64 (s), .int .i64 (h)]))) (A3 : ∀ W : World, Calls Try.prog 8 #[.int .i64 a, .int .i64 o, .int .i64 b] W (GotV W (.tuple #[.int .i64 (s), .int .i64 (h)]))) (A4 : ∀ W : World, Calls Try.prog 8 #[.int .i64 a, .int .i64 b, .int .i64 b] W (GotV W (.tuple #[.int .i64 (a), .int .i64 (0)]))) :
    Calls Try.prog 7 #[.int .i64 a, .int .i64 b, .int .i64 j] w (fun e w' => e = .returned (.bool true) ∧ Below w.heap.size w w') := by
  have t1 : decide (j < 0) = false := decide_eq_false k0
  have t2 : decide (40 < j) = false := decide_eq_false k1
  have t3 : decide (b < 1) = false := decide_eq_false hb
  have HO : wrap64 ((2 : Int) ^ j.toNat) = o := wrap_one8 (by omega) (by omega) ho
  have j64 : j ≤ 64 := by omega
  clear ho
  have cc := Below.refl w.heap.size w
  go_enter Try.func7, Try.ntmps7
  go_wp2_with fail
  refine (A0 _).mono ?_
  rintro e w1 ⟨rfl, b⟩
  replace cc := bK cc b
  clear b
  go_wp2_with fail
  refine (A1 _).mono ?_
  rintro e w2 ⟨rfl, b⟩
  replace cc := bK cc b
  clear b
  go_wp2_with fail
  refine (A2 _).mono ?_
  rintro e w3 ⟨rfl, b⟩
  replace cc := bK cc b
  clear b
  go_wp2_with fail
  refine (A3 _).mono ?_
  rintro e w4 ⟨rfl, b⟩
  replace cc := bK cc b
  clear b
  go_wp2_with fail
  refine (A4 _).mono ?_
  rintro e w5 ⟨rfl, b⟩
  replace cc := bK cc b
  clear b
  go_wp2_with fail
  refine (alive8_any _).mono ?_
  rintro e w6 ⟨rfl, b⟩
  replace cc := bK cc b
  clear b
  go_wp2_with fail
  go_ret
  exact ⟨rfl, cc⟩

set_option maxRecDepth 100000 in
set_option maxHeartbeats 8000000 in
theorem FixAgree_walk {w : World} (a : Int) (wa : (Lit.int .i64 a).wf = true) (b : Int) (wb : (Lit.int .i64 b).wf = true) (j : Int) (wj : (Lit.int .i64 j).wf = true) :
    Calls Try.prog 7 #[.int .i64 a, .int .i64 b, .int .i64 j] w (fun e w' => e = .returned (.bool true) ∧ Below w.heap.size w w') := by
  have ha := i64_wf wa
  have hb := i64_wf wb
  by_cases k0 : j < 0
  · exact FixAgree_0 k0
  by_cases k1 : 40 < j
  · exact FixAgree_1 k0 k1
  have j0 : 0 ≤ j := by omega
  have j1 : j ≤ 40 := by omega
  have ho := pw_i64 j1
  have o1 : 1 ≤ ((2 ^ j.toNat : Nat) : Int) := by have := Nat.pow_pos (n := j.toNat) (show 0 < 2 by omega); generalize 2 ^ j.toNat = q at *; omega
  have A1 := fun W : World => fscale_N (w := W) ha hb ho o1
  rw [pw_abs] at A1
  by_cases h : b < 1
  · exact FixAgree_low (s := 0) (h := 0) k0 k1 rfl h (fun W => fmul_N ha hb j0 j1) A1
  have A2 := fun W : World => fdiv_N (w := W) ha hb (by omega) j0 j1
  rw [Int.sign_eq_one_of_pos (by omega), Int.one_mul] at A2
  have A4 := fun W : World => fscale_N (w := W) ha hb hb (by omega)
  have eb : a * b = a * ((b.natAbs : Nat) : Int) := by rw [show ((b.natAbs : Nat) : Int) = b by omega]
  rw [eb, rn_self a (by omega), (nI_yes ha).1, (nI_yes ha).2] at A4
  exact FixAgree_ok k0 k1 rfl h (fun W => fmul_N ha hb j0 j1) A1 A2 (fun W => fscale_N ha ho hb (by omega)) A4

end Go.Proofs.Ytccigpnebejbiaa
