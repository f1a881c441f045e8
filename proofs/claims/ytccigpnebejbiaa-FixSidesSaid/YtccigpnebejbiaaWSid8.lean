/-
  The walk of FixSides.
-/
import Derived.Test.YtccigpnebejbiaaA10
import Derived.Test.YtccigpnebejbiaaA3
namespace Go.Proofs.Ytccigpnebejbiaa
set_option maxRecDepth 100000
open Go.RowKit
set_option linter.unusedVariables false
set_option linter.unusedSimpArgs false

theorem wrap_one8 {j o : Int} (j0 : 0 ≤ j) (j1 : j ≤ 40) (h : o = ((2 ^ j.toNat : Nat) : Int)) : wrap64 ((2 : Int) ^ j.toNat) = o := by
  have h1 : 2 ^ j.toNat ≤ 1099511627776 := Nat.le_trans (Nat.pow_le_pow_right (by omega) (show j.toNat ≤ 40 by omega)) (by decide)
  have h2 : (2 : Int) ^ j.toNat = ((2 ^ j.toNat : Nat) : Int) := by simp
  rw [h2, h]
  generalize 2 ^ j.toNat = q at h1 ⊢
  exact IntWalk.wrap64_in _ ⟨by omega, by omega⟩

set_option maxRecDepth 100000 in
set_option maxHeartbeats 8000000 in
theorem FixSides_0 {w : World} {a b j : Int} (k0 : j < 0) :
    Calls Try.prog 6 #[.int .i64 a, .int .i64 b, .int .i64 j] w (fun e w' => e = .returned (.bool true) ∧ Below w.heap.size w w') := by
  have t1 : decide (j < 0) = true := decide_eq_true k0
  have cc := Below.refl w.heap.size w
  go_enter Try.func6, Try.ntmps6
  go_wp2_with fail
  refine (alive8_any _).mono ?_
  rintro e w1 ⟨rfl, b⟩
  replace cc := bK cc b
  clear b
  go_wp2_with fail
  go_ret
  exact ⟨rfl, cc⟩

set_option maxRecDepth 100000 in
set_option maxHeartbeats 8000000 in
theorem FixSides_1 {w : World} {a b j : Int} (k0 : ¬ j < 0) (k1 : 40 < j) :
    Calls Try.prog 6 #[.int .i64 a, .int .i64 b, .int .i64 j] w (fun e w' => e = .returned (.bool true) ∧ Below w.heap.size w w') := by
  have t1 : decide (j < 0) = false := decide_eq_false k0
  have t2 : decide (40 < j) = true := decide_eq_true k1
  have cc := Below.refl w.heap.size w
  go_enter Try.func6, Try.ntmps6
  go_wp2_with fail
  refine (alive8_any _).mono ?_
  rintro e w1 ⟨rfl, b⟩
  replace cc := bK cc b
  clear b
  go_wp2_with fail
  go_ret
  exact ⟨rfl, cc⟩

set_option maxRecDepth 100000 in
set_option maxHeartbeats 8000000 in
theorem FixSides_2 {w : World} {a b j : Int} (k0 : ¬ j < 0) (k1 : ¬ 40 < j) (k2 : a = -9223372036854775808) :
    Calls Try.prog 6 #[.int .i64 a, .int .i64 b, .int .i64 j] w (fun e w' => e = .returned (.bool true) ∧ Below w.heap.size w w') := by
  have t1 : decide (j < 0) = false := decide_eq_false k0
  have t2 : decide (40 < j) = false := decide_eq_false k1
  have t3 : (a == (-9223372036854775808)) = true := beq_iff_eq.2 k2
  have cc := Below.refl w.heap.size w
  go_enter Try.func6, Try.ntmps6
  go_wp2_with fail
  refine (alive8_any _).mono ?_
  rintro e w1 ⟨rfl, b⟩
  replace cc := bK cc b
  clear b
  go_wp2_with fail
  go_ret
  exact ⟨rfl, cc⟩

set_option maxRecDepth 100000 in
set_option maxHeartbeats 8000000 in
theorem FixSides_3 {w : World} {a b j : Int} (k0 : ¬ j < 0) (k1 : ¬ 40 < j) (k2 : a ≠ -9223372036854775808) (k3 : b = -9223372036854775808) :
    Calls Try.prog 6 #[.int .i64 a, .int .i64 b, .int .i64 j] w (fun e w' => e = .returned (.bool true) ∧ Below w.heap.size w w') := by
  have t1 : decide (j < 0) = false := decide_eq_false k0
  have t2 : decide (40 < j) = false := decide_eq_false k1
  have t3 : (a == (-9223372036854775808)) = false := beq_eq_false_iff_ne.2 k2
  have t4 : (b == (-9223372036854775808)) = true := beq_iff_eq.2 k3
  have cc := Below.refl w.heap.size w
  go_enter Try.func6, Try.ntmps6
  go_wp2_with fail
  refine (alive8_any _).mono ?_
  rintro e w1 ⟨rfl, b⟩
  replace cc := bK cc b
  clear b
  go_wp2_with fail
  go_ret
  exact ⟨rfl, cc⟩

set_option maxRecDepth 100000 in
set_option maxHeartbeats 8000000 in
theorem FixSides_by {w : World} {a b j p e q g s i t k x m y n o : Int} (ha : I64 a) (k0 : ¬ j < 0) (k1 : ¬ 40 < j) (k2 : a ≠ -9223372036854775808) (k3 : b ≠ -9223372036854775808) (ho : o = ((2 ^ j.toNat : Nat) : Int)) (A0 : ∀ W : World, Calls Try.prog 13 #[.int .i64 a, .int .i64 b, .int .i64 j] W (GotV W (.tuple #[.int .i64 (p), .int .i64 (e)]))) (A1 : ∀ W : World, Calls Try.prog 13 #[.int .i64 (-a), .int .i64 b, .int .i64 j] W (GotV W (.tuple #[.int .i64 (q), .int .i64 (g)]))) (A2 : ∀ W : World, Calls Try.prog 13 #[.int .i64 b, .int .i64 a, .int .i64 j] W (GotV W (.tuple #[.int .i64 (p), .int .i64 (e)]))) (A3 : ∀ W : World, Calls Try.prog 14 #[.int .i64 a, .int .i64 b, .int .i64 j] W (GotV W (.tuple #[.int .i64 (s), .int .i64 (i)]))) (A4 : ∀ W : World, Calls Try.prog 14 #[.int .i64 (-a), .int .i64 b, .int .i64 j] W (GotV W (.tuple #[.int .i64 (t), .int .i64 (k)]))) (A5 : ∀ W : World, Calls Try.prog 13 #[.int .i64 a, .int .i64 o, .int .i64 j] W (GotV W (.tuple #[.int .i64 (a), .int .i64 (0)]))) (A6 : ∀ W : World, Calls Try.prog 14 #[.int .i64 a, .int .i64 o, .int .i64 j] W (GotV W (.tuple #[.int .i64 (a), .int .i64 (0)]))) (A7 : ∀ W : World, Calls Try.prog 23 #[.int .i64 a, .int .i64 b] W (GotV W (.tuple #[.int .i64 (x), .int .i64 (m)]))) (A8 : ∀ W : World, Calls Try.prog 22 #[.int .i64 x, .int .i64 b] W (GotV W (.tuple #[.int .i64 (y), .int .i64 (n)]))) (K1 : Hid (e ≠ 0 ∧ (e == 0) = false ∨ (e = 0 ∧ g ≠ 0 ∧ (g == 0) = false) ∨ (e = 0 ∧ g = 0 ∧ IntKind.i64.wrap (-q) = p))) (K2 : Hid (i ≠ 0 ∧ (i == 0) = false ∨ (i = 0 ∧ k ≠ 0 ∧ (k == 0) = false) ∨ (i = 0 ∧ k = 0 ∧ IntKind.i64.wrap (-t) = s))) (K3 : Hid (m ≠ 0 ∧ (m == 0) = false ∨ (m = 0 ∧ n = 0 ∧ y = a))) :
    Calls Try.prog 6 #[.int .i64 a, .int .i64 b, .int .i64 j] w (fun e w' => e = .returned (.bool true) ∧ Below w.heap.size w w') := by
  have t1 : decide (j < 0) = false := decide_eq_false k0
  have t2 : decide (40 < j) = false := decide_eq_false k1
  have t3 : (a == (-9223372036854775808)) = false := beq_eq_false_iff_ne.2 k2
  have t4 : (b == (-9223372036854775808)) = false := beq_eq_false_iff_ne.2 k3
  have HW : IntKind.i64.wrap (-a) = -a := IntWalk.i64_in _ (by unfold I64 at ha; omega)
  have HO : wrap64 ((2 : Int) ^ j.toNat) = o := wrap_one8 (by omega) (by omega) ho
  have j64 : j ≤ 64 := by omega
  clear ho
  have cc := Below.refl w.heap.size w
  go_enter Try.func6, Try.ntmps6
  go_wp2_with fail
  refine (A0 _).mono ?_
  rintro e w1 ⟨rfl, b⟩
  replace cc := bK cc b
  clear b
  go_wp2_with fail
  refine (A1 _).mono ?_
  rintro e w2 ⟨rfl, b⟩
  replace cc := bK cc b
  clear b
  go_wp2_with fail
  refine (A2 _).mono ?_
  rintro e w3 ⟨rfl, b⟩
  replace cc := bK cc b
  clear b
  go_wp2_with fail
  refine (A3 _).mono ?_
  rintro e w4 ⟨rfl, b⟩
  replace cc := bK cc b
  clear b
  go_wp2_with fail
  refine (A4 _).mono ?_
  rintro e w5 ⟨rfl, b⟩
  replace cc := bK cc b
  clear b
  go_upto_region 8 with fail
  have H1 := K1.out
  have H2 := K2.out
  have H3 := K3.out
  rcases H1 with ⟨h1, h2⟩ | ⟨rfl, h1, h2⟩ | ⟨rfl, rfl, h1⟩ <;> rcases H2 with ⟨h3, h4⟩ | ⟨rfl, h3, h4⟩ | ⟨rfl, rfl, h3⟩ <;> go_wp2_with fail
  all_goals
    refine (A5 _).mono ?_
    rintro e w9 ⟨rfl, b_⟩
    replace cc := bK cc b_
    clear b_
    go_wp2_with fail
    refine (A6 _).mono ?_
    rintro e w9 ⟨rfl, b_⟩
    replace cc := bK cc b_
    clear b_
    go_wp2_with fail
    refine (A7 _).mono ?_
    rintro e w9 ⟨rfl, b_⟩
    replace cc := bK cc b_
    clear b_
    go_wp2_with fail
    refine (A8 _).mono ?_
    rintro e w9 ⟨rfl, b_⟩
    replace cc := bK cc b_
    clear b_
    go_wp2_with fail
    refine (alive8_any _).mono ?_
    rintro e w9 ⟨rfl, b_⟩
    replace cc := bK cc b_
    clear b_
    rcases H3 with ⟨h5, h6⟩ | ⟨rfl, rfl, rfl⟩ <;> (go_wp2_with fail; go_ret; exact ⟨rfl, cc⟩)

end Go.Proofs.Ytccigpnebejbiaa
