/-
  Several texts in one: R3, KR, MathN, RT1, RT2, RT3, RT4, RT, DU, DT, JF, L8.
-/
import Derived.Test.YtccigpnebejbiaaA9
import Derived.Test.YtccigpnebejbiaaA2
import Derived.Test.YtccigpnebejbiaaA3
import Derived.Test.YtccigpnebejbiaaA4
import Derived.Deep.LoopGhost
import Derived.Test.YtccigpnebejbiaaA6
import Derived.Test.YtccigpnebejbiaaA7
import Derived.Test.YtccigpnebejbiaaA8
import Derived.Test.YtccigpnebejbiaaA5

/-
  The contracts of the third reference: power, Pow, Root, Up.
-/
namespace Go.Proofs.Ytccigpnebejbiaa
set_option maxRecDepth 100000
open Go.RowKit

set_option maxRecDepth 100000 in
set_option maxHeartbeats 2000000 in
theorem rpow3_N {w : World} {A : Option Addr} {n c x k : Nat} (ha : Num w A n c x) (hx : (limbs x).length ≤ 1000) (hk : k ≤ 16) : Calls Try.prog 61 #[.slice A n c, .int .i64 (k : Int)] w (GotN w (x ^ k)) := by
  go_enter Try.func61, Try.ntmps61
  go_wp2_with fail
  refine (rof_N w 1 B64_gt).mono ?_
  rintro e w1 ⟨A1, n1, c1, rfl, h1, b1⟩
  go_wp2_with fail
  go_loopw [5, 6] (fun ov iv wr => ∃ (j : Nat) (A' : Option Addr) (n' c' : Nat), j ≤ k ∧ iv = .int .i64 (j : Int) ∧ ov = .slice A' n' c' ∧ Num wr A' n' c' (x ^ j) ∧ Below w.heap.size w wr) (fun _ iv _ => k - (intOf iv).toNat)
  case atStart => exact ⟨0, A1, n1, c1, Nat.zero_le _, rfl, rfl, h1, b1⟩
  case round =>
    obtain ⟨j, A', n', c', hj, rfl, rfl, hN, hb⟩ := hrel
    have hl := limbs_length_pow hx j
    have ha' := ha.on hb
    by_cases hlt : j < k
    · have hl2 : (limbs (x ^ j)).length ≤ 1000000 := by omega
      clear hl
      go_wp2_with fail
      refine (rmul_N hN ha' hl2 (by omega)).mono ?_
      rintro e w2 ⟨A2, n2, c2, rfl, h2, b2⟩
      rw [← Nat.pow_succ] at h2
      go_wp2_with fail
      go_roundw
      case rel => exact ⟨j + 1, A2, n2, c2, by omega, by go_num, rfl, h2, hb.trans (b2.mono hb.size)⟩
      case measure => simp [intOf]; omega
    · obtain rfl : j = k := by omega
      clear hl
      go_wp2_with fail
      go_ret
      exact ⟨_, _, _, rfl, hN, hb⟩

set_option maxHeartbeats 1000000 in
theorem rroot_no (w : World) (A : Option Addr) (n c : Nat) (k : Int) (hk : k < 1 ∨ 16 < k) : Calls Try.prog 36 #[.slice A n c, .int .i64 k] w (GotV w (.tuple #[.slice none 0 0, .int .i64 1])) := by
  rcases hk with h | h
  · go_enter Try.func36, Try.ntmps36
    go_wp2
    go_ret2
    exact ⟨rfl, Below.refl _ _⟩
  · have h0 : ¬ k < 1 := by omega
    go_enter Try.func36, Try.ntmps36
    go_wp2
    go_ret2
    exact ⟨rfl, Below.refl _ _⟩

theorem num_none (w : World) (A : Option Addr) (c : Nat) : Num w A 0 c 0 := by
  unfold Num
  rw [limbs_zero]
  exact Lim.nil _ _ _ _
theorem blen_len {x m : Nat} (h : (limbs x).length ≤ m) : blen x ≤ 64 * m := by
  refine blen_le ?_
  have := lt_of_limbs_length h
  rw [B64_pow2] at this
  exact this
theorem limbs_two_pow {i m : Nat} (h : i < 64 * m) : (limbs (2 ^ i)).length ≤ m := by
  refine limbs_length_le ?_
  rw [B64_pow2]
  exact (Nat.pow_lt_pow_iff_right (by omega)).2 h

set_option maxRecDepth 100000 in
set_option maxHeartbeats 4000000 in
theorem rroot_N {w : World} {A : Option Addr} {n c x k : Nat} (ha : Num w A n c x) (hx : (limbs x).length ≤ 300) (h1 : 1 ≤ k) (hk : k ≤ 16) : Calls Try.prog 36 #[.slice A n c, .int .i64 (k : Int)] w (GotP w (iroot k x) 0) := by
  have hk0 : ¬ k = 0 := by omega
  obtain ⟨b, hb⟩ : ∃ b, blen x = b := ⟨_, rfl⟩
  have hb2 : b ≤ 19200 := by
    rw [← hb]
    exact blen_len hx
  obtain ⟨q, hq⟩ : ∃ q, q = b / k := ⟨_, rfl⟩
  have hq2 : q ≤ 19200 := by rw [hq]; exact Nat.le_trans (Nat.div_le_self _ _) hb2
  have hst : x < (0 + 2 ^ (q + 1)) ^ k := by rw [hq, ← hb]; exact root_start hk0 (lt_blen x)
  have hw : IntKind.i64.wrap ((b : Int) / (k : Int)) = (q : Int) := by
    have h2 : ((b / k : Nat) : Int) = (b : Int) / (k : Int) := by simp
    rw [hq, ← h2, IntWalk.i64_in _ (by omega)]
  have d1 : decide ((k : Int) < 1) = false := by simp; omega
  have d2 : decide (16 < (k : Int)) = false := by simp; omega
  have HB := Lib.hid hb
  have HST := Lib.hid hst
  clear hb hst hq
  go_enter Try.func36, Try.ntmps36
  go_wp2_with fail
  refine (rbits_N (Num.on ha ((Below.refl _ w).alloc (Nat.le_refl _) _)) (by omega)).mono ?_
  rintro e w1 ⟨rfl, b1⟩
  rw [HB.out]
  have hB1 : Below w.heap.size w w1 := ((Below.refl _ w).alloc (Nat.le_refl _) _).trans (b1.mono (by simp))
  go_wp2_with fail
  clear hw b1
  go_loopw [6, 7] (fun ov iv wr => ∃ (j : Nat) (A' : Option Addr) (n' c' r : Nat), j ≤ q + 1 ∧ iv = .int .i64 ((j : Int) - 1) ∧ ov = .slice A' n' c' ∧ Num wr A' n' c' r ∧ Hid (r ^ k ≤ x) ∧ Hid (x < (r + 2 ^ j) ^ k) ∧ Below w.heap.size w wr) (fun _ iv _ => (intOf iv + 1).toNat)
  case atStart => exact ⟨q + 1, _, _, _, 0, Nat.le_refl _, congrArg (Value.int .i64) (by omega), rfl, num_none _ _ _, Lib.hid (by rw [Nat.zero_pow (by omega)]; omega), HST, hB1⟩
  case round =>
    obtain ⟨j, A', n', c', r, hjq, hiv, rfl, hN, HR, HX, hB⟩ := hrel
    subst hiv
    have ha' := ha.on hB
    have hrx : r ≤ x := Nat.le_trans (self_le_pow r hk0) HR.out
    have hrl : (limbs r).length ≤ 300 := Nat.le_trans (limbs_length_mono hrx) hx
    clear hrx
    cases j with
    | zero =>
      rw [show (((0 : Nat) : Int) - 1) = -1 from rfl]
      have e : iroot k x = r := iroot_eq hk0 HR.out HX.out
      have HE := Lib.hid e
      clear e
      go_wp2_with fail
      go_ret2
      rw [HE.out]
      exact ⟨_, _, _, rfl, hN, hB⟩
    | succ i =>
      rw [show (((i + 1 : Nat) : Int) - 1) = (i : Int) by omega]
      have hi : i ≤ 19200 := by omega
      have hpl := limbs_two_pow (i := i) (m := 301) (by omega)
      have hml := limbs_length_add (Nat.le_trans hrl (by omega)) hpl
      have hpw := limbs_length_pow hml k
      have hpw2 : (limbs ((r + 2 ^ i) ^ k)).length ≤ 1000000 := by
        refine Nat.le_trans hpw ?_
        have : 302 * k ≤ 302 * 16 := Nat.mul_le_mul_left _ hk
        omega
      have HPL := Lib.hid hpl
      clear hpw hpl
      go_wp2_with fail
      refine (rof_N _ 1 B64_gt).mono ?_
      rintro e w2 ⟨A2, n2, c2, rfl, h2, b2⟩
      go_wp2_with fail
      refine (rshl_N h2 (by rw [limbs_one (by omega) B64_gt]; simp) (by omega)).mono ?_
      rintro e w3 ⟨A3, n3, c3, rfl, h3, b3⟩
      rw [Nat.one_mul] at h3
      have c3' := b2.trans (b3.mono b2.size)
      replace hN := hN.on c3'
      replace ha' := ha'.on c3'
      replace hB := hB.trans (c3'.mono hB.size)
      clear b2 b3 c3' h2
      go_wp2_with fail
      refine (radd_N hN h3 (by omega) (by have := HPL.out; omega)).mono ?_
      rintro e w4 ⟨A4, n4, c4, rfl, h4, b4⟩
      replace hN := hN.on b4
      replace ha' := ha'.on b4
      replace hB := bK hB b4
      clear b4 h3
      go_wp2_with fail
      refine (rpow3_N h4 (by omega) hk).mono ?_
      rintro e w5 ⟨A5, n5, c5, rfl, h5, b5⟩
      replace hN := hN.on b5
      replace ha' := ha'.on b5
      replace h4 := h4.on b5
      replace hB := bK hB b5
      clear b5
      go_wp2_with fail
      refine (rcmp_N h5 ha' (by omega) (by omega)).mono ?_
      rintro e w6 ⟨rfl, b6⟩
      replace hN := hN.on b6
      replace h4 := h4.on b6
      replace hB := bK hB b6
      clear b6 h5
      have hX2 := HX.out
      rw [root_step] at hX2
      have HX2 := Lib.hid hX2
      clear hX2 HX
      by_cases hle : (r + 2 ^ i) ^ k ≤ x
      · have hcm : cmpN ((r + 2 ^ i) ^ k) x ≤ 0 := by
          rcases Nat.lt_or_ge ((r + 2 ^ i) ^ k) x with h | h
          · rw [cmpN_lt h]; omega
          · rw [cmpN_zero.2 (by omega)]; omega
        have HLE := Lib.hid hle
        clear hle
        go_wp2_with fail
        go_roundw
        case rel => exact ⟨i, A4, n4, c4, r + 2 ^ i, by omega, rfl, rfl, h4, HLE, HX2, hB⟩
        case measure => simp [intOf]
      · have hcm : ¬ cmpN ((r + 2 ^ i) ^ k) x ≤ 0 := by rw [cmpN_gt (by omega)]; omega
        have HLT : Hid (x < (r + 2 ^ i) ^ k) := Lib.hid (by omega)
        clear hle
        go_wp2_with fail
        go_roundw
        case rel => exact ⟨i, A', n', c', r, by omega, rfl, rfl, hN, HR, HLT, hB⟩
        case measure => simp [intOf]
theorem len_iroot {x k m : Nat} (h1 : 1 ≤ k) (hx : (limbs x).length ≤ m) : (limbs (iroot k x)).length ≤ m := Nat.le_trans (limbs_length_mono (iroot_le x (by omega))) hx
theorem len_uroot {x k m : Nat} (h1 : 1 ≤ k) (hx : (limbs x).length ≤ m) : (limbs (uroot k x)).length ≤ m := Nat.le_trans (limbs_length_mono (uroot_le_self x (by omega))) hx
theorem len_irootp {x k m : Nat} (h1 : 1 ≤ k) (hx : (limbs x).length ≤ m) : (limbs (iroot k x ^ k)).length ≤ m := Nat.le_trans (limbs_length_mono (iroot_pow x (by omega))) hx

end Go.Proofs.Ytccigpnebejbiaa

/-
  The contract of the eighth reference: Sqrt.
-/
namespace Go.Proofs.Ytccigpnebejbiaa
set_option maxRecDepth 100000
open Go.RowKit
set_option linter.unusedVariables false
set_option linter.unusedSimpArgs false

attribute [local go_sem] field_N
theorem root8_fits {a : Int} (ha : I64 a) {k : Nat} (hk : k ≤ 40) : I64 ((iroot 2 (a.natAbs * 2 ^ k) : Nat) : Int) := by
  have h1 : a.natAbs < 9223372036854775808 + 1 := by unfold I64 at ha; omega
  have h2 : 2 ^ k ≤ 1099511627776 := Nat.le_trans (Nat.pow_le_pow_right (by omega) hk) (by decide)
  have h3 : a.natAbs * 2 ^ k ≤ 9223372036854775808 * 1099511627776 := Nat.mul_le_mul (by omega) h2
  have h4 : iroot 2 (a.natAbs * 2 ^ k) ≤ 9223372036854775807 := by
    refine Nat.le_of_not_lt fun h => ?_
    have h5 := iroot_pow (k := 2) (a.natAbs * 2 ^ k) (by omega)
    have h6 : 9223372036854775808 ^ 2 ≤ iroot 2 (a.natAbs * 2 ^ k) ^ 2 := Nat.pow_le_pow_left h 2
    omega
  unfold I64; omega

set_option maxRecDepth 100000 in
set_option maxHeartbeats 8000000 in
theorem rsqrt8_N {w : World} {a j : Int} (ha : I64 a) (a0 : 0 ≤ a) (j0 : 0 ≤ j) (j1 : j ≤ 40) :
    Calls Try.prog 11 #[.int .i64 a, .int .i64 j] w (GotV w (.tuple #[.int .i64 ((iroot 2 (a.natAbs * 2 ^ j.toNat) : Nat)), .int .i64 (0)])) := by
  have t1_ : decide (a < 0) = false := decide_eq_false (by omega)
  have sv := len_one ha.abs
  have hf := root8_fits ha (show j.toNat ≤ 40 by omega)
  have je := to_nat j0
  obtain ⟨k, hk⟩ : ∃ k, j.toNat = k := ⟨_, rfl⟩
  rw [hk] at je hf ⊢
  have lp : (limbs (2 ^ k)).length ≤ 1 := len_one (Nat.lt_of_le_of_lt (Nat.pow_le_pow_right (by omega) (show k ≤ 40 by omega)) (by decide))
  have lu : (limbs (a.natAbs * 2 ^ k)).length ≤ 20 := Nat.le_trans (limbs_length_mul sv lp) (by omega)
  have CS : ∀ {W : World} {A : Option Addr} {m c : Nat}, Num W A m c a.natAbs → Calls Try.prog 35 #[.slice A m c, .int .i64 j] W (GotP W (a.natAbs * 2 ^ k) 0) := fun h => by rw [← je]; exact rshl_N h (by omega) (by omega)
  obtain ⟨u, hU⟩ : ∃ u, a.natAbs * 2 ^ k = u := ⟨_, rfl⟩
  rw [hU] at lu CS hf ⊢
  obtain ⟨r, hR⟩ : ∃ r, iroot 2 u = r := ⟨_, rfl⟩
  rw [hR] at hf ⊢
  have CR : ∀ {W : World} {A : Option Addr} {m c : Nat}, Num W A m c u → Calls Try.prog 36 #[.slice A m c, .int .i64 2] W (GotP W r 0) := fun h => by rw [← hR]; exact rroot_N (k := 2) h (by omega) (by omega) (by omega)
  have j1_ := j1
  clear hk hU hR lp
  have cc := Below.refl w.heap.size w
  go_enter Try.func11, Try.ntmps11
  go_wp2_with fail
  refine (frac_2 _ j0 j1).mono ?_
  rintro e w1 ⟨rfl, b⟩
  replace cc := bK cc b
  clear b
  go_wp2_with fail
  refine (rzof_N _ a ha).mono ?_
  rintro e w2 ⟨bz, Az, nz, cz, rfl, hz, b⟩
  replace cc := bK cc b
  clear b
  have nz := hz.1
  go_wp2_with fail
  refine (CS nz).mono ?_
  rintro e w3 ⟨Av, nv, cv, rfl, v, b⟩
  replace hz := hz.on b
  replace nz := nz.on b
  replace cc := bK cc b
  clear b
  go_wp2_with fail
  refine (CR v).mono ?_
  rintro e w4 ⟨Aq, nq, cq, rfl, q, b⟩
  replace hz := hz.on b
  replace nz := nz.on b
  replace v := v.on b
  replace cc := bK cc b
  clear b
  have zu := zn_nat q
  go_wp2_with fail
  refine (rzint_yes zu hf).mono ?_
  rintro e w5 ⟨rfl, b⟩
  replace hz := hz.on b
  replace nz := nz.on b
  replace v := v.on b
  replace q := q.on b
  replace zu := zu.on b
  replace cc := bK cc b
  clear b
  go_wp2_with fail
  go_ret2
  exact ⟨rfl, cc⟩

set_option maxRecDepth 100000 in
set_option maxHeartbeats 8000000 in
theorem rsqrt8_no {w : World} {a j : Int} (h : j < 0 ∨ 40 < j) :
    Calls Try.prog 11 #[.int .i64 a, .int .i64 j] w (GotV w (.tuple #[.int .i64 (0), .int .i64 (1)])) := by
  have cc := Below.refl w.heap.size w
  go_enter Try.func11, Try.ntmps11
  go_wp2_with fail
  refine (frac_no _ h).mono ?_
  rintro e w1 ⟨rfl, b⟩
  replace cc := bK cc b
  clear b
  go_wp2_with fail
  go_ret2
  exact ⟨rfl, cc⟩

set_option maxRecDepth 100000 in
set_option maxHeartbeats 8000000 in
theorem rsqrt8_neg {w : World} {a j : Int} (a0 : a < 0) (j0 : 0 ≤ j) (j1 : j ≤ 40) :
    Calls Try.prog 11 #[.int .i64 a, .int .i64 j] w (GotV w (.tuple #[.int .i64 (0), .int .i64 (1)])) := by
  have t1_ : decide (a < 0) = true := decide_eq_true a0
  have cc := Below.refl w.heap.size w
  go_enter Try.func11, Try.ntmps11
  go_wp2_with fail
  refine (frac_2 _ j0 j1).mono ?_
  rintro e w1 ⟨rfl, b⟩
  replace cc := bK cc b
  clear b
  go_wp2_with fail
  go_ret2
  exact ⟨rfl, cc⟩

end Go.Proofs.Ytccigpnebejbiaa

/-
  Plain arithmetic: Newton's guesses of a root go down to it, and stay no less than it.
-/
namespace Go.Proofs.Ytccigpnebejbiaa

theorem twice_le (r x : Nat) : 2 * (r * x) ≤ r * r + x * x := by
  rcases Nat.le_total r x with h | h
  · obtain ⟨d, rfl⟩ := Nat.le.dest h
    simp only [Nat.mul_add, Nat.add_mul, Nat.mul_comm d r]
    have := Nat.zero_le (d * d)
    omega
  · obtain ⟨d, rfl⟩ := Nat.le.dest h
    simp only [Nat.mul_add, Nat.add_mul, Nat.mul_comm d x]
    have := Nat.zero_le (d * d)
    omega

/-- The mean of j times x and once r to the power of j + 1 by x to the power of j is no less than r. -/
theorem means (r x j : Nat) : (j + 1) * (r * x ^ j) ≤ r ^ (j + 1) + j * (x * x ^ j) := by
  induction j with
  | zero => simp
  | succ j ih =>
    have h1 := Nat.mul_le_mul_left ((j + 1) * x ^ j) (twice_le r x)
    have h2 := Nat.mul_le_mul_left r ih
    rw [Nat.pow_succ r (j + 1), Nat.pow_succ x j]
    generalize x ^ j = X at *
    generalize r ^ (j + 1) = R at *
    have e1 : (j + 1) * X * (2 * (r * x)) = 2 * (j * (r * x * X)) + 2 * (r * x * X) := by
      rw [show (j + 1) * X * (2 * (r * x)) = 2 * ((j + 1) * (r * x * X)) by ac_rfl, Nat.add_mul, Nat.one_mul, Nat.mul_add]
    have e2 : (j + 1) * X * (r * r + x * x) = (j + 1) * (r * r * X) + (j + 1) * (x * x * X) := by
      rw [Nat.mul_add]; congr 1 <;> ac_rfl
    have e3 : r * ((j + 1) * (r * X)) = (j + 1) * (r * r * X) := by ac_rfl
    have e4 : r * (R + j * (x * X)) = R * r + j * (r * x * X) := by
      rw [Nat.mul_add]; congr 1 <;> ac_rfl
    have e5 : (j + 1 + 1) * (r * (X * x)) = j * (r * x * X) + 2 * (r * x * X) := by
      rw [show r * (X * x) = r * x * X by ac_rfl, Nat.add_assoc, Nat.add_mul]
    have e6 : (j + 1) * (x * (X * x)) = (j + 1) * (x * x * X) := by
      congr 1; ac_rfl
    rw [e1, e2] at h1
    rw [e3, e4] at h2
    rw [e5, e6]
    omega

/-- The next guess. -/
def newton (a k x : Nat) : Nat := (x * (k - 1) + a / x ^ (k - 1)) / k

theorem newton_ge {a k r x : Nat} (h1 : 1 ≤ k) (hr : r ^ k ≤ a) (hx : x ≠ 0) : r ≤ newton a k x := by
  obtain ⟨j, rfl⟩ : ∃ j, k = j + 1 := ⟨k - 1, by omega⟩
  unfold newton
  rw [Nat.add_sub_cancel, Nat.le_div_iff_mul_le (by omega)]
  have hX : 0 < x ^ j := Nat.pow_pos (by omega)
  have hq : a < x ^ j * (a / x ^ j + 1) := by
    have h2 := Nat.div_add_mod a (x ^ j)
    have h3 := Nat.mod_lt a hX
    rw [Nat.mul_add, Nat.mul_one]
    omega
  have hm := means r x j
  refine Nat.le_of_lt_succ (Nat.lt_of_mul_lt_mul_right (a := x ^ j) ?_)
  generalize a / x ^ j = q at *
  generalize x ^ j = X at *
  have e1 : r * (j + 1) * X = (j + 1) * (r * X) := by ac_rfl
  have e2 : (x * j + q).succ * X = j * (x * X) + (q + 1) * X := by
    rw [Nat.succ_eq_add_one, Nat.add_assoc, Nat.add_mul]; congr 1; ac_rfl
  rw [e1, e2]
  have e3 : X * (q + 1) = (q + 1) * X := Nat.mul_comm _ _
  omega

theorem newton_lt {a k x : Nat} (h1 : 1 ≤ k) (hx : x ≠ 0) (h : a < x ^ k) : newton a k x < x := by
  obtain ⟨j, rfl⟩ : ∃ j, k = j + 1 := ⟨k - 1, by omega⟩
  unfold newton
  rw [Nat.add_sub_cancel, Nat.div_lt_iff_lt_mul (by omega)]
  have hX : 0 < x ^ j := Nat.pow_pos (by omega)
  have hq : a / x ^ j < x := by
    rw [Nat.div_lt_iff_lt_mul hX, Nat.mul_comm, ← Nat.pow_succ]
    exact h
  rw [Nat.mul_add, Nat.mul_one]
  omega

theorem newton_end {a k x : Nat} (h1 : 1 ≤ k) (hx : x ≠ 0) (h : x ^ k ≤ a) : x ≤ newton a k x := by
  obtain ⟨j, rfl⟩ : ∃ j, k = j + 1 := ⟨k - 1, by omega⟩
  unfold newton
  rw [Nat.add_sub_cancel, Nat.le_div_iff_mul_le (by omega)]
  have hX : 0 < x ^ j := Nat.pow_pos (by omega)
  have hq : x ≤ a / x ^ j := by
    rw [Nat.le_div_iff_mul_le hX, Nat.mul_comm, ← Nat.pow_succ]
    exact h
  rw [Nat.mul_add, Nat.mul_one]
  omega

/-- A power of 2 that is above the root. -/
theorem above_root {a k b : Nat} (h1 : 1 ≤ k) (ha : a < 2 ^ b) : a < (2 ^ ((b + k - 1) / k)) ^ k := by
  refine Nat.lt_of_lt_of_le ha ?_
  rw [← Nat.pow_mul]
  refine Nat.pow_le_pow_right (by omega) ?_
  have h2 := Nat.div_add_mod (b + k - 1) k
  have h3 := Nat.mod_lt (b + k - 1) (show k > 0 by omega)
  rw [Nat.mul_comm] at h2
  omega

theorem above_bits {k b m : Nat} (h1 : 1 ≤ k) (hk : k ≤ 16) (hb : b ≤ m) : (b + k - 1) / k * k ≤ m + 15 := by
  have := Nat.div_mul_le_self (b + k - 1) k
  omega

end Go.Proofs.Ytccigpnebejbiaa

/-
  The contracts of root's inner functions: isExponent, power, quotient, above.
-/
namespace Go.Proofs.Ytccigpnebejbiaa
set_option maxRecDepth 100000
open Go.RowKit

set_option maxHeartbeats 1000000 in
theorem isExp_yes (w : World) (k : Nat) (h1 : 1 ≤ k) (hk : k ≤ 16) : Calls Try.prog 54 #[.int .i64 (k : Int)] w fun e w' => e = .returned (.bool true) ∧ w = w' := by
  have d1 : decide (1 ≤ (k : Int)) = true := by simp; omega
  have d2 : decide ((k : Int) ≤ 16) = true := by simp; omega
  go_enter Try.func54, Try.ntmps54
  go_wp2
  go_ret
  exact ⟨rfl, rfl⟩
set_option maxHeartbeats 1000000 in
theorem isExp_no (w : World) (k : Int) (hk : k < 1 ∨ 16 < k) : Calls Try.prog 54 #[.int .i64 k] w fun e w' => e = .returned (.bool false) ∧ w = w' := by
  rcases hk with h | h
  · have d1 : decide (1 ≤ k) = false := by simp; omega
    go_enter Try.func54, Try.ntmps54
    go_wp2
    go_ret
    exact ⟨rfl, rfl⟩
  · have d1 : decide (1 ≤ k) = true := by simp; omega
    have d2 : decide (k ≤ 16) = false := by simp; omega
    go_enter Try.func54, Try.ntmps54
    go_wp2
    go_ret
    exact ⟨rfl, rfl⟩

set_option maxRecDepth 100000 in
set_option maxHeartbeats 2000000 in
theorem tpow_N {w : World} {A : Option Addr} {n c x k : Nat} (ha : Num w A n c x) (hx : (limbs x).length ≤ 1000) (hk : k ≤ 16) : Calls Try.prog 79 #[.slice A n c, .int .i64 (k : Int)] w (GotN w (x ^ k)) := by
  go_enter Try.func79, Try.ntmps79
  go_wp2_with fail
  refine (of_N w 1 B64_gt).mono ?_
  rintro e w1 ⟨A1, n1, c1, rfl, h1, b1⟩
  go_wp2_with fail
  go_loopw [5, 8] (fun ov iv wr => ∃ (j : Nat) (A' : Option Addr) (n' c' : Nat), j ≤ k ∧ iv = .int .i64 (j : Int) ∧ ov = .slice A' n' c' ∧ Num wr A' n' c' (x ^ j) ∧ Below w.heap.size w wr) (fun _ iv _ => k - (intOf iv).toNat)
  case atStart => exact ⟨0, A1, n1, c1, Nat.zero_le _, rfl, rfl, h1, b1⟩
  case round =>
    obtain ⟨j, A', n', c', hj, rfl, rfl, hN, hb⟩ := hrel
    have hl := limbs_length_pow hx j
    have ha' := ha.on hb
    by_cases hlt : j < k
    · have hl2 : (limbs (x ^ j)).length ≤ 1000000 := by omega
      clear hl
      go_wp2_with fail
      refine (mul_N hN ha' (by omega) (by omega)).mono ?_
      rintro e w2 ⟨A2, n2, c2, rfl, h2, b2⟩
      rw [← Nat.pow_succ] at h2
      go_wp2_with fail
      go_roundw
      case rel => exact ⟨j + 1, A2, n2, c2, by omega, by go_num, rfl, h2, hb.trans (b2.mono hb.size)⟩
      case measure => simp [intOf]; omega
    · obtain rfl : j = k := by omega
      clear hl
      go_wp2_with fail
      go_ret
      exact ⟨_, _, _, rfl, hN, hb⟩

set_option maxHeartbeats 1000000 in
theorem quot_N {w : World} {A B : Option Addr} {n c m d x y : Nat} (ha : Num w A n c x) (hb : Num w B m d y) (hx : (limbs x).length ≤ 300) (hy : (limbs y).length ≤ 300) (hy0 : y ≠ 0) : Calls Try.prog 78 #[.slice A n c, .slice B m d] w (GotN w (x / y)) := by
  go_enter Try.func78, Try.ntmps78
  go_wp2_with fail
  refine (ddiv_N ha hb hx hy hy0).mono ?_
  rintro e w1 ⟨A1, n1, c1, B1, m1, d1, rfl, h3, h4, b1⟩
  go_wp2_with fail
  go_ret
  exact ⟨_, _, _, rfl, h3, b1⟩

theorem wrap_one {r : Nat} (hr : r < 64) : IntKind.u64.wrap (2 ^ r) = (pw r : Int) := by
  have h1 := pw_lt hr
  rw [IntKind.wrap_u64]
  have e : ((2 : Int) ^ r) = ((pw r : Nat) : Int) := by unfold pw; simp
  rw [e]
  unfold B64 at h1
  omega

set_option maxRecDepth 100000 in
set_option maxHeartbeats 4000000 in
theorem above_N {w : World} {A : Option Addr} {n c x k : Nat} (ha : Num w A n c x) (hx : (limbs x).length ≤ 298) (h1 : 1 ≤ k) (hk : k ≤ 16) : Calls Try.prog 83 #[.slice A n c, .int .i64 (k : Int)] w (GotN w (2 ^ ((blen x + k - 1) / k))) := by
  obtain ⟨i0, hi, hz0, hz1, hz2⟩ := info_parts info24
  have hk0 : ¬ k = 0 := by omega
  obtain ⟨b, hb⟩ : ∃ b, blen x = b := ⟨_, rfl⟩
  have hb2 : b ≤ 19072 := by
    rw [← hb]
    exact blen_len hx
  obtain ⟨q, hq⟩ : ∃ q, q = (b + k - 1) / k := ⟨_, rfl⟩
  have hq2 : q ≤ 19200 := by rw [hq]; exact Nat.le_trans (Nat.div_le_self _ _) (by omega)
  obtain ⟨s, hs⟩ : ∃ s, s = q / 64 := ⟨_, rfl⟩
  obtain ⟨r, hr⟩ : ∃ r, r = q % 64 := ⟨_, rfl⟩
  have hr2 : r < 64 := by omega
  have hs2 : s ≤ 300 := by omega
  have hw' : ((b : Int) + (k : Int) - 1) / (k : Int) = (q : Int) := by
    rw [hq, Int.natCast_ediv]
    congr 1
    omega
  have hws' : (q : Int) / 64 = (s : Int) := by omega
  have hwr' : (q : Int) % 64 = (r : Int) := by omega
  have HONE := Lib.hid (wrap_one hr2)
  have hl : (List.replicate (s + 1) 0).set s (pw r) = limbs (2 ^ q) := by rw [hs, hr]; exact pw_limbs q
  rw [hb, ← hq]
  have HB := Lib.hid hb
  have HLL := Lib.hid hl
  clear hb hq hs hr hl
  go_enter Try.func83, Try.ntmps83
  go_wp2_with fail
  refine (bits_N ha (by omega)).mono ?_
  rintro e w1 ⟨rfl, b1⟩
  rw [HB.out]
  obtain ⟨t, ht⟩ : ∃ t, w1.heap.size = t := ⟨_, rfl⟩
  have HS := Lib.hid ht
  clear ht
  have hr3 : (0 : Int) ≤ (r : Int) := by omega
  have hr4 : (r : Int) ≤ 64 := by omega
  go_wp2_with (at_make; refine wpList_make_full _ rfl _ _ 31 rfl t 48 i0 (.int .u64 0) 1 Try.underlying31 hi hz0 hz1 .i64 .i64 _ _ (s + 1) rfl rfl (by omega) (by omega) (by rw [hz2]; omega) (by unfold maxLen; omega) (by rw [HS.out]; omega) ?_; intro w2 hown1 hgrow1; rw [made_zeros] at hown1; rw [HS.out] at hown1 ⊢; have hf := hown1.frozenAt s; have hc : w2.cell? ⟨t, s, none⟩ = some (.int .u64 0) := (by rw [hown1.cellAt s (by omega)]; simp [encD]); have hst := Lib.hid (hown1.stored s (.int .u64 (pw r : Int))); have HO := Lib.hid hown1; clear hown1)
  go_ret
  rw [HONE.out]
  have hrow := hst.out.1
  rw [show (Value.int IntKind.u64 (pw r : Int)) = encD (pw r) from rfl, ← List.map_set, HLL.out] at hrow
  refine ⟨_, _, _, rfl, Lim.of_own hrow (limbs_dig _), ?_⟩
  have hsz := HS.out
  exact b1.trans ((((Below.refl t w1).grown hgrow1 (by omega) (fun k h => by cases h)).grown hst.out.2 (by have := hgrow1.size; omega) (fun q e => by cases e; exact Nat.le_refl _)).mono (by have := b1.size; omega))

end Go.Proofs.Ytccigpnebejbiaa

/-
  The contracts of root's guesses: the closure, goDown, rootOf; and of Root, Up, Pow.
-/
namespace Go.Proofs.Ytccigpnebejbiaa
set_option maxRecDepth 100000
open Go.RowKit

theorem undrew3 {W w' : World} (hb : Below W.drew.heap.size W.drew w') : Below W.heap.size W w' := ⟨hb.os, hb.tape, hb.output, hb.size, hb.block⟩

set_option maxRecDepth 100000 in
set_option maxHeartbeats 4000000 in
theorem newt_N {w : World} {A X : Option Addr} {n c m d a x k ba bk : Nat} (hcA : w.cell? ⟨ba, 0, none⟩ = some (.slice A n c)) (hcK : w.cell? ⟨bk, 0, none⟩ = some (.int .i64 (k : Int))) (hba : ba < w.heap.size) (hbk : bk < w.heap.size) (ha : Num w A n c a) (hx : Num w X m d x) (la : (limbs a).length ≤ 299) (lx : (limbs x).length ≤ 299) (lp : (limbs (x ^ (k - 1))).length ≤ 300) (h1 : 1 ≤ k) (hk : k ≤ 16) (hx0 : x ≠ 0) (ls : (limbs (x * (k - 1) + a / x ^ (k - 1))).length ≤ 300) :
    Calls Try.prog 77 #[.slice X m d, .pointer (some ⟨ba, 0, none⟩), .pointer (some ⟨bk, 0, none⟩)] w (GotN w (newton a k x)) := by
  unfold newton
  obtain ⟨j, hj⟩ : ∃ j, k - 1 = j := ⟨_, rfl⟩
  rw [hj] at lp ls ⊢
  have hji : (k : Int) - 1 = (j : Int) := by omega
  have hjv : IntKind.i64.wrap (j : Int) = (j : Int) := IntWalk.i64_in _ (by omega)
  have hjw : IntKind.u64.wrap (j : Int) = (j : Int) := by rw [IntKind.wrap_u64]; omega
  have hkw : IntKind.u64.wrap (k : Int) = (k : Int) := by rw [IntKind.wrap_u64]; omega
  have hjk : j ≤ 16 := by omega
  have hp0 : x ^ j ≠ 0 := by have : 0 < x ^ j := Nat.pow_pos (by omega); omega
  have hk0 : k ≠ 0 := by omega
  have lq : (limbs (a / x ^ j)).length ≤ 300 := Nat.le_trans (limbs_length_mono (Nat.div_le_self _ _)) (by omega)
  have lk : (limbs k).length ≤ 1 := limbs_length_le (by rw [Nat.pow_one]; unfold B64; omega)
  have ljj : (limbs j).length ≤ 1 := limbs_length_le (by rw [Nat.pow_one]; unfold B64; omega)
  have lxj : (limbs (x * j)).length ≤ 300 := limbs_length_mul lx ljj
  have hkB : k < B64 := by unfold B64; omega
  have hjB : j < B64 := by unfold B64; omega
  have hD := below_drewN (Below.refl w.heap.size w) 1
  have haD : Num w.drew A n c a := ha.on hD
  have hxD : Num w.drew X m d x := hx.on hD
  clear hj hD
  go_enter Try.func77, Try.ntmps77
  go_wp2_with fail
  go_region_held3 (fun w' => w'.cell? ⟨ba, 0, none⟩ = some (.slice A n c) ∧ w'.cell? ⟨bk, 0, none⟩ = some (.int .i64 (k : Int)))
    (first | go_keep | exact ⟨cK qq hcA hba, cK qq hcK hbk⟩)
    (first
      | (go_at_call 79; (with_reducible refine (tpow_N hxD (by omega) hjk).mono ?_); rintro e v1 ⟨A1, n1, c1, rfl, h3, q1⟩; have qq := undrew3 q1; replace haD := haD.on q1; clear q1)
      | (go_at_call 78; (with_reducible refine (quot_N haD h3 (by omega) lp hp0).mono ?_); rintro e v2 ⟨A2, n2, c2, rfl, h4, q2⟩; replace qq := bK qq q2; clear q2))
  have hxV := hx.on qq
  have f2 := cK qq hcK hbk
  have hbk2 := Nat.lt_of_lt_of_le hbk qq.size
  clear haD hxD h3
  go_wp2_with fail
  refine (of_N _ j hjB).mono ?_
  rintro e v3 ⟨A3, n3, c3, rfl, h5, q3⟩
  replace hxV := hxV.on q3
  replace h4 := h4.on q3
  replace f2 := cK q3 f2 hbk2
  replace hbk2 := lK q3 hbk2
  replace qq := bK qq q3
  clear q3
  go_wp2_with fail
  refine (mul_N hxV h5 (by omega) (by omega)).mono ?_
  rintro e v4 ⟨A4, n4, c4, rfl, h6, q4⟩
  replace h4 := h4.on q4
  replace f2 := cK q4 f2 hbk2
  replace hbk2 := lK q4 hbk2
  replace qq := bK qq q4
  clear q4 h5
  go_wp2_with fail
  refine (add_N h6 h4 (by omega) (by omega)).mono ?_
  rintro e v5 ⟨A5, n5, c5, rfl, h7, q5⟩
  replace f2 := cK q5 f2 hbk2
  replace hbk2 := lK q5 hbk2
  replace qq := bK qq q5
  clear q5 h6 h4
  go_wp2_with fail
  refine (of_N _ k hkB).mono ?_
  rintro e v6 ⟨A6, n6, c6, rfl, h8, q6⟩
  replace h7 := h7.on q6
  replace qq := bK qq q6
  clear q6
  go_wp2_with fail
  refine (quot_N h7 h8 ls (by omega) hk0).mono ?_
  rintro e v7 ⟨A7, n7, c7, rfl, h9, q7⟩
  go_wp2_with fail
  go_ret
  exact ⟨_, _, _, rfl, h9, qq.trans (q7.mono qq.size)⟩

end Go.Proofs.Ytccigpnebejbiaa

/-
  The contracts of root's guesses that go down, and of rootOf.
-/
namespace Go.Proofs.Ytccigpnebejbiaa
set_option maxRecDepth 100000
open Go.RowKit

theorem sum_len {a x k : Nat} (la : (limbs a).length ≤ 100) (lx : (limbs x).length ≤ 110) (hk : k ≤ 16) (p : Nat) : (limbs (x * (k - 1) + a / p)).length ≤ 300 := by
  have h1 : (limbs (k - 1)).length ≤ 1 := limbs_length_le (by rw [Nat.pow_one]; unfold B64; omega)
  have h2 := limbs_length_mul lx h1
  have h3 : (limbs (a / p)).length ≤ 111 := Nat.le_trans (limbs_length_mono (Nat.div_le_self _ _)) (by omega)
  have h4 := limbs_length_add (k := 111) h2 h3
  omega

theorem iroot_ne {k a : Nat} (h1 : 1 ≤ k) (ha : a ≠ 0) : iroot k a ≠ 0 := by
  have := (le_iroot (k := k) (x := a) (r := 1) (by omega)).2 (by rw [Nat.one_pow]; omega)
  omega

set_option maxRecDepth 100000 in
set_option maxHeartbeats 4000000 in
theorem down_N {w : World} {A X : Option Addr} {n c m d a x0 k ba bk : Nat} (hcA : w.cell? ⟨ba, 0, none⟩ = some (.slice A n c)) (hcK : w.cell? ⟨bk, 0, none⟩ = some (.int .i64 (k : Int))) (hba : ba < w.heap.size) (hbk : bk < w.heap.size) (ha : Num w A n c a) (hx : Num w X m d x0) (la : (limbs a).length ≤ 100) (lx : (limbs x0).length ≤ 110) (lp : (limbs (x0 ^ (k - 1))).length ≤ 300) (h1 : 1 ≤ k) (hk : k ≤ 16) (ha0 : a ≠ 0) (hx0 : iroot k a ≤ x0) :
    Calls Try.prog 82 #[.slice X m d, .func (.func 77) #[] #[.pointer (some ⟨ba, 0, none⟩), .pointer (some ⟨bk, 0, none⟩)]] w (GotN w (iroot k a)) := by
  have hr0 := iroot_ne h1 ha0
  have hk0 : k ≠ 0 := by omega
  go_enter Try.func82, Try.ntmps82
  go_wp2_with fail
  go_loopg [0] x0 (fun g v wr => ∃ (X' : Option Addr) (m' d' : Nat), v = .slice X' m' d' ∧ Num wr X' m' d' g ∧ iroot k a ≤ g ∧ g ≤ x0 ∧ Below w.heap.size w wr)
  case atStart => exact ⟨X, m, d, rfl, hx, hx0, Nat.le_refl _, Below.refl _ _⟩
  case round =>
    obtain ⟨X', m', d', rfl, hN, hge, hle, hB⟩ := hrel
    have hg0 : gk ≠ 0 := by omega
    have lg : (limbs gk).length ≤ 110 := Nat.le_trans (limbs_length_mono hle) lx
    have lgp : (limbs (gk ^ (k - 1))).length ≤ 300 := Nat.le_trans (limbs_length_mono (pow_le _ hle)) lp
    have hn1 := newton_ge h1 (iroot_pow a hk0) hg0
    have lnn : (limbs (newton a k gk)).length ≤ 400 := by
      unfold newton
      exact Nat.le_trans (limbs_length_mono (Nat.div_le_self _ _)) (Nat.le_trans (sum_len la lg hk _) (by omega))
    have hcall := Lib.hid (newt_N (cK hB hcA hba) (cK hB hcK hbk) (Nat.lt_of_lt_of_le hba hB.size) (Nat.lt_of_lt_of_le hbk hB.size) (ha.on hB) hN (by omega) (by omega) lgp h1 hk hg0 (sum_len la lg hk _))
    clear lgp
    rcases Nat.lt_or_ge a (gk ^ k) with hlt | hge2
    · have hl2 := newton_lt h1 hg0 hlt
      obtain ⟨y, hy⟩ : ∃ y, newton a k gk = y := ⟨_, rfl⟩
      rw [hy] at hcall hn1 hl2 lnn
      clear hy hlt
      go_wp2_with fail
      refine hcall.out.mono ?_
      rintro e w1 ⟨A1, n1, c1, rfl, h3, b1⟩
      have hN1 := hN.on b1
      go_wp2_with fail
      refine (cmp_N h3 hN1 (by omega) (by omega)).mono ?_
      rintro e w2 ⟨rfl, b2⟩
      rw [cmpN_lt hl2]
      go_wp2_with fail
      go_roundg y
      case rel => exact ⟨_, _, _, rfl, h3.on b2, hn1, by omega, hB.trans ((b1.trans (b2.mono b1.size)).mono hB.size)⟩
      case measure => exact hl2
    · have hl2 := newton_end h1 hg0 hge2
      have he : iroot k a = gk := by have := (le_iroot hk0).2 hge2; omega
      rw [he]
      have hz : cmpN (newton a k gk) gk = 0 ∨ cmpN (newton a k gk) gk = 1 := by
        rcases Nat.lt_or_ge gk (newton a k gk) with h | h
        · exact .inr (cmpN_gt h)
        · exact .inl (cmpN_zero.2 (by omega))
      obtain ⟨y, hy⟩ : ∃ y, newton a k gk = y := ⟨_, rfl⟩
      rw [hy] at hcall hn1 hl2 lnn hz
      obtain ⟨z, hzz⟩ : ∃ z, cmpN y gk = z := ⟨_, rfl⟩
      rw [hzz] at hz
      have HZ := Lib.hid hzz
      have HC := Lib.hid hz
      clear hy hge2 he hz hzz
      go_wp2_with fail
      refine hcall.out.mono ?_
      rintro e w1 ⟨A1, n1, c1, rfl, h3, b1⟩
      have hN1 := hN.on b1
      go_wp2_with fail
      refine (cmp_N h3 hN1 (by omega) (by omega)).mono ?_
      rintro e w2 ⟨rfl, b2⟩
      rw [HZ.out]
      rcases HC.out with rfl | rfl
      all_goals
        go_wp2_with fail
        go_ret
        exact ⟨_, _, _, rfl, hN1.on b2, hB.trans ((b1.trans (b2.mono b1.size)).mono hB.size)⟩

end Go.Proofs.Ytccigpnebejbiaa

/-
  The contract of rootOf.
-/
namespace Go.Proofs.Ytccigpnebejbiaa
set_option maxRecDepth 100000
open Go.RowKit

theorem iroot_zero {k : Nat} (hk : k ≠ 0) : iroot k 0 = 0 := iroot_eq hk (by rw [Nat.zero_pow (by omega)]; omega) (by rw [Nat.zero_add, Nat.one_pow]; omega)

set_option maxRecDepth 100000 in
set_option maxHeartbeats 4000000 in
theorem rootof_N {w : World} {A : Option Addr} {n c x k : Nat} (ha : Num w A n c x) (hx : (limbs x).length ≤ 100) (h1 : 1 ≤ k) (hk : k ≤ 16) : Calls Try.prog 55 #[.slice A n c, .int .i64 (k : Int)] w (GotN w (iroot k x)) := by
  have hk0 : k ≠ 0 := by omega
  obtain ⟨W, hW⟩ : ∃ W, (w.alloc (.cells #[.slice A n c] 31)).alloc (.cells #[.int .i64 (k : Int)] 3) = W := ⟨_, rfl⟩
  obtain ⟨t, ht⟩ : ∃ t, w.heap.size = t := ⟨_, rfl⟩
  have hBW : Below t w W := by
    rw [← hW, ← ht]
    exact ((Below.refl _ w).alloc (Nat.le_refl _) _).alloc (by simp) _
  have hS : W.heap.size = t + 2 := by rw [← hW, ← ht]; simp
  have c1 : W.cell? ⟨t, 0, none⟩ = some (.slice A n c) := by rw [← hW, ← ht]; simp [go_sem]
  have c2 : W.cell? ⟨t + 1, 0, none⟩ = some (.int .i64 (k : Int)) := by rw [← hW, ← ht]; simp [go_sem]
  have f1 : W.frozen? ⟨t, 0, none⟩ = false := by rw [← hW, ← ht]; simp [go_sem]
  have haW := ha.on (by rw [ht]; exact hBW)
  have hshr0 : Calls Try.prog 76 #[.slice A n c, .int .i64 0] W (GotP W (x / 2 ^ 0) 0) := dshr_N (k := 0) haW (by omega) (by omega)
  have hshr := Lib.hid hshr0
  have HT := Lib.hid ht
  have HS := Lib.hid hS
  unfold GotN
  go_enter Try.func55, Try.ntmps55
  clear hS hshr0
  go_wp2_with fail
  clear hW ht
  refine hshr.out.mono ?_
  rintro e w1 ⟨A1, n1, m1, rfl, h3, b1⟩
  rw [Nat.pow_zero, Nat.div_one] at h3
  have d1 := (b1.cell (p := ⟨t, 0, none⟩) (by show t < _; rw [HS.out]; omega)).trans c1
  have d2 := (b1.cell (p := ⟨t + 1, 0, none⟩) (by show t + 1 < _; rw [HS.out]; omega)).trans c2
  have g1 := (b1.frozen (p := ⟨t, 0, none⟩) (by show t < _; rw [HS.out]; omega)).trans f1
  have hs1 : t + 2 ≤ w1.heap.size := by have := b1.size; rw [HS.out] at this; exact this
  have hB1 : Below t w w1 := hBW.trans (b1.mono (by rw [HS.out]; omega))
  clear c1 c2 f1 hBW b1 hshr haW
  have hl3 := h3.len
  by_cases hx0 : x = 0
  · subst hx0
    rw [limbs_zero] at hl3
    simp at hl3
    subst hl3
    go_wp2_with fail
    go_ret
    exact ⟨none, 0, 0, rfl, by rw [iroot_zero hk0]; exact num_none _ _ _, by rw [HT.out]; exact hB1.setCell (Nat.le_refl _) _⟩
  · have hn0 : ((n1 : Int) == 0) = false := by have := limbs_ne_nil hx0; simp; omega
    obtain ⟨w2, hw2⟩ : ∃ w2, w1.setCell ⟨t, 0, none⟩ (.slice A1 n1 m1) = w2 := ⟨_, rfl⟩
    have h3' : Num w2 A1 n1 m1 x := by rw [← hw2]; exact h3.set_other d1 (fun _ _ e => by cases e)
    have e1 : w2.cell? ⟨t, 0, none⟩ = some (.slice A1 n1 m1) := by rw [← hw2]; exact World.cell?_setCell_same _ _ _ d1
    have e2 : w2.cell? ⟨t + 1, 0, none⟩ = some (.int .i64 (k : Int)) := by rw [← hw2, World.cell?_setCell_other (h := fun e => by injection e with e3; omega)]; exact d2
    have hs2 : t + 2 ≤ w2.heap.size := by rw [← hw2]; simp; exact hs1
    have hB2 : Below t w w2 := by rw [← hw2]; exact hB1.setCell (Nat.le_refl _) _
    obtain ⟨q, hq⟩ : ∃ q, (blen x + k - 1) / k = q := ⟨_, rfl⟩
    have hbl := blen_len hx
    have hqk : q * k ≤ 6400 + 15 := by rw [← hq]; exact above_bits h1 hk (by omega)
    have hq1 : q ≤ 6415 := Nat.le_trans (Nat.le_mul_of_pos_right q (by omega)) hqk
    have hqp : q * (k - 1) ≤ 6415 := Nat.le_trans (Nat.mul_le_mul_left q (by omega)) hqk
    have lq : (limbs (2 ^ q)).length ≤ 110 := Nat.le_trans (limbs_two_pow (m := 110) (by omega)) (Nat.le_refl _)
    have lp : (limbs ((2 ^ q) ^ (k - 1))).length ≤ 300 := by rw [← Nat.pow_mul]; exact limbs_two_pow (m := 300) (by omega)
    have hge : iroot k x ≤ 2 ^ q := by
      rcases Nat.lt_or_ge (2 ^ q) (iroot k x) with h | h
      · have h5 := above_root (a := x) h1 (lt_blen x)
        rw [hq] at h5
        have h6 := pow_lt hk0 h
        have h7 := iroot_pow x hk0
        omega
      · exact h
    have hab : Calls Try.prog 83 #[.slice A1 n1 m1, .int .i64 (k : Int)] w2 (GotN w2 (2 ^ q)) := by rw [← hq]; exact above_N h3' (by omega) h1 hk
    have HAB := Lib.hid hab
    have HQ := Lib.hid hq
    clear hl3 hq h3 d2 hbl hqk hqp hab
    go_wp2_with fail
    clear d1
    refine HAB.out.mono ?_
    rintro e w3 ⟨A3, n3, c3, rfl, h4, b3⟩
    have hd := down_N ((b3.cell (p := ⟨t, 0, none⟩) (by show t < _; omega)).trans e1) ((b3.cell (p := ⟨t + 1, 0, none⟩) (by show t + 1 < _; omega)).trans e2) (Nat.lt_of_lt_of_le (show t < _ by omega) b3.size) (Nat.lt_of_lt_of_le (show t + 1 < _ by omega) b3.size) (h3'.on b3) h4 hx lq lp h1 hk hx0 hge
    have HD := Lib.hid hd
    have hB3 := hB2.trans (b3.mono (by omega))
    clear hd e1 e2 hw2
    go_wp2_with fail
    refine HD.out.mono ?_
    rintro e w4 ⟨A4, n4, c4, rfl, h5, b4⟩
    go_wp2_with fail
    go_ret
    exact ⟨_, _, _, rfl, h5, by rw [HT.out]; exact hB3.trans (b4.mono (by have := b3.size; omega))⟩

end Go.Proofs.Ytccigpnebejbiaa

/-
  The contracts of package root in one style, over numbers.
-/
namespace Go.Proofs.Ytccigpnebejbiaa
set_option maxRecDepth 100000
open Go.RowKit

set_option maxHeartbeats 1000000 in
theorem root_N {w : World} {A : Option Addr} {n c x k : Nat} (ha : Num w A n c x) (hx : (limbs x).length ≤ 100) (h1 : 1 ≤ k) (hk : k ≤ 16) : Calls Try.prog 32 #[.slice A n c, .int .i64 (k : Int)] w (GotP w (iroot k x) 0) := by
  go_enter Try.func32, Try.ntmps32
  go_wp2_with fail
  refine (isExp_yes _ k h1 hk).mono ?_
  rintro e w' ⟨rfl, rfl⟩
  go_wp2_with fail
  refine (rootof_N ha hx h1 hk).mono ?_
  rintro e w1 ⟨A1, n1, c1, rfl, hr, b1⟩
  go_wp2_with fail
  go_ret2
  exact ⟨_, _, _, rfl, hr, b1⟩
set_option maxHeartbeats 1000000 in
theorem root_no (w : World) (A : Option Addr) (n c : Nat) (k : Int) (hk : k < 1 ∨ 16 < k) : Calls Try.prog 32 #[.slice A n c, .int .i64 k] w (GotV w (.tuple #[.slice none 0 0, .int .i64 1])) := by
  have HK := Lib.hid hk
  clear hk
  go_enter Try.func32, Try.ntmps32
  go_wp2_with fail
  refine (isExp_no _ k HK.out).mono ?_
  rintro e w' ⟨rfl, rfl⟩
  go_wp2_with fail
  go_ret2
  exact ⟨rfl, Below.refl _ _⟩

theorem uroot_lt {k x : Nat} (h : iroot k x ^ k ≠ x) : uroot k x = iroot k x + 1 := by unfold uroot; rw [if_neg h]
theorem uroot_eq {k x : Nat} (h : iroot k x ^ k = x) : uroot k x = iroot k x := by unfold uroot; rw [if_pos h]

end Go.Proofs.Ytccigpnebejbiaa

/-
  The contracts of dyad: rounded.
-/
namespace Go.Proofs.Ytccigpnebejbiaa
open Go.RowKit
set_option linter.unusedVariables false
set_option linter.unusedSimpArgs false


















end Go.Proofs.Ytccigpnebejbiaa

/-
  The contracts of dyad: Floor, Ceil, Near, Back.
-/
namespace Go.Proofs.Ytccigpnebejbiaa
open Go.RowKit
set_option linter.unusedVariables false
set_option linter.unusedSimpArgs false









end Go.Proofs.Ytccigpnebejbiaa

/-
  The contracts of the landed fix: Sqrt, Of, Rat.
-/
namespace Go.Proofs.Ytccigpnebejbiaa
set_option maxRecDepth 100000
open Go.RowKit
set_option linter.unusedVariables false
set_option linter.unusedSimpArgs false

set_option maxRecDepth 100000 in
set_option maxHeartbeats 8000000 in
theorem fsqrt_N {w : World} {a j : Int} (ha : I64 a) (a0 : 0 ≤ a) (j0 : 0 ≤ j) (j1 : j ≤ 40) :
    Calls Try.prog 10 #[.int .i64 a, .int .i64 j] w (GotV w (.tuple #[.int .i64 ((iroot 2 (a.natAbs * 2 ^ j.toNat) : Nat)), .int .i64 (0)])) := by
  have t1_ : decide (a < 0) = false := decide_eq_false (by omega)
  have sv := len_one ha.abs
  have hf := root8_fits ha (show j.toNat ≤ 40 by omega)
  have je := to_nat j0
  obtain ⟨k, hk⟩ : ∃ k, j.toNat = k := ⟨_, rfl⟩
  rw [hk] at je hf ⊢
  have lp : (limbs (2 ^ k)).length ≤ 1 := len_one (Nat.lt_of_le_of_lt (Nat.pow_le_pow_right (by omega) (show k ≤ 40 by omega)) (by decide))
  have lu : (limbs (a.natAbs * 2 ^ k)).length ≤ 20 := Nat.le_trans (limbs_length_mul sv lp) (by omega)
  have sa := i64_size ha
  obtain ⟨x, ex⟩ : ∃ x, a.natAbs = x := ⟨_, rfl⟩
  have CZ : ∀ (W : World), Calls Try.prog 26 #[.int .i64 a] W (GotV W (.int .u64 (x : Int))) := fun W => by rw [← ex]; exact size_N W ha
  rw [ex] at sv lu hf sa ⊢
  have xb : x < B64 := by unfold B64; omega
  have CL : ∀ {W : World} {A : Option Addr} {m c : Nat}, Num W A m c x → Calls Try.prog 30 #[.slice A m c, .int .i64 j] W (GotP W (x * 2 ^ k) 0) := fun h => by rw [← je]; exact dshl_N h (by omega) (by omega)
  obtain ⟨u, hU⟩ : ∃ u, x * 2 ^ k = u := ⟨_, rfl⟩
  rw [hU] at lu CL hf ⊢
  obtain ⟨r, hR⟩ : ∃ r, iroot 2 u = r := ⟨_, rfl⟩
  have lr : (limbs r).length ≤ 20 := by rw [← hR]; exact Nat.le_trans (limbs_length_mono (iroot_le u (by omega))) lu
  rw [hR] at hf ⊢
  have CR : ∀ {W : World} {A : Option Addr} {m c : Nat}, Num W A m c u → Calls Try.prog 32 #[.slice A m c, .int .i64 2] W (GotP W r 0) := fun h => by rw [← hR]; exact root_N (k := 2) h (by omega) (by omega) (by omega)
  have j1_ := j1
  clear hk hU hR lp ex
  have cc := Below.refl w.heap.size w
  go_enter Try.func10, Try.ntmps10
  go_wp2_with fail
  refine (isf_2 _ j0 j1).mono ?_
  rintro e w1 ⟨rfl, b⟩
  replace cc := bK cc b
  clear b
  go_wp2_with fail
  refine (CZ _).mono ?_
  rintro e w2 ⟨rfl, b⟩
  replace cc := bK cc b
  clear b
  go_wp2_with fail
  refine (of_N _ x xb).mono ?_
  rintro e w3 ⟨An, nn, cn, rfl, n, b⟩
  replace cc := bK cc b
  clear b
  go_wp2_with fail
  refine (CL n).mono ?_
  rintro e w4 ⟨Av, nv, cv, rfl, v, b⟩
  replace n := n.on b
  replace cc := bK cc b
  clear b
  go_wp2_with fail
  refine (CR v).mono ?_
  rintro e w5 ⟨Aq, nq, cq, rfl, q, b⟩
  replace n := n.on b
  replace v := v.on b
  replace cc := bK cc b
  clear b
  have zu := zn_nat q
  go_wp2_with fail
  refine (mant_yes zu (by rw [Int.natAbs_natCast]; exact Nat.le_trans lr (by omega)) hf).mono ?_
  rintro e w6 ⟨rfl, b⟩
  replace n := n.on b
  replace v := v.on b
  replace q := q.on b
  replace zu := zu.on b
  replace cc := bK cc b
  clear b
  go_wp2_with fail
  go_ret2
  exact ⟨rfl, cc⟩

set_option maxRecDepth 100000 in
set_option maxHeartbeats 8000000 in
theorem fsqrt_no {w : World} {a j : Int} (ha : I64 a) (h : j < 0 ∨ 40 < j) :
    Calls Try.prog 10 #[.int .i64 a, .int .i64 j] w (GotV w (.tuple #[.int .i64 (0), .int .i64 (1)])) := by
  have cc := Below.refl w.heap.size w
  go_enter Try.func10, Try.ntmps10
  go_wp2_with fail
  refine (isf_no _ h).mono ?_
  rintro e w1 ⟨rfl, b⟩
  replace cc := bK cc b
  clear b
  go_wp2_with fail
  go_ret2
  exact ⟨rfl, cc⟩

set_option maxRecDepth 100000 in
set_option maxHeartbeats 8000000 in
theorem fsqrt_neg {w : World} {a j : Int} (ha : I64 a) (a0 : a < 0) (j0 : 0 ≤ j) (j1 : j ≤ 40) :
    Calls Try.prog 10 #[.int .i64 a, .int .i64 j] w (GotV w (.tuple #[.int .i64 (0), .int .i64 (1)])) := by
  have t1_ : decide (a < 0) = true := decide_eq_true a0
  have cc := Below.refl w.heap.size w
  go_enter Try.func10, Try.ntmps10
  go_wp2_with fail
  refine (isf_2 _ j0 j1).mono ?_
  rintro e w1 ⟨rfl, b⟩
  replace cc := bK cc b
  clear b
  go_wp2_with fail
  go_ret2
  exact ⟨rfl, cc⟩





end Go.Proofs.Ytccigpnebejbiaa

/-
  What the laws of fix lean on: alive.
-/
namespace Go.Proofs.Ytccigpnebejbiaa
set_option maxRecDepth 100000
open Go.RowKit
set_option linter.unusedVariables false
set_option linter.unusedSimpArgs false

theorem a8_m : rn 9 2 = 4 := by rw [show (9 : Int) = ((9 : Nat) : Int) from rfl, rn_nat 9 2 (by omega)]; decide
theorem a8_d : rn 16 3 = 5 := by rw [show (16 : Int) = ((16 : Nat) : Int) from rfl, rn_nat 16 3 (by omega)]; decide
theorem a8_s : rn (-7) 2 = -4 := by rw [rn_neg 7 (by omega), show (7 : Int) = ((7 : Nat) : Int) from rfl, rn_nat 7 2 (by omega)]; decide
theorem a8_r : iroot 2 512 = 22 := iroot_eq (by omega) (by decide) (by decide)
theorem i64_lit {z : Int} (h : decide (-9223372036854775808 ≤ z) && decide (z ≤ 9223372036854775807) = true) : I64 z := by simp at h; unfold I64; exact h

set_option maxRecDepth 100000 in
set_option maxHeartbeats 8000000 in
theorem alive8_any (w : World) :
    Calls Try.prog 12 #[] w (GotV w (.bool true)) := by
  have CM : ∀ W : World, Calls Try.prog 13 #[.int .i64 3, .int .i64 3, .int .i64 1] W (GotV W (.tuple #[.int .i64 (4), .int .i64 (0)])) := fun W => by have h := fmul_N (w := W) (a := 3) (b := 3) (j := 1) (by unfold I64; omega) (by unfold I64; omega) (by omega) (by omega); rw [show (3 : Int) * 3 = 9 from rfl, show 2 ^ (1 : Int).toNat = 2 from rfl, a8_m] at h; exact h
  have CD : ∀ W : World, Calls Try.prog 14 #[.int .i64 1, .int .i64 3, .int .i64 4] W (GotV W (.tuple #[.int .i64 (5), .int .i64 (0)])) := fun W => by have h := fdiv_N (w := W) (a := 1) (b := 3) (j := 4) (by unfold I64; omega) (by unfold I64; omega) (by omega) (by omega) (by omega); rw [show (3 : Int).sign * (1 * ((2 ^ (4 : Int).toNat : Nat) : Int)) = 16 from rfl, show (3 : Int).natAbs = 3 from rfl, a8_d] at h; exact h
  have CQ : ∀ W : World, Calls Try.prog 10 #[.int .i64 32, .int .i64 4] W (GotV W (.tuple #[.int .i64 (22), .int .i64 (0)])) := fun W => by have h := fsqrt_N (w := W) (a := 32) (j := 4) (by unfold I64; omega) (by omega) (by omega) (by omega); rw [show (32 : Int).natAbs * 2 ^ (4 : Int).toNat = 512 from rfl, a8_r] at h; exact h
  have CA : ∀ W : World, Calls Try.prog 22 #[.int .i64 9223372036854775807, .int .i64 1] W (GotV W (.tuple #[.int .i64 (0), .int .i64 (2)])) := fun W => fadd_N (w := W) (a := 9223372036854775807) (b := 1) (by unfold I64; omega) (by unfold I64; omega)
  have CS : ∀ W : World, Calls Try.prog 8 #[.int .i64 (-7), .int .i64 1, .int .i64 2] W (GotV W (.tuple #[.int .i64 (-4), .int .i64 (0)])) := fun W => by have h := fscale_N (w := W) (a := -7) (b := 1) (d := 2) (by unfold I64; omega) (by unfold I64; omega) (by unfold I64; omega) (by omega); rw [show (-7 : Int) * 1 = -7 from rfl, show (2 : Int).natAbs = 2 from rfl, a8_s] at h; exact h
  have cc := Below.refl w.heap.size w
  go_enter Try.func12, Try.ntmps12
  go_wp2_with fail
  refine (CM _).mono ?_
  rintro e w1 ⟨rfl, b⟩
  replace cc := bK cc b
  clear b
  go_wp2_with fail
  refine (CD _).mono ?_
  rintro e w2 ⟨rfl, b⟩
  replace cc := bK cc b
  clear b
  go_wp2_with fail
  refine (CQ _).mono ?_
  rintro e w3 ⟨rfl, b⟩
  replace cc := bK cc b
  clear b
  go_wp2_with fail
  refine (CA _).mono ?_
  rintro e w4 ⟨rfl, b⟩
  replace cc := bK cc b
  clear b
  go_wp2_with fail
  refine (CS _).mono ?_
  rintro e w5 ⟨rfl, b⟩
  replace cc := bK cc b
  clear b
  go_wp2_with fail
  go_ret
  exact ⟨rfl, cc⟩

end Go.Proofs.Ytccigpnebejbiaa
