/-
  The walk of RootBetween.
-/
import Derived.Test.YthdlbngdmbkgcaaA5
namespace Go.Proofs.Ythdlbngdmbkgcaa
open Go.RowKit
set_option linter.unusedVariables false

set_option maxRecDepth 100000 in
set_option maxHeartbeats 8000000 in
theorem RootBetween_no0 {a0 : Option Addr} {len0 cap0 : Nat} {w : World} (kk : Int) (G0 : Hid (Calls Try.prog 9 #[.slice a0 len0 cap0, .int .i64 12] w fun e w' => e = .returned (.bool false) ∧ w = w')) :
    Calls Try.prog 4 #[.slice a0 len0 cap0, .int .i64 kk] w fun e w' => e = .returned (.bool true) ∧ Below w.heap.size w w' := by
  go_enter Try.func4, Try.ntmps4
  go_wp2_with fail
  refine G0.out.mono ?_
  rintro e w' ⟨rfl, rfl⟩
  have cc := Below.refl w.heap.size w
  go_wp2_with fail
  refine (alive_any _).mono ?_
  rintro e w1 ⟨rfl, b⟩
  replace cc := cc.trans (b.mono cc.size)
  clear b
  go_wp2_with fail
  go_ret
  exact ⟨rfl, cc⟩

set_option maxRecDepth 100000 in
set_option maxHeartbeats 8000000 in
theorem RootBetween_q1 {a0 : Option Addr} {len0 cap0 : Nat} {w : World} (kk : Int) (hn : kk < 1) (G0 : Hid (Calls Try.prog 9 #[.slice a0 len0 cap0, .int .i64 12] w fun e w' => e = .returned (.bool true) ∧ w = w')) :
    Calls Try.prog 4 #[.slice a0 len0 cap0, .int .i64 kk] w fun e w' => e = .returned (.bool true) ∧ Below w.heap.size w w' := by
  go_enter Try.func4, Try.ntmps4
  go_wp2_with fail
  refine G0.out.mono ?_
  rintro e w' ⟨rfl, rfl⟩
  have cc := Below.refl w.heap.size w
  go_wp2_with fail
  refine (alive_any _).mono ?_
  rintro e w1 ⟨rfl, b⟩
  replace cc := cc.trans (b.mono cc.size)
  clear b
  go_wp2_with fail
  go_ret
  exact ⟨rfl, cc⟩

set_option maxRecDepth 100000 in
set_option maxHeartbeats 8000000 in
theorem RootBetween_q2 {a0 : Option Addr} {len0 cap0 : Nat} {w : World} (kk : Int) (a1 : ¬ kk < 1) (hn : 16 < kk) (G0 : Hid (Calls Try.prog 9 #[.slice a0 len0 cap0, .int .i64 12] w fun e w' => e = .returned (.bool true) ∧ w = w')) :
    Calls Try.prog 4 #[.slice a0 len0 cap0, .int .i64 kk] w fun e w' => e = .returned (.bool true) ∧ Below w.heap.size w w' := by
  go_enter Try.func4, Try.ntmps4
  go_wp2_with fail
  refine G0.out.mono ?_
  rintro e w' ⟨rfl, rfl⟩
  have cc := Below.refl w.heap.size w
  go_wp2_with fail
  refine (alive_any _).mono ?_
  rintro e w1 ⟨rfl, b⟩
  replace cc := cc.trans (b.mono cc.size)
  clear b
  go_wp2_with fail
  go_ret
  exact ⟨rfl, cc⟩

set_option maxRecDepth 100000 in
set_option maxHeartbeats 8000000 in
theorem RootBetween_eq {a0 : Option Addr} {len0 cap0 x : Nat} {w : World} (h0 : Num w a0 len0 cap0 x) (lx : (limbs x).length ≤ 12) (k : Nat) (k1 : 1 ≤ k) (k2 : k ≤ 16) (hE : Hid (iroot k x ^ k = x)) (hU : Hid (uroot k x = iroot k x)) (G0 : Hid (Calls Try.prog 9 #[.slice a0 len0 cap0, .int .i64 12] w fun e w' => e = .returned (.bool true) ∧ w = w')) :
    Calls Try.prog 4 #[.slice a0 len0 cap0, .int .i64 (k : Int)] w fun e w' => e = .returned (.bool true) ∧ Below w.heap.size w w' := by
  have q1 := len_iroot k1 lx
  have q2 := len_uroot k1 lx
  have q5 := len_one B64_gt
  have q6 := limbs_length_add q1 (Nat.le_trans q5 (by omega))
  have q3 := Lib.hid (fun j => limbs_length_pow q1 j)
  have q4 := Lib.hid (fun j => limbs_length_pow q6 j)
  have q7 := limbs_length_pow q1 k
  have q8 := limbs_length_pow q6 k
  have t1 : ¬ 0 < cmpN (iroot k x ^ k) x := by have := cmpN_le (iroot_pow x (k := k) (by omega)); omega
  have t2 : ¬ cmpN ((iroot k x + 1) ^ k) x ≤ 0 := by rw [cmpN_gt (lt_iroot x (by omega))]; omega
  go_enter Try.func4, Try.ntmps4
  go_wp2_with fail
  refine G0.out.mono ?_
  rintro e w' ⟨rfl, rfl⟩
  have cc := Below.refl w.heap.size w
  go_wp2_with fail
  refine (root_N h0 (by omega) k1 k2).mono ?_
  rintro e w1 ⟨A1, n1, c1, rfl, r, b⟩
  replace h0 := h0.on b
  replace cc := cc.trans (b.mono cc.size)
  clear b
  have lr := Lib.hid r.len
  have tl : ¬ (12 : Int) < (n1 : Int) := by have := lr.out; omega
  go_wp2_with fail
  refine (up_N h0 (by omega) k1 k2).mono ?_
  rintro e w2 ⟨A2, n2, c2, rfl, u, b⟩
  replace h0 := h0.on b
  replace r := r.on b
  replace cc := cc.trans (b.mono cc.size)
  clear b
  go_wp2_with fail
  refine (rright_N r (by omega)).mono ?_
  rintro e w3 ⟨rfl, b⟩
  replace h0 := h0.on b
  replace r := r.on b
  replace u := u.on b
  replace cc := cc.trans (b.mono cc.size)
  clear b
  go_wp2_with fail
  refine (rright_N u (by omega)).mono ?_
  rintro e w4 ⟨rfl, b⟩
  replace h0 := h0.on b
  replace r := r.on b
  replace u := u.on b
  replace cc := cc.trans (b.mono cc.size)
  clear b
  go_wp2_with fail
  refine (rof_N _ 1 B64_gt).mono ?_
  rintro e w5 ⟨A5, n5, c5, rfl, o1, b⟩
  replace h0 := h0.on b
  replace r := r.on b
  replace u := u.on b
  replace cc := cc.trans (b.mono cc.size)
  clear b
  go_wp2_with fail
  refine (radd_N r o1 (by omega) (by omega)).mono ?_
  rintro e w6 ⟨A6, n6, c6, rfl, one, b⟩
  replace h0 := h0.on b
  replace r := r.on b
  replace u := u.on b
  replace o1 := o1.on b
  replace cc := cc.trans (b.mono cc.size)
  clear b
  clear o1
  go_wp2_with fail
  refine (rof_N _ 1 B64_gt).mono ?_
  rintro e w7 ⟨A7, n7, c7, rfl, lo, b⟩
  replace h0 := h0.on b
  replace r := r.on b
  replace u := u.on b
  replace one := one.on b
  replace cc := cc.trans (b.mono cc.size)
  clear b
  go_wp2_with fail
  refine (rof_N _ 1 B64_gt).mono ?_
  rintro e w8 ⟨A8, n8, c8, rfl, hi, b⟩
  replace h0 := h0.on b
  replace r := r.on b
  replace u := u.on b
  replace one := one.on b
  replace lo := lo.on b
  replace cc := cc.trans (b.mono cc.size)
  clear b
  go_wp2_with fail
  go_loopw [10, 11, 12] (fun lv hv iv wr => ∃ (j : Nat) (A' B' : Option Addr) (n' c' m' d' : Nat), j ≤ k ∧ iv = .int .i64 (j : Int) ∧ lv = .slice A' n' c' ∧ hv = .slice B' m' d' ∧ Num wr A' n' c' (iroot k x ^ j) ∧ Num wr B' m' d' ((iroot k x + 1) ^ j) ∧ Below w8.heap.size w8 wr) (fun _ _ iv _ => k - (intOf iv).toNat)
  case atStart => exact ⟨0, _, _, _, _, _, _, Nat.zero_le _, rfl, rfl, rfl, lo, hi, Below.refl _ _⟩
  case round =>
    obtain ⟨j, A', B', n', c', m', d', hj, rfl, rfl, rfl, hL, hH, bb⟩ := hrel
    by_cases hlt : j < k
    · have e1 := q3.out j
      have e2 := q4.out j
      go_wp2_with fail
      refine (rmul_N hL (r.on bb) (by omega) (by omega)).mono ?_
      rintro e v1 ⟨A21, n21, c21, rfl, g1, b⟩
      rw [← Nat.pow_succ] at g1
      replace hH := hH.on b
      replace bb := bb.trans (b.mono bb.size)
      clear b
      go_wp2_with fail
      refine (rmul_N hH (one.on bb) (by omega) (by omega)).mono ?_
      rintro e v2 ⟨A22, n22, c22, rfl, g2, b⟩
      rw [← Nat.pow_succ] at g2
      replace g1 := g1.on b
      replace bb := bb.trans (b.mono bb.size)
      clear b
      go_wp2_with fail
      go_roundw
      case rel => exact ⟨j + 1, _, _, _, _, _, _, by omega, by go_num, rfl, rfl, g1, g2, bb⟩
      case measure => simp [intOf]; omega
    · obtain rfl : j = k := by omega
      replace h0 := h0.on bb
      replace r := r.on bb
      replace u := u.on bb
      replace one := one.on bb
      replace cc := cc.trans (bb.mono cc.size)
      clear bb lo hi
      go_wp2_with fail
      refine (rcmp_N hL h0 (by omega) (by omega)).mono ?_
      rintro e w9 ⟨rfl, b⟩
      replace h0 := h0.on b
      replace r := r.on b
      replace u := u.on b
      replace one := one.on b
      replace hL := hL.on b
      replace hH := hH.on b
      replace cc := cc.trans (b.mono cc.size)
      clear b
      go_wp2_with fail
      refine (rcmp_N hH h0 (by omega) (by omega)).mono ?_
      rintro e w10 ⟨rfl, b⟩
      replace h0 := h0.on b
      replace r := r.on b
      replace u := u.on b
      replace one := one.on b
      replace hL := hL.on b
      replace hH := hH.on b
      replace cc := cc.trans (b.mono cc.size)
      clear b
      go_wp2_with fail
      refine (same_N hL h0 (by omega) (by omega) hE.out).mono ?_
      rintro e w11 ⟨rfl, b⟩
      replace h0 := h0.on b
      replace r := r.on b
      replace u := u.on b
      replace one := one.on b
      replace hL := hL.on b
      replace hH := hH.on b
      replace cc := cc.trans (b.mono cc.size)
      clear b
      go_wp2_with fail
      refine (alive_any _).mono ?_
      rintro e w12 ⟨rfl, b⟩
      replace h0 := h0.on b
      replace r := r.on b
      replace u := u.on b
      replace one := one.on b
      replace hL := hL.on b
      replace hH := hH.on b
      replace cc := cc.trans (b.mono cc.size)
      clear b
      go_wp2_with fail
      refine (same_N u r (by omega) (by omega) hU.out).mono ?_
      rintro e w13 ⟨rfl, b⟩
      replace h0 := h0.on b
      replace r := r.on b
      replace u := u.on b
      replace one := one.on b
      replace hL := hL.on b
      replace hH := hH.on b
      replace cc := cc.trans (b.mono cc.size)
      clear b
      go_wp2_with fail
      go_ret
      exact ⟨rfl, cc⟩

set_option maxRecDepth 100000 in
set_option maxHeartbeats 8000000 in
theorem RootBetween_ne {a0 : Option Addr} {len0 cap0 x : Nat} {w : World} (h0 : Num w a0 len0 cap0 x) (lx : (limbs x).length ≤ 12) (k : Nat) (k1 : 1 ≤ k) (k2 : k ≤ 16) (hE : Hid (iroot k x ^ k ≠ x)) (hU : Hid (uroot k x = iroot k x + 1)) (G0 : Hid (Calls Try.prog 9 #[.slice a0 len0 cap0, .int .i64 12] w fun e w' => e = .returned (.bool true) ∧ w = w')) :
    Calls Try.prog 4 #[.slice a0 len0 cap0, .int .i64 (k : Int)] w fun e w' => e = .returned (.bool true) ∧ Below w.heap.size w w' := by
  have q1 := len_iroot k1 lx
  have q2 := len_uroot k1 lx
  have q5 := len_one B64_gt
  have q6 := limbs_length_add q1 (Nat.le_trans q5 (by omega))
  have q3 := Lib.hid (fun j => limbs_length_pow q1 j)
  have q4 := Lib.hid (fun j => limbs_length_pow q6 j)
  have q7 := limbs_length_pow q1 k
  have q8 := limbs_length_pow q6 k
  have t1 : ¬ 0 < cmpN (iroot k x ^ k) x := by have := cmpN_le (iroot_pow x (k := k) (by omega)); omega
  have t2 : ¬ cmpN ((iroot k x + 1) ^ k) x ≤ 0 := by rw [cmpN_gt (lt_iroot x (by omega))]; omega
  go_enter Try.func4, Try.ntmps4
  go_wp2_with fail
  refine G0.out.mono ?_
  rintro e w' ⟨rfl, rfl⟩
  have cc := Below.refl w.heap.size w
  go_wp2_with fail
  refine (root_N h0 (by omega) k1 k2).mono ?_
  rintro e w1 ⟨A1, n1, c1, rfl, r, b⟩
  replace h0 := h0.on b
  replace cc := cc.trans (b.mono cc.size)
  clear b
  have lr := Lib.hid r.len
  have tl : ¬ (12 : Int) < (n1 : Int) := by have := lr.out; omega
  go_wp2_with fail
  refine (up_N h0 (by omega) k1 k2).mono ?_
  rintro e w2 ⟨A2, n2, c2, rfl, u, b⟩
  replace h0 := h0.on b
  replace r := r.on b
  replace cc := cc.trans (b.mono cc.size)
  clear b
  go_wp2_with fail
  refine (rright_N r (by omega)).mono ?_
  rintro e w3 ⟨rfl, b⟩
  replace h0 := h0.on b
  replace r := r.on b
  replace u := u.on b
  replace cc := cc.trans (b.mono cc.size)
  clear b
  go_wp2_with fail
  refine (rright_N u (by omega)).mono ?_
  rintro e w4 ⟨rfl, b⟩
  replace h0 := h0.on b
  replace r := r.on b
  replace u := u.on b
  replace cc := cc.trans (b.mono cc.size)
  clear b
  go_wp2_with fail
  refine (rof_N _ 1 B64_gt).mono ?_
  rintro e w5 ⟨A5, n5, c5, rfl, o1, b⟩
  replace h0 := h0.on b
  replace r := r.on b
  replace u := u.on b
  replace cc := cc.trans (b.mono cc.size)
  clear b
  go_wp2_with fail
  refine (radd_N r o1 (by omega) (by omega)).mono ?_
  rintro e w6 ⟨A6, n6, c6, rfl, one, b⟩
  replace h0 := h0.on b
  replace r := r.on b
  replace u := u.on b
  replace o1 := o1.on b
  replace cc := cc.trans (b.mono cc.size)
  clear b
  clear o1
  go_wp2_with fail
  refine (rof_N _ 1 B64_gt).mono ?_
  rintro e w7 ⟨A7, n7, c7, rfl, lo, b⟩
  replace h0 := h0.on b
  replace r := r.on b
  replace u := u.on b
  replace one := one.on b
  replace cc := cc.trans (b.mono cc.size)
  clear b
  go_wp2_with fail
  refine (rof_N _ 1 B64_gt).mono ?_
  rintro e w8 ⟨A8, n8, c8, rfl, hi, b⟩
  replace h0 := h0.on b
  replace r := r.on b
  replace u := u.on b
  replace one := one.on b
  replace lo := lo.on b
  replace cc := cc.trans (b.mono cc.size)
  clear b
  go_wp2_with fail
  go_loopw [10, 11, 12] (fun lv hv iv wr => ∃ (j : Nat) (A' B' : Option Addr) (n' c' m' d' : Nat), j ≤ k ∧ iv = .int .i64 (j : Int) ∧ lv = .slice A' n' c' ∧ hv = .slice B' m' d' ∧ Num wr A' n' c' (iroot k x ^ j) ∧ Num wr B' m' d' ((iroot k x + 1) ^ j) ∧ Below w8.heap.size w8 wr) (fun _ _ iv _ => k - (intOf iv).toNat)
  case atStart => exact ⟨0, _, _, _, _, _, _, Nat.zero_le _, rfl, rfl, rfl, lo, hi, Below.refl _ _⟩
  case round =>
    obtain ⟨j, A', B', n', c', m', d', hj, rfl, rfl, rfl, hL, hH, bb⟩ := hrel
    by_cases hlt : j < k
    · have e1 := q3.out j
      have e2 := q4.out j
      go_wp2_with fail
      refine (rmul_N hL (r.on bb) (by omega) (by omega)).mono ?_
      rintro e v1 ⟨A21, n21, c21, rfl, g1, b⟩
      rw [← Nat.pow_succ] at g1
      replace hH := hH.on b
      replace bb := bb.trans (b.mono bb.size)
      clear b
      go_wp2_with fail
      refine (rmul_N hH (one.on bb) (by omega) (by omega)).mono ?_
      rintro e v2 ⟨A22, n22, c22, rfl, g2, b⟩
      rw [← Nat.pow_succ] at g2
      replace g1 := g1.on b
      replace bb := bb.trans (b.mono bb.size)
      clear b
      go_wp2_with fail
      go_roundw
      case rel => exact ⟨j + 1, _, _, _, _, _, _, by omega, by go_num, rfl, rfl, g1, g2, bb⟩
      case measure => simp [intOf]; omega
    · obtain rfl : j = k := by omega
      replace h0 := h0.on bb
      replace r := r.on bb
      replace u := u.on bb
      replace one := one.on bb
      replace cc := cc.trans (bb.mono cc.size)
      clear bb lo hi
      go_wp2_with fail
      refine (rcmp_N hL h0 (by omega) (by omega)).mono ?_
      rintro e w9 ⟨rfl, b⟩
      replace h0 := h0.on b
      replace r := r.on b
      replace u := u.on b
      replace one := one.on b
      replace hL := hL.on b
      replace hH := hH.on b
      replace cc := cc.trans (b.mono cc.size)
      clear b
      go_wp2_with fail
      refine (rcmp_N hH h0 (by omega) (by omega)).mono ?_
      rintro e w10 ⟨rfl, b⟩
      replace h0 := h0.on b
      replace r := r.on b
      replace u := u.on b
      replace one := one.on b
      replace hL := hL.on b
      replace hH := hH.on b
      replace cc := cc.trans (b.mono cc.size)
      clear b
      go_wp2_with fail
      refine (same_not_N hL h0 (by omega) (by omega) hE.out).mono ?_
      rintro e w11 ⟨rfl, b⟩
      replace h0 := h0.on b
      replace r := r.on b
      replace u := u.on b
      replace one := one.on b
      replace hL := hL.on b
      replace hH := hH.on b
      replace cc := cc.trans (b.mono cc.size)
      clear b
      go_wp2_with fail
      refine (alive_any _).mono ?_
      rintro e w12 ⟨rfl, b⟩
      replace h0 := h0.on b
      replace r := r.on b
      replace u := u.on b
      replace one := one.on b
      replace hL := hL.on b
      replace hH := hH.on b
      replace cc := cc.trans (b.mono cc.size)
      clear b
      go_wp2_with fail
      refine (same_N u one (by omega) (by omega) hU.out).mono ?_
      rintro e w13 ⟨rfl, b⟩
      replace h0 := h0.on b
      replace r := r.on b
      replace u := u.on b
      replace one := one.on b
      replace hL := hL.on b
      replace hH := hH.on b
      replace cc := cc.trans (b.mono cc.size)
      clear b
      go_wp2_with fail
      go_ret
      exact ⟨rfl, cc⟩

theorem RootBetween_walk {a0 : Option Addr} {len0 cap0 : Nat} {l0 : List Nat} {w : World} (kk : Int) (hl0 : Lim w.heap.size w a0 len0 cap0 l0) (hs0 : len0 ≤ 9223372036854775807) :
    Calls Try.prog 4 #[.slice a0 len0 cap0, .int .i64 kk] w fun e w' => e = .returned (.bool true) ∧ Below w.heap.size w w' := by
  cases hr0 : (decide ((len0 : Int) ≤ 12) && canon l0) with
  | false => exact RootBetween_no0 _ (Lib.hid (given_N 12 false hl0 hs0 hr0))
  | true =>
    have G0 := Lib.hid (given_N 12 true hl0 hs0 hr0)
    rw [Bool.and_eq_true] at hr0
    have h0 := hl0.num hr0.2
    have lx : (limbs (val l0)).length ≤ 12 := by rw [← h0.len]; have := of_decide_eq_true hr0.1; omega
    generalize val l0 = x at h0 lx
    by_cases a1 : kk < 1
    · exact RootBetween_q1 _ a1 G0
    by_cases a2 : 16 < kk
    · exact RootBetween_q2 _ a1 a2 G0
    obtain ⟨k, rfl⟩ : ∃ k : Nat, kk = (k : Int) := ⟨kk.toNat, by omega⟩
    by_cases h : iroot k x ^ k = x
    · exact RootBetween_eq h0 lx k (by omega) (by omega) (Lib.hid h) (Lib.hid (by unfold uroot; rw [if_pos h])) G0
    · exact RootBetween_ne h0 lx k (by omega) (by omega) (Lib.hid h) (Lib.hid (by unfold uroot; rw [if_neg h])) G0

end Go.Proofs.Ythdlbngdmbkgcaa
