/-
  The walk of RootTells.
-/
import Derived.Test.YthdlbngdmbkgcaaA5
namespace Go.Proofs.Ythdlbngdmbkgcaa
open Go.RowKit
set_option linter.unusedVariables false

set_option maxRecDepth 100000 in
set_option maxHeartbeats 8000000 in
theorem RootTells_no0 {a0 : Option Addr} {len0 cap0 : Nat} {w : World} (kk : Int) (G0 : Hid (Calls Try.prog 9 #[.slice a0 len0 cap0, .int .i64 6] w fun e w' => e = .returned (.bool false) ∧ w = w')) :
    Calls Try.prog 3 #[.slice a0 len0 cap0, .int .i64 kk] w fun e w' => e = .returned (.bool true) ∧ Below w.heap.size w w' := by
  go_enter Try.func3, Try.ntmps3
  go_wp2_with fail
  refine G0.out.mono ?_
  rintro e w' ⟨rfl, rfl⟩
  have cc := Below.refl w.heap.size w
  go_wp2_with fail
  refine (alive_any _).mono ?_
  rintro e w1 ⟨rfl, b⟩
  replace cc := cc.trans (b.mono cc.size)
  clear b
  go_wp2_with fail
  go_ret
  exact ⟨rfl, cc⟩

set_option maxRecDepth 100000 in
set_option maxHeartbeats 8000000 in
theorem RootTells_yes {a0 : Option Addr} {len0 cap0 x : Nat} {w : World} (h0 : Num w a0 len0 cap0 x) (lx : (limbs x).length ≤ 6) (k : Nat) (k1 : 1 ≤ k) (k2 : k ≤ 16) (G0 : Hid (Calls Try.prog 9 #[.slice a0 len0 cap0, .int .i64 6] w fun e w' => e = .returned (.bool true) ∧ w = w')) :
    Calls Try.prog 3 #[.slice a0 len0 cap0, .int .i64 (k : Int)] w fun e w' => e = .returned (.bool true) ∧ Below w.heap.size w w' := by
  have q1 := len_iroot k1 lx
  have q2 := len_uroot k1 lx
  have q3 : (limbs (x ^ k)).length ≤ 1000 := Nat.le_trans (limbs_length_pow lx k) (by omega)
  go_enter Try.func3, Try.ntmps3
  go_wp2_with fail
  refine G0.out.mono ?_
  rintro e w' ⟨rfl, rfl⟩
  have cc := Below.refl w.heap.size w
  go_wp2_with fail
  refine (root_N h0 (by omega) k1 k2).mono ?_
  rintro e w1 ⟨A1, n1, c1, rfl, r1, b⟩
  replace h0 := h0.on b
  replace cc := cc.trans (b.mono cc.size)
  clear b
  go_wp2_with fail
  refine (rroot_N h0 (by omega) k1 k2).mono ?_
  rintro e w2 ⟨A2, n2, c2, rfl, r2, b⟩
  replace h0 := h0.on b
  replace r1 := r1.on b
  replace cc := cc.trans (b.mono cc.size)
  clear b
  go_wp2_with fail
  refine (up_N h0 (by omega) k1 k2).mono ?_
  rintro e w3 ⟨A3, n3, c3, rfl, u1, b⟩
  replace h0 := h0.on b
  replace r1 := r1.on b
  replace r2 := r2.on b
  replace cc := cc.trans (b.mono cc.size)
  clear b
  go_wp2_with fail
  refine (rup_N h0 (by omega) k1 k2).mono ?_
  rintro e w4 ⟨A4, n4, c4, rfl, u2, b⟩
  replace h0 := h0.on b
  replace r1 := r1.on b
  replace r2 := r2.on b
  replace u1 := u1.on b
  replace cc := cc.trans (b.mono cc.size)
  clear b
  go_wp2_with fail
  refine (pow_N h0 (by omega) k1 k2).mono ?_
  rintro e w5 ⟨A5, n5, c5, rfl, p1, b⟩
  replace h0 := h0.on b
  replace r1 := r1.on b
  replace r2 := r2.on b
  replace u1 := u1.on b
  replace u2 := u2.on b
  replace cc := cc.trans (b.mono cc.size)
  clear b
  go_wp2_with fail
  refine (rpow_N h0 (by omega) k1 k2).mono ?_
  rintro e w6 ⟨A6, n6, c6, rfl, p2, b⟩
  replace h0 := h0.on b
  replace r1 := r1.on b
  replace r2 := r2.on b
  replace u1 := u1.on b
  replace u2 := u2.on b
  replace p1 := p1.on b
  replace cc := cc.trans (b.mono cc.size)
  clear b
  go_wp2_with fail
  refine (alive_any _).mono ?_
  rintro e w7 ⟨rfl, b⟩
  replace h0 := h0.on b
  replace r1 := r1.on b
  replace r2 := r2.on b
  replace u1 := u1.on b
  replace u2 := u2.on b
  replace p1 := p1.on b
  replace p2 := p2.on b
  replace cc := cc.trans (b.mono cc.size)
  clear b
  go_wp2_with fail
  refine (same_N r1 r2 (by omega) (by omega) rfl).mono ?_
  rintro e w8 ⟨rfl, b⟩
  replace h0 := h0.on b
  replace r1 := r1.on b
  replace r2 := r2.on b
  replace u1 := u1.on b
  replace u2 := u2.on b
  replace p1 := p1.on b
  replace p2 := p2.on b
  replace cc := cc.trans (b.mono cc.size)
  clear b
  go_wp2_with fail
  refine (same_N u1 u2 (by omega) (by omega) rfl).mono ?_
  rintro e w9 ⟨rfl, b⟩
  replace h0 := h0.on b
  replace r1 := r1.on b
  replace r2 := r2.on b
  replace u1 := u1.on b
  replace u2 := u2.on b
  replace p1 := p1.on b
  replace p2 := p2.on b
  replace cc := cc.trans (b.mono cc.size)
  clear b
  go_wp2_with fail
  refine (same_N p1 p2 (by omega) (by omega) rfl).mono ?_
  rintro e w10 ⟨rfl, b⟩
  replace h0 := h0.on b
  replace r1 := r1.on b
  replace r2 := r2.on b
  replace u1 := u1.on b
  replace u2 := u2.on b
  replace p1 := p1.on b
  replace p2 := p2.on b
  replace cc := cc.trans (b.mono cc.size)
  clear b
  go_wp2_with fail
  go_ret
  exact ⟨rfl, cc⟩

set_option maxRecDepth 100000 in
set_option maxHeartbeats 8000000 in
theorem RootTells_out {a0 : Option Addr} {len0 cap0 x : Nat} {w : World} (h0 : Num w a0 len0 cap0 x) (lx : (limbs x).length ≤ 6) (kk : Int) (hn : Hid (kk < 1 ∨ 16 < kk)) (G0 : Hid (Calls Try.prog 9 #[.slice a0 len0 cap0, .int .i64 6] w fun e w' => e = .returned (.bool true) ∧ w = w')) :
    Calls Try.prog 3 #[.slice a0 len0 cap0, .int .i64 kk] w fun e w' => e = .returned (.bool true) ∧ Below w.heap.size w w' := by
  have q0 := len_nought
  go_enter Try.func3, Try.ntmps3
  go_wp2_with fail
  refine G0.out.mono ?_
  rintro e w' ⟨rfl, rfl⟩
  have cc := Below.refl w.heap.size w
  go_wp2_with fail
  refine (root_no _ _ _ _ _ hn.out).mono ?_
  rintro e w1 ⟨rfl, b⟩
  replace h0 := h0.on b
  replace cc := cc.trans (b.mono cc.size)
  clear b
  go_wp2_with fail
  refine (rroot_no _ _ _ _ _ hn.out).mono ?_
  rintro e w2 ⟨rfl, b⟩
  replace h0 := h0.on b
  replace cc := cc.trans (b.mono cc.size)
  clear b
  go_wp2_with fail
  refine (up_no _ _ _ _ _ hn.out).mono ?_
  rintro e w3 ⟨rfl, b⟩
  replace h0 := h0.on b
  replace cc := cc.trans (b.mono cc.size)
  clear b
  go_wp2_with fail
  refine (rup_no _ _ _ _ _ hn.out).mono ?_
  rintro e w4 ⟨rfl, b⟩
  replace h0 := h0.on b
  replace cc := cc.trans (b.mono cc.size)
  clear b
  go_wp2_with fail
  refine (pow_no _ _ _ _ _ hn.out).mono ?_
  rintro e w5 ⟨rfl, b⟩
  replace h0 := h0.on b
  replace cc := cc.trans (b.mono cc.size)
  clear b
  go_wp2_with fail
  refine (rpow_no _ _ _ _ _ hn.out).mono ?_
  rintro e w6 ⟨rfl, b⟩
  replace h0 := h0.on b
  replace cc := cc.trans (b.mono cc.size)
  clear b
  go_wp2_with fail
  refine (alive_any _).mono ?_
  rintro e w7 ⟨rfl, b⟩
  replace h0 := h0.on b
  replace cc := cc.trans (b.mono cc.size)
  clear b
  go_wp2_with fail
  refine (same_N (num_zero _) (num_zero _) (by omega) (by omega) rfl).mono ?_
  rintro e w8 ⟨rfl, b⟩
  replace h0 := h0.on b
  replace cc := cc.trans (b.mono cc.size)
  clear b
  go_wp2_with fail
  refine (same_N (num_zero _) (num_zero _) (by omega) (by omega) rfl).mono ?_
  rintro e w9 ⟨rfl, b⟩
  replace h0 := h0.on b
  replace cc := cc.trans (b.mono cc.size)
  clear b
  go_wp2_with fail
  refine (same_N (num_zero _) (num_zero _) (by omega) (by omega) rfl).mono ?_
  rintro e w10 ⟨rfl, b⟩
  replace h0 := h0.on b
  replace cc := cc.trans (b.mono cc.size)
  clear b
  go_wp2_with fail
  go_ret
  exact ⟨rfl, cc⟩

theorem RootTells_walk {a0 : Option Addr} {len0 cap0 : Nat} {l0 : List Nat} {w : World} (kk : Int) (hl0 : Lim w.heap.size w a0 len0 cap0 l0) (hs0 : len0 ≤ 9223372036854775807) :
    Calls Try.prog 3 #[.slice a0 len0 cap0, .int .i64 kk] w fun e w' => e = .returned (.bool true) ∧ Below w.heap.size w w' := by
  cases hr0 : (decide ((len0 : Int) ≤ 6) && canon l0) with
  | false => exact RootTells_no0 _ (Lib.hid (given_N 6 false hl0 hs0 hr0))
  | true =>
    have G0 := Lib.hid (given_N 6 true hl0 hs0 hr0)
    rw [Bool.and_eq_true] at hr0
    have h0 := hl0.num hr0.2
    have lx : (limbs (val l0)).length ≤ 6 := by rw [← h0.len]; have := of_decide_eq_true hr0.1; omega
    generalize val l0 = x at h0 lx
    by_cases hn : kk < 1 ∨ 16 < kk
    · exact RootTells_out h0 lx kk (Lib.hid hn) G0
    · obtain ⟨k, rfl⟩ : ∃ k : Nat, kk = (k : Int) := ⟨kk.toNat, by omega⟩
      exact RootTells_yes h0 lx k (by omega) (by omega) G0

end Go.Proofs.Ythdlbngdmbkgcaa
