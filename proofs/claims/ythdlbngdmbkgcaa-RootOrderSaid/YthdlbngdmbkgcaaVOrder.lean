/-
  The walk of RootOrder.
-/
import Derived.Test.YthdlbngdmbkgcaaA5
namespace Go.Proofs.Ythdlbngdmbkgcaa
open Go.RowKit
set_option linter.unusedVariables false

theorem root_next {w : World} {A : Option Addr} {n c x k : Nat} (ha : Num w A n c x) (hx : (limbs x).length ≤ 100) (h1 : 1 ≤ k) (hk : k ≤ 15) : Calls Try.prog 11 #[.slice A n c, .int .i64 ((k : Int) + 1)] w (GotP w (iroot (k + 1) x) 0) :=
  root_N (k := k + 1) ha hx (by omega) (by omega)
theorem root_first {w : World} {A : Option Addr} {n c x : Nat} (ha : Num w A n c x) (hx : (limbs x).length ≤ 100) : Calls Try.prog 11 #[.slice A n c, .int .i64 1] w (GotP w x 0) := by
  have h := root_N (k := 1) ha hx (by omega) (by omega)
  rwa [iroot_one] at h

set_option maxRecDepth 100000 in
set_option maxHeartbeats 8000000 in
theorem RootOrder_no0 {a0 a1 : Option Addr} {len0 cap0 len1 cap1 : Nat} {w : World} (kk : Int) (G0 : Hid (Calls Try.prog 9 #[.slice a0 len0 cap0, .int .i64 6] w fun e w' => e = .returned (.bool false) ∧ w = w')) :
    Calls Try.prog 6 #[.slice a0 len0 cap0, .slice a1 len1 cap1, .int .i64 kk] w fun e w' => e = .returned (.bool true) ∧ Below w.heap.size w w' := by
  go_enter Try.func6, Try.ntmps6
  go_wp2_with fail
  refine G0.out.mono ?_
  rintro e w' ⟨rfl, rfl⟩
  have cc := Below.refl w.heap.size w
  go_wp2_with fail
  refine (alive_any _).mono ?_
  rintro e w1 ⟨rfl, b⟩
  replace cc := cc.trans (b.mono cc.size)
  clear b
  go_wp2_with fail
  go_ret
  exact ⟨rfl, cc⟩

set_option maxRecDepth 100000 in
set_option maxHeartbeats 8000000 in
theorem RootOrder_no1 {a0 a1 : Option Addr} {len0 cap0 len1 cap1 : Nat} {w : World} (kk : Int) (G0 : Hid (Calls Try.prog 9 #[.slice a0 len0 cap0, .int .i64 6] w fun e w' => e = .returned (.bool true) ∧ w = w')) (G1 : Hid (Calls Try.prog 9 #[.slice a1 len1 cap1, .int .i64 6] w fun e w' => e = .returned (.bool false) ∧ w = w')) :
    Calls Try.prog 6 #[.slice a0 len0 cap0, .slice a1 len1 cap1, .int .i64 kk] w fun e w' => e = .returned (.bool true) ∧ Below w.heap.size w w' := by
  go_enter Try.func6, Try.ntmps6
  go_wp2_with fail
  refine G0.out.mono ?_
  rintro e w' ⟨rfl, rfl⟩
  go_wp2_with fail
  refine G1.out.mono ?_
  rintro e w' ⟨rfl, rfl⟩
  have cc := Below.refl w.heap.size w
  go_wp2_with fail
  refine (alive_any _).mono ?_
  rintro e w1 ⟨rfl, b⟩
  replace cc := cc.trans (b.mono cc.size)
  clear b
  go_wp2_with fail
  go_ret
  exact ⟨rfl, cc⟩

set_option maxRecDepth 100000 in
set_option maxHeartbeats 8000000 in
theorem RootOrder_low {a0 a1 : Option Addr} {len0 cap0 len1 cap1 : Nat} {w : World} (kk : Int) (hn : Hid (kk < 1)) (G0 : Hid (Calls Try.prog 9 #[.slice a0 len0 cap0, .int .i64 6] w fun e w' => e = .returned (.bool true) ∧ w = w')) (G1 : Hid (Calls Try.prog 9 #[.slice a1 len1 cap1, .int .i64 6] w fun e w' => e = .returned (.bool true) ∧ w = w')) :
    Calls Try.prog 6 #[.slice a0 len0 cap0, .slice a1 len1 cap1, .int .i64 kk] w fun e w' => e = .returned (.bool true) ∧ Below w.heap.size w w' := by
  replace hn := hn.out
  go_enter Try.func6, Try.ntmps6
  go_wp2_with fail
  refine G0.out.mono ?_
  rintro e w' ⟨rfl, rfl⟩
  go_wp2_with fail
  refine G1.out.mono ?_
  rintro e w' ⟨rfl, rfl⟩
  have cc := Below.refl w.heap.size w
  go_wp2_with fail
  refine (alive_any _).mono ?_
  rintro e w1 ⟨rfl, b⟩
  replace cc := cc.trans (b.mono cc.size)
  clear b
  go_wp2_with fail
  go_ret
  exact ⟨rfl, cc⟩

set_option maxRecDepth 100000 in
set_option maxHeartbeats 8000000 in
theorem RootOrder_high {a0 a1 : Option Addr} {len0 cap0 len1 cap1 : Nat} {w : World} (kk : Int) (hm : 15 < kk) (G0 : Hid (Calls Try.prog 9 #[.slice a0 len0 cap0, .int .i64 6] w fun e w' => e = .returned (.bool true) ∧ w = w')) (G1 : Hid (Calls Try.prog 9 #[.slice a1 len1 cap1, .int .i64 6] w fun e w' => e = .returned (.bool true) ∧ w = w')) :
    Calls Try.prog 6 #[.slice a0 len0 cap0, .slice a1 len1 cap1, .int .i64 kk] w fun e w' => e = .returned (.bool true) ∧ Below w.heap.size w w' := by
  have hn : ¬ kk < 1 := by omega
  go_enter Try.func6, Try.ntmps6
  go_wp2_with fail
  refine G0.out.mono ?_
  rintro e w' ⟨rfl, rfl⟩
  go_wp2_with fail
  refine G1.out.mono ?_
  rintro e w' ⟨rfl, rfl⟩
  have cc := Below.refl w.heap.size w
  go_wp2_with fail
  refine (alive_any _).mono ?_
  rintro e w1 ⟨rfl, b⟩
  replace cc := cc.trans (b.mono cc.size)
  clear b
  go_wp2_with fail
  go_ret
  exact ⟨rfl, cc⟩

set_option maxRecDepth 100000 in
set_option maxHeartbeats 8000000 in
theorem RootOrder_le {a0 a1 : Option Addr} {len0 cap0 len1 cap1 x y : Nat} {w : World} (h0 : Num w a0 len0 cap0 x) (h1 : Num w a1 len1 cap1 y) (lx : (limbs x).length ≤ 6) (ly : (limbs y).length ≤ 6) (k : Nat) (k1 : 1 ≤ k) (k2 : k ≤ 15) (hle : x ≤ y) (G0 : Hid (Calls Try.prog 9 #[.slice a0 len0 cap0, .int .i64 6] w fun e w' => e = .returned (.bool true) ∧ w = w')) (G1 : Hid (Calls Try.prog 9 #[.slice a1 len1 cap1, .int .i64 6] w fun e w' => e = .returned (.bool true) ∧ w = w')) :
    Calls Try.prog 6 #[.slice a0 len0 cap0, .slice a1 len1 cap1, .int .i64 (k : Int)] w fun e w' => e = .returned (.bool true) ∧ Below w.heap.size w w' := by
  have q1 := len_iroot k1 lx
  have q2 := len_iroot k1 ly
  have q3 := len_iroot (k := k + 1) (by omega) lx
  have t1 : cmpN (iroot (k + 1) x) (iroot k x) ≤ 0 := cmpN_le (iroot_higher x (by omega))
  have t2 : ¬ 0 < cmpN x y := by have := cmpN_le hle; omega
  have t3 : cmpN (iroot k x) (iroot k y) ≤ 0 := cmpN_le (iroot_mono (by omega) hle)
  clear hle
  go_enter Try.func6, Try.ntmps6
  go_wp2_with fail
  refine G0.out.mono ?_
  rintro e w' ⟨rfl, rfl⟩
  go_wp2_with fail
  refine G1.out.mono ?_
  rintro e w' ⟨rfl, rfl⟩
  have cc := Below.refl w.heap.size w
  go_wp2_with fail
  refine (root_N h0 (by omega) k1 (by omega)).mono ?_
  rintro e w1 ⟨A1, n1, c1, rfl, r1, b⟩
  replace h0 := h0.on b
  replace h1 := h1.on b
  replace cc := cc.trans (b.mono cc.size)
  clear b
  go_wp2_with fail
  refine (root_N h1 (by omega) k1 (by omega)).mono ?_
  rintro e w2 ⟨A2, n2, c2, rfl, r2, b⟩
  replace h0 := h0.on b
  replace h1 := h1.on b
  replace r1 := r1.on b
  replace cc := cc.trans (b.mono cc.size)
  clear b
  go_wp2_with fail
  refine (root_next h0 (by omega) k1 k2).mono ?_
  rintro e w3 ⟨A3, n3, c3, rfl, r3, b⟩
  replace h0 := h0.on b
  replace h1 := h1.on b
  replace r1 := r1.on b
  replace r2 := r2.on b
  replace cc := cc.trans (b.mono cc.size)
  clear b
  go_wp2_with fail
  refine (root_first h0 (by omega)).mono ?_
  rintro e w4 ⟨A4, n4, c4, rfl, r4, b⟩
  replace h0 := h0.on b
  replace h1 := h1.on b
  replace r1 := r1.on b
  replace r2 := r2.on b
  replace r3 := r3.on b
  replace cc := cc.trans (b.mono cc.size)
  clear b
  go_wp2_with fail
  refine (rcmp_N h0 h1 (by omega) (by omega)).mono ?_
  rintro e w5 ⟨rfl, b⟩
  replace h0 := h0.on b
  replace h1 := h1.on b
  replace r1 := r1.on b
  replace r2 := r2.on b
  replace r3 := r3.on b
  replace r4 := r4.on b
  replace cc := cc.trans (b.mono cc.size)
  clear b
  go_wp2_with fail
  refine (rcmp_N r1 r2 (by omega) (by omega)).mono ?_
  rintro e w6 ⟨rfl, b⟩
  replace h0 := h0.on b
  replace h1 := h1.on b
  replace r1 := r1.on b
  replace r2 := r2.on b
  replace r3 := r3.on b
  replace r4 := r4.on b
  replace cc := cc.trans (b.mono cc.size)
  clear b
  go_wp2_with fail
  refine (alive_any _).mono ?_
  rintro e w7 ⟨rfl, b⟩
  replace h0 := h0.on b
  replace h1 := h1.on b
  replace r1 := r1.on b
  replace r2 := r2.on b
  replace r3 := r3.on b
  replace r4 := r4.on b
  replace cc := cc.trans (b.mono cc.size)
  clear b
  go_wp2_with fail
  refine (rcmp_N r3 r1 (by omega) (by omega)).mono ?_
  rintro e w8 ⟨rfl, b⟩
  replace h0 := h0.on b
  replace h1 := h1.on b
  replace r1 := r1.on b
  replace r2 := r2.on b
  replace r3 := r3.on b
  replace r4 := r4.on b
  replace cc := cc.trans (b.mono cc.size)
  clear b
  go_wp2_with fail
  refine (same_N r4 h0 (by omega) (by omega) rfl).mono ?_
  rintro e w9 ⟨rfl, b⟩
  replace h0 := h0.on b
  replace h1 := h1.on b
  replace r1 := r1.on b
  replace r2 := r2.on b
  replace r3 := r3.on b
  replace r4 := r4.on b
  replace cc := cc.trans (b.mono cc.size)
  clear b
  go_wp2_with fail
  go_ret
  exact ⟨rfl, cc⟩

set_option maxRecDepth 100000 in
set_option maxHeartbeats 8000000 in
theorem RootOrder_gt {a0 a1 : Option Addr} {len0 cap0 len1 cap1 x y : Nat} {w : World} (h0 : Num w a0 len0 cap0 x) (h1 : Num w a1 len1 cap1 y) (lx : (limbs x).length ≤ 6) (ly : (limbs y).length ≤ 6) (k : Nat) (k1 : 1 ≤ k) (k2 : k ≤ 15) (hlt : y < x) (G0 : Hid (Calls Try.prog 9 #[.slice a0 len0 cap0, .int .i64 6] w fun e w' => e = .returned (.bool true) ∧ w = w')) (G1 : Hid (Calls Try.prog 9 #[.slice a1 len1 cap1, .int .i64 6] w fun e w' => e = .returned (.bool true) ∧ w = w')) :
    Calls Try.prog 6 #[.slice a0 len0 cap0, .slice a1 len1 cap1, .int .i64 (k : Int)] w fun e w' => e = .returned (.bool true) ∧ Below w.heap.size w w' := by
  have q1 := len_iroot k1 lx
  have q2 := len_iroot k1 ly
  have q3 := len_iroot (k := k + 1) (by omega) lx
  have t1 : cmpN (iroot (k + 1) x) (iroot k x) ≤ 0 := cmpN_le (iroot_higher x (by omega))
  have t2 : 0 < cmpN x y := by rw [cmpN_gt hlt]; omega
  clear hlt
  go_enter Try.func6, Try.ntmps6
  go_wp2_with fail
  refine G0.out.mono ?_
  rintro e w' ⟨rfl, rfl⟩
  go_wp2_with fail
  refine G1.out.mono ?_
  rintro e w' ⟨rfl, rfl⟩
  have cc := Below.refl w.heap.size w
  go_wp2_with fail
  refine (root_N h0 (by omega) k1 (by omega)).mono ?_
  rintro e w1 ⟨A1, n1, c1, rfl, r1, b⟩
  replace h0 := h0.on b
  replace h1 := h1.on b
  replace cc := cc.trans (b.mono cc.size)
  clear b
  go_wp2_with fail
  refine (root_N h1 (by omega) k1 (by omega)).mono ?_
  rintro e w2 ⟨A2, n2, c2, rfl, r2, b⟩
  replace h0 := h0.on b
  replace h1 := h1.on b
  replace r1 := r1.on b
  replace cc := cc.trans (b.mono cc.size)
  clear b
  go_wp2_with fail
  refine (root_next h0 (by omega) k1 k2).mono ?_
  rintro e w3 ⟨A3, n3, c3, rfl, r3, b⟩
  replace h0 := h0.on b
  replace h1 := h1.on b
  replace r1 := r1.on b
  replace r2 := r2.on b
  replace cc := cc.trans (b.mono cc.size)
  clear b
  go_wp2_with fail
  refine (root_first h0 (by omega)).mono ?_
  rintro e w4 ⟨A4, n4, c4, rfl, r4, b⟩
  replace h0 := h0.on b
  replace h1 := h1.on b
  replace r1 := r1.on b
  replace r2 := r2.on b
  replace r3 := r3.on b
  replace cc := cc.trans (b.mono cc.size)
  clear b
  go_wp2_with fail
  refine (rcmp_N h0 h1 (by omega) (by omega)).mono ?_
  rintro e w5 ⟨rfl, b⟩
  replace h0 := h0.on b
  replace h1 := h1.on b
  replace r1 := r1.on b
  replace r2 := r2.on b
  replace r3 := r3.on b
  replace r4 := r4.on b
  replace cc := cc.trans (b.mono cc.size)
  clear b
  go_wp2_with fail
  refine (alive_any _).mono ?_
  rintro e w6 ⟨rfl, b⟩
  replace h0 := h0.on b
  replace h1 := h1.on b
  replace r1 := r1.on b
  replace r2 := r2.on b
  replace r3 := r3.on b
  replace r4 := r4.on b
  replace cc := cc.trans (b.mono cc.size)
  clear b
  go_wp2_with fail
  refine (rcmp_N r3 r1 (by omega) (by omega)).mono ?_
  rintro e w7 ⟨rfl, b⟩
  replace h0 := h0.on b
  replace h1 := h1.on b
  replace r1 := r1.on b
  replace r2 := r2.on b
  replace r3 := r3.on b
  replace r4 := r4.on b
  replace cc := cc.trans (b.mono cc.size)
  clear b
  go_wp2_with fail
  refine (same_N r4 h0 (by omega) (by omega) rfl).mono ?_
  rintro e w8 ⟨rfl, b⟩
  replace h0 := h0.on b
  replace h1 := h1.on b
  replace r1 := r1.on b
  replace r2 := r2.on b
  replace r3 := r3.on b
  replace r4 := r4.on b
  replace cc := cc.trans (b.mono cc.size)
  clear b
  go_wp2_with fail
  go_ret
  exact ⟨rfl, cc⟩

theorem RootOrder_walk {a0 a1 : Option Addr} {len0 cap0 len1 cap1 : Nat} {l0 l1 : List Nat} {w : World} (kk : Int) (hl0 : Lim w.heap.size w a0 len0 cap0 l0) (hs0 : len0 ≤ 9223372036854775807) (hl1 : Lim w.heap.size w a1 len1 cap1 l1) (hs1 : len1 ≤ 9223372036854775807) :
    Calls Try.prog 6 #[.slice a0 len0 cap0, .slice a1 len1 cap1, .int .i64 kk] w fun e w' => e = .returned (.bool true) ∧ Below w.heap.size w w' := by
  cases hr0 : (decide ((len0 : Int) ≤ 6) && canon l0) with
  | false => exact RootOrder_no0 _ (Lib.hid (given_N 6 false hl0 hs0 hr0))
  | true =>
    have G0 := Lib.hid (given_N 6 true hl0 hs0 hr0)
    rw [Bool.and_eq_true] at hr0
    have h0 := hl0.num hr0.2
    have lx : (limbs (val l0)).length ≤ 6 := by rw [← h0.len]; have := of_decide_eq_true hr0.1; omega
    cases hr1 : (decide ((len1 : Int) ≤ 6) && canon l1) with
    | false => exact RootOrder_no1 _ G0 (Lib.hid (given_N 6 false hl1 hs1 hr1))
    | true =>
      have G1 := Lib.hid (given_N 6 true hl1 hs1 hr1)
      rw [Bool.and_eq_true] at hr1
      have h1 := hl1.num hr1.2
      have ly : (limbs (val l1)).length ≤ 6 := by rw [← h1.len]; have := of_decide_eq_true hr1.1; omega
      generalize val l0 = x at h0 lx
      generalize val l1 = y at h1 ly
      by_cases hn : kk < 1
      · exact RootOrder_low _ (Lib.hid hn) G0 G1
      · by_cases hm : 15 < kk
        · exact RootOrder_high _ hm G0 G1
        · obtain ⟨k, rfl⟩ : ∃ k : Nat, kk = (k : Int) := ⟨kk.toNat, by omega⟩
          rcases Nat.lt_or_ge y x with h | h
          · exact RootOrder_gt h0 h1 lx ly k (by omega) (by omega) h G0 G1
          · exact RootOrder_le h0 h1 lx ly k (by omega) (by omega) h G0 G1

end Go.Proofs.Ythdlbngdmbkgcaa
