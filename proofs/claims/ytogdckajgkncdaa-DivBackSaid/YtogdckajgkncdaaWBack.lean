/-
  The walk of DivBack.
-/
import Derived.Test.YtogdckajgkncdaaWHalves
namespace Go.Proofs.Ytogdckajgkncdaa
open Go.RowKit
set_option linter.unusedVariables false

set_option maxHeartbeats 2000000 in
theorem DivBack_no {a0 a1 : Option Addr} {len0 cap0 len1 cap1 : Nat} {w : World} (n : Int) (G : Hid (Calls Try.prog 10 #[.slice (some ⟨w.heap.size, 0, none⟩) 2 2] (w.alloc (.cells #[.slice a0 len0 cap0, .slice a1 len1 cap1] 23)) (GotV (w.alloc (.cells #[.slice a0 len0 cap0, .slice a1 len1 cap1] 23)) (.bool false)))) :
    Calls Try.prog 6 #[.slice a0 len0 cap0, .slice a1 len1 cap1, .int .i64 n] w fun e w' => e = .returned (.bool true) ∧ Below w.heap.size w w' := by
  go_enter Try.func6, Try.ntmps6
  go_wp2_with fail
  refine G.out.mono ?_
  rintro e w1 ⟨rfl, b1⟩
  go_wp2_with fail
  refine (alive_any _).mono ?_
  rintro e w2 ⟨rfl, b2⟩
  go_wp2_with fail
  go_ret
  exact ⟨rfl, ((Below.refl _ w).alloc (Nat.le_refl _) _).trans ((b1.trans (b2.mono b1.size)).mono (by simp))⟩

set_option maxRecDepth 100000 in
set_option maxHeartbeats 8000000 in
theorem DivBack_zero {a0 a1 : Option Addr} {len0 cap0 len1 cap1 x y : Nat} {w : World} (h0 : Num w a0 len0 cap0 x) (h1 : Num w a1 len1 cap1 y) (lx : (limbs x).length ≤ 20) (ly : (limbs y).length ≤ 20)
    (G : Hid (Calls Try.prog 10 #[.slice (some ⟨w.heap.size, 0, none⟩) 2 2] (w.alloc (.cells #[.slice a0 len0 cap0, .slice a1 len1 cap1] 23)) (GotV (w.alloc (.cells #[.slice a0 len0 cap0, .slice a1 len1 cap1] 23)) (.bool true))))
    (k : Nat) (hc : len0 ≤ 10) (hd : len1 ≤ 10) (hk : k ≤ 2000) (hy : y = 0) :
    Calls Try.prog 6 #[.slice a0 len0 cap0, .slice a1 len1 cap1, .int .i64 (k : Int)] w fun e w' => e = .returned (.bool true) ∧ Below w.heap.size w w' := by
  have u1 : len1 = 0 := by rw [hy] at h1; exact h1.nought
  subst u1
  clear hy
  have v1 : (limbs (x * 2 ^ k)).length ≤ 20 + (32 + 1) := len_up lx (by omega)
  have v2 : (limbs (x * 2 ^ k / 2 ^ k)).length ≤ 53 := len_quot _ v1
  have he : x * 2 ^ k / 2 ^ k = x := Nat.mul_div_cancel _ (Nat.pow_pos (by omega))
  have HE := Lib.hid he
  clear he
  go_enter Try.func6, Try.ntmps6
  go_wp2_with fail
  refine G.out.mono ?_
  rintro e w1 ⟨rfl, b1⟩
  have cc : Below w.heap.size w w1 := ((Below.refl _ w).alloc (Nat.le_refl _) _).trans (b1.mono (by simp))
  clear b1 G
  replace h0 := h0.on cc
  replace h1 := h1.on cc
  go_wp2_with fail
  refine (dshl_N h0 (by omega) (by omega)).mono ?_
  rintro e w2 ⟨A2, n2, c2, rfl, s1, b⟩
  replace h0 := h0.on b
  replace h1 := h1.on b
  replace cc := cc.trans (b.mono cc.size)
  clear b
  go_wp2_with fail
  refine (dshr_N s1 (by omega) (by omega)).mono ?_
  rintro e w3 ⟨A3, n3, c3, rfl, t1, b⟩
  replace h0 := h0.on b
  replace h1 := h1.on b
  replace s1 := s1.on b
  replace cc := cc.trans (b.mono cc.size)
  clear b
  go_wp2_with fail
  refine (same_N t1 h0 (by omega) (by omega) HE.out).mono ?_
  rintro e w4 ⟨rfl, b⟩
  replace h0 := h0.on b
  replace h1 := h1.on b
  replace s1 := s1.on b
  replace t1 := t1.on b
  replace cc := cc.trans (b.mono cc.size)
  clear b
  clear s1 t1
  go_wp2_with fail
  refine (alive_any _).mono ?_
  rintro e w5 ⟨rfl, b⟩
  replace h0 := h0.on b
  replace h1 := h1.on b
  replace cc := cc.trans (b.mono cc.size)
  clear b
  go_wp2_with fail
  go_ret
  exact ⟨rfl, cc⟩

set_option maxRecDepth 100000 in
set_option maxHeartbeats 16000000 in
theorem DivBack_yes {a0 a1 : Option Addr} {len0 cap0 len1 cap1 x y : Nat} {w : World} (h0 : Num w a0 len0 cap0 x) (h1 : Num w a1 len1 cap1 y) (lx : (limbs x).length ≤ 20) (ly : (limbs y).length ≤ 20)
    (G : Hid (Calls Try.prog 10 #[.slice (some ⟨w.heap.size, 0, none⟩) 2 2] (w.alloc (.cells #[.slice a0 len0 cap0, .slice a1 len1 cap1] 23)) (GotV (w.alloc (.cells #[.slice a0 len0 cap0, .slice a1 len1 cap1] 23)) (.bool true))))
    (k : Nat) (hc : len0 ≤ 10) (hd : len1 ≤ 10) (hk : k ≤ 2000) (hy : y ≠ 0) :
    Calls Try.prog 6 #[.slice a0 len0 cap0, .slice a1 len1 cap1, .int .i64 (k : Int)] w fun e w' => e = .returned (.bool true) ∧ Below w.heap.size w w' := by
  have v1 : (limbs (x * 2 ^ k)).length ≤ 20 + (32 + 1) := len_up lx (by omega)
  have v2 : (limbs (x * 2 ^ k / 2 ^ k)).length ≤ 53 := len_quot _ v1
  have he : x * 2 ^ k / 2 ^ k = x := Nat.mul_div_cancel _ (Nat.pow_pos (by omega))
  have HE := Lib.hid he
  clear he
  have v0 : (limbs 1).length ≤ 1 := len_one B64_gt
  have u5 : 0 < len1 := h1.some_len hy
  have v3 : (limbs (y - 1)).length ≤ 20 := Nat.le_trans (limbs_length_mono (Nat.sub_le _ _)) ly
  have v4 : (limbs (x * y)).length ≤ 20 + 20 := limbs_length_mul lx ly
  have v5 : (limbs (x * y + (y - 1))).length ≤ 41 := limbs_length_add (k := 40) (by omega) (by omega)
  have hq : (x * y + (y - 1)) / y = x := by rw [Nat.mul_comm, Nat.mul_add_div (by omega), Nat.div_eq_of_lt (by omega)]; rfl
  have hr : (x * y + (y - 1)) % y = y - 1 := by rw [Nat.mul_comm, Nat.mul_add_mod, Nat.mod_eq_of_lt (by omega)]
  have v6 : (limbs ((x * y + (y - 1)) / y)).length ≤ 41 := len_quot _ v5
  have v7 : (limbs ((x * y + (y - 1)) % y)).length ≤ 20 := len_rest hy ly
  have hy1 : 1 ≤ y := by omega
  have HY := Lib.hid hy1
  have HQ := Lib.hid hq
  have HR := Lib.hid hr
  clear hq hr hy hy1
  go_enter Try.func6, Try.ntmps6
  go_wp2_with fail
  refine G.out.mono ?_
  rintro e w1 ⟨rfl, b1⟩
  have cc : Below w.heap.size w w1 := ((Below.refl _ w).alloc (Nat.le_refl _) _).trans (b1.mono (by simp))
  clear b1 G
  replace h0 := h0.on cc
  replace h1 := h1.on cc
  go_wp2_with fail
  refine (dshl_N h0 (by omega) (by omega)).mono ?_
  rintro e w2 ⟨A2, n2, c2, rfl, s1, b⟩
  replace h0 := h0.on b
  replace h1 := h1.on b
  replace cc := cc.trans (b.mono cc.size)
  clear b
  go_wp2_with fail
  refine (dshr_N s1 (by omega) (by omega)).mono ?_
  rintro e w3 ⟨A3, n3, c3, rfl, t1, b⟩
  replace h0 := h0.on b
  replace h1 := h1.on b
  replace s1 := s1.on b
  replace cc := cc.trans (b.mono cc.size)
  clear b
  go_wp2_with fail
  refine (same_N t1 h0 (by omega) (by omega) HE.out).mono ?_
  rintro e w4 ⟨rfl, b⟩
  replace h0 := h0.on b
  replace h1 := h1.on b
  replace s1 := s1.on b
  replace t1 := t1.on b
  replace cc := cc.trans (b.mono cc.size)
  clear b
  clear s1 t1
  go_wp2_with fail
  refine (rof_one _).mono ?_
  rintro e w5 ⟨A5, n5, c5, rfl, o, b⟩
  replace h0 := h0.on b
  replace h1 := h1.on b
  replace cc := cc.trans (b.mono cc.size)
  clear b
  go_wp2_with fail
  refine (rsub_N h1 o (by omega) (by omega) HY.out).mono ?_
  rintro e w6 ⟨A6, n6, c6, rfl, l1, b⟩
  replace h0 := h0.on b
  replace h1 := h1.on b
  replace o := o.on b
  replace cc := cc.trans (b.mono cc.size)
  clear b
  clear o
  go_wp2_with fail
  refine (rmul_N h0 h1 (by omega) (by omega)).mono ?_
  rintro e w7 ⟨A7, n7, c7, rfl, m1, b⟩
  replace h0 := h0.on b
  replace h1 := h1.on b
  replace l1 := l1.on b
  replace cc := cc.trans (b.mono cc.size)
  clear b
  go_wp2_with fail
  refine (radd_N m1 l1 (by omega) (by omega)).mono ?_
  rintro e w8 ⟨A8, n8, c8, rfl, s1, b⟩
  replace h0 := h0.on b
  replace h1 := h1.on b
  replace l1 := l1.on b
  replace m1 := m1.on b
  replace cc := cc.trans (b.mono cc.size)
  clear b
  clear m1
  go_wp2_with fail
  refine (ddiv_N s1 h1 (by omega) (by omega) (by have := HY.out; omega)).mono ?_
  rintro e w9 ⟨A9, n9, c9, B9, m9, d9, rfl, q1, r1, b⟩
  replace h0 := h0.on b
  replace h1 := h1.on b
  replace l1 := l1.on b
  replace s1 := s1.on b
  replace cc := cc.trans (b.mono cc.size)
  clear b
  clear s1
  go_wp2_with fail
  refine (alive_any _).mono ?_
  rintro e w10 ⟨rfl, b⟩
  replace h0 := h0.on b
  replace h1 := h1.on b
  replace l1 := l1.on b
  replace q1 := q1.on b
  replace r1 := r1.on b
  replace cc := cc.trans (b.mono cc.size)
  clear b
  go_wp2_with fail
  refine (same_N q1 h0 (by omega) (by omega) HQ.out).mono ?_
  rintro e w11 ⟨rfl, b⟩
  replace h0 := h0.on b
  replace h1 := h1.on b
  replace l1 := l1.on b
  replace q1 := q1.on b
  replace r1 := r1.on b
  replace cc := cc.trans (b.mono cc.size)
  clear b
  go_wp2_with fail
  refine (same_N r1 l1 (by omega) (by omega) HR.out).mono ?_
  rintro e w12 ⟨rfl, b⟩
  replace h0 := h0.on b
  replace h1 := h1.on b
  replace l1 := l1.on b
  replace q1 := q1.on b
  replace r1 := r1.on b
  replace cc := cc.trans (b.mono cc.size)
  clear b
  go_wp2_with fail
  go_ret
  exact ⟨rfl, cc⟩

set_option maxRecDepth 100000 in
set_option maxHeartbeats 8000000 in
theorem DivBack_long {a0 a1 : Option Addr} {len0 cap0 len1 cap1 x y : Nat} {w : World} (h0 : Num w a0 len0 cap0 x) (h1 : Num w a1 len1 cap1 y) (lx : (limbs x).length ≤ 20) (ly : (limbs y).length ≤ 20)
    (G : Hid (Calls Try.prog 10 #[.slice (some ⟨w.heap.size, 0, none⟩) 2 2] (w.alloc (.cells #[.slice a0 len0 cap0, .slice a1 len1 cap1] 23)) (GotV (w.alloc (.cells #[.slice a0 len0 cap0, .slice a1 len1 cap1] 23)) (.bool true))))
    (n : Int) (hc : 10 < len0) :
    Calls Try.prog 6 #[.slice a0 len0 cap0, .slice a1 len1 cap1, .int .i64 n] w fun e w' => e = .returned (.bool true) ∧ Below w.heap.size w w' := by
  go_enter Try.func6, Try.ntmps6
  go_wp2_with fail
  refine G.out.mono ?_
  rintro e w1 ⟨rfl, b1⟩
  have cc : Below w.heap.size w w1 := ((Below.refl _ w).alloc (Nat.le_refl _) _).trans (b1.mono (by simp))
  clear b1 G
  replace h0 := h0.on cc
  replace h1 := h1.on cc
  go_wp2_with fail
  refine (alive_any _).mono ?_
  rintro e w2 ⟨rfl, b⟩
  replace h0 := h0.on b
  replace h1 := h1.on b
  replace cc := cc.trans (b.mono cc.size)
  clear b
  go_wp2_with fail
  go_ret
  exact ⟨rfl, cc⟩

set_option maxRecDepth 100000 in
set_option maxHeartbeats 8000000 in
theorem DivBack_wide {a0 a1 : Option Addr} {len0 cap0 len1 cap1 x y : Nat} {w : World} (h0 : Num w a0 len0 cap0 x) (h1 : Num w a1 len1 cap1 y) (lx : (limbs x).length ≤ 20) (ly : (limbs y).length ≤ 20)
    (G : Hid (Calls Try.prog 10 #[.slice (some ⟨w.heap.size, 0, none⟩) 2 2] (w.alloc (.cells #[.slice a0 len0 cap0, .slice a1 len1 cap1] 23)) (GotV (w.alloc (.cells #[.slice a0 len0 cap0, .slice a1 len1 cap1] 23)) (.bool true))))
    (n : Int) (hc : len0 ≤ 10) (hd : 10 < len1) :
    Calls Try.prog 6 #[.slice a0 len0 cap0, .slice a1 len1 cap1, .int .i64 n] w fun e w' => e = .returned (.bool true) ∧ Below w.heap.size w w' := by
  go_enter Try.func6, Try.ntmps6
  go_wp2_with fail
  refine G.out.mono ?_
  rintro e w1 ⟨rfl, b1⟩
  have cc : Below w.heap.size w w1 := ((Below.refl _ w).alloc (Nat.le_refl _) _).trans (b1.mono (by simp))
  clear b1 G
  replace h0 := h0.on cc
  replace h1 := h1.on cc
  go_wp2_with fail
  refine (alive_any _).mono ?_
  rintro e w2 ⟨rfl, b⟩
  replace h0 := h0.on b
  replace h1 := h1.on b
  replace cc := cc.trans (b.mono cc.size)
  clear b
  go_wp2_with fail
  go_ret
  exact ⟨rfl, cc⟩

set_option maxRecDepth 100000 in
set_option maxHeartbeats 8000000 in
theorem DivBack_neg {a0 a1 : Option Addr} {len0 cap0 len1 cap1 x y : Nat} {w : World} (h0 : Num w a0 len0 cap0 x) (h1 : Num w a1 len1 cap1 y) (lx : (limbs x).length ≤ 20) (ly : (limbs y).length ≤ 20)
    (G : Hid (Calls Try.prog 10 #[.slice (some ⟨w.heap.size, 0, none⟩) 2 2] (w.alloc (.cells #[.slice a0 len0 cap0, .slice a1 len1 cap1] 23)) (GotV (w.alloc (.cells #[.slice a0 len0 cap0, .slice a1 len1 cap1] 23)) (.bool true))))
    (n : Int) (hc : len0 ≤ 10) (hd : len1 ≤ 10) (hn : n < 0) :
    Calls Try.prog 6 #[.slice a0 len0 cap0, .slice a1 len1 cap1, .int .i64 n] w fun e w' => e = .returned (.bool true) ∧ Below w.heap.size w w' := by
  go_enter Try.func6, Try.ntmps6
  go_wp2_with fail
  refine G.out.mono ?_
  rintro e w1 ⟨rfl, b1⟩
  have cc : Below w.heap.size w w1 := ((Below.refl _ w).alloc (Nat.le_refl _) _).trans (b1.mono (by simp))
  clear b1 G
  replace h0 := h0.on cc
  replace h1 := h1.on cc
  go_wp2_with fail
  refine (alive_any _).mono ?_
  rintro e w2 ⟨rfl, b⟩
  replace h0 := h0.on b
  replace h1 := h1.on b
  replace cc := cc.trans (b.mono cc.size)
  clear b
  go_wp2_with fail
  go_ret
  exact ⟨rfl, cc⟩

set_option maxRecDepth 100000 in
set_option maxHeartbeats 8000000 in
theorem DivBack_many {a0 a1 : Option Addr} {len0 cap0 len1 cap1 x y : Nat} {w : World} (h0 : Num w a0 len0 cap0 x) (h1 : Num w a1 len1 cap1 y) (lx : (limbs x).length ≤ 20) (ly : (limbs y).length ≤ 20)
    (G : Hid (Calls Try.prog 10 #[.slice (some ⟨w.heap.size, 0, none⟩) 2 2] (w.alloc (.cells #[.slice a0 len0 cap0, .slice a1 len1 cap1] 23)) (GotV (w.alloc (.cells #[.slice a0 len0 cap0, .slice a1 len1 cap1] 23)) (.bool true))))
    (n : Int) (hc : len0 ≤ 10) (hd : len1 ≤ 10) (hn : 2000 < n) :
    Calls Try.prog 6 #[.slice a0 len0 cap0, .slice a1 len1 cap1, .int .i64 n] w fun e w' => e = .returned (.bool true) ∧ Below w.heap.size w w' := by
  have hn0 : 0 ≤ n := by omega
  go_enter Try.func6, Try.ntmps6
  go_wp2_with fail
  refine G.out.mono ?_
  rintro e w1 ⟨rfl, b1⟩
  have cc : Below w.heap.size w w1 := ((Below.refl _ w).alloc (Nat.le_refl _) _).trans (b1.mono (by simp))
  clear b1 G
  replace h0 := h0.on cc
  replace h1 := h1.on cc
  go_wp2_with fail
  refine (alive_any _).mono ?_
  rintro e w2 ⟨rfl, b⟩
  replace h0 := h0.on b
  replace h1 := h1.on b
  replace cc := cc.trans (b.mono cc.size)
  clear b
  go_wp2_with fail
  go_ret
  exact ⟨rfl, cc⟩

theorem DivBack_walk {a0 a1 : Option Addr} {len0 cap0 len1 cap1 : Nat} {l0 l1 : List Nat} {w : World} (n : Int) (hl0 : Lim w.heap.size w a0 len0 cap0 l0) (hs0 : len0 ≤ 9223372036854775807) (hl1 : Lim w.heap.size w a1 len1 cap1 l1) (hs1 : len1 ≤ 9223372036854775807) :
    Calls Try.prog 6 #[.slice a0 len0 cap0, .slice a1 len1 cap1, .int .i64 n] w fun e w' => e = .returned (.bool true) ∧ Below w.heap.size w w' := by
  have hi0 : Arg.isIn ⟨a0, len0, cap0, l0⟩ w := ⟨hl0, hs0⟩
  have hi1 : Arg.isIn ⟨a1, len1, cap1, l1⟩ w := ⟨hl1, hs1⟩
  cases hr : (Arg.ok ⟨a0, len0, cap0, l0⟩ && Arg.ok ⟨a1, len1, cap1, l1⟩) with
  | false => exact DivBack_no _ (Lib.hid (given_two ⟨a0, len0, cap0, l0⟩ ⟨a1, len1, cap1, l1⟩ false w hi0 hi1 hr))
  | true =>
    have G := Lib.hid (given_two ⟨a0, len0, cap0, l0⟩ ⟨a1, len1, cap1, l1⟩ true w hi0 hi1 hr)
    rw [Bool.and_eq_true] at hr
    obtain ⟨k0, k1⟩ := hr
    have h0 := hl0.num (ok_parts k0).2
    have lx : (limbs (val l0)).length ≤ 20 := by rw [← h0.len]; exact (ok_parts k0).1
    have h1 := hl1.num (ok_parts k1).2
    have ly : (limbs (val l1)).length ≤ 20 := by rw [← h1.len]; exact (ok_parts k1).1
    generalize val l0 = x at h0 lx
    generalize val l1 = y at h1 ly
    by_cases hc : 10 < len0
    · exact DivBack_long h0 h1 lx ly G n hc
    · by_cases hd : 10 < len1
      · exact DivBack_wide h0 h1 lx ly G n (by omega) hd
      · rcases Int.lt_or_le n 0 with h | h
        · exact DivBack_neg h0 h1 lx ly G n (by omega) (by omega) h
        · by_cases h6 : 2000 < n
          · exact DivBack_many h0 h1 lx ly G n (by omega) (by omega) h6
          · obtain ⟨k, rfl⟩ : ∃ k : Nat, n = (k : Int) := ⟨n.toNat, by omega⟩
            by_cases hy : y = 0
            · exact DivBack_zero h0 h1 lx ly G k (by omega) (by omega) (by omega) hy
            · exact DivBack_yes h0 h1 lx ly G k (by omega) (by omega) (by omega) hy

end Go.Proofs.Ytogdckajgkncdaa
