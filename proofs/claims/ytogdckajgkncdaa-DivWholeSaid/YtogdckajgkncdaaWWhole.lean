/-
  The walk of DivWhole.
-/
import Derived.Test.YtogdckajgkncdaaLM
import Derived.Test.YtogdckajgkncdaaL
namespace Go.Proofs.Ytogdckajgkncdaa
open Go.RowKit
set_option linter.unusedVariables false

theorem rcmp_lt_N {w : World} {A B : Option Addr} {n c m d x y : Nat} (ha : Num w A n c x) (hb : Num w B m d y) (hx : (limbs x).length ≤ 2147483648) (hy : (limbs y).length ≤ 2147483648) (h : x < y) : Calls Try.prog 22 #[.slice A n c, .slice B m d] w (GotV w (.int .i64 (-1))) := by
  have := rcmp_N ha hb hx hy
  rwa [cmpN_lt h] at this

set_option maxHeartbeats 2000000 in
theorem DivWhole_no {a0 a1 : Option Addr} {len0 cap0 len1 cap1 : Nat} {w : World} (G : Hid (Calls Try.prog 10 #[.slice (some ⟨w.heap.size, 0, none⟩) 2 2] (w.alloc (.cells #[.slice a0 len0 cap0, .slice a1 len1 cap1] 23)) (GotV (w.alloc (.cells #[.slice a0 len0 cap0, .slice a1 len1 cap1] 23)) (.bool false)))) :
    Calls Try.prog 5 #[.slice a0 len0 cap0, .slice a1 len1 cap1] w fun e w' => e = .returned (.bool true) ∧ Below w.heap.size w w' := by
  go_enter Try.func5, Try.ntmps5
  go_wp2_with fail
  refine G.out.mono ?_
  rintro e w1 ⟨rfl, b1⟩
  go_wp2_with fail
  refine (alive_any _).mono ?_
  rintro e w2 ⟨rfl, b2⟩
  go_wp2_with fail
  go_ret
  exact ⟨rfl, ((Below.refl _ w).alloc (Nat.le_refl _) _).trans ((b1.trans (b2.mono b1.size)).mono (by simp))⟩

set_option maxRecDepth 100000 in
set_option maxHeartbeats 8000000 in
theorem DivWhole_yes {a0 a1 : Option Addr} {len0 cap0 len1 cap1 x y : Nat} {w : World} (h0 : Num w a0 len0 cap0 x) (h1 : Num w a1 len1 cap1 y) (lx : (limbs x).length ≤ 20) (ly : (limbs y).length ≤ 20)
    (G : Hid (Calls Try.prog 10 #[.slice (some ⟨w.heap.size, 0, none⟩) 2 2] (w.alloc (.cells #[.slice a0 len0 cap0, .slice a1 len1 cap1] 23)) (GotV (w.alloc (.cells #[.slice a0 len0 cap0, .slice a1 len1 cap1] 23)) (.bool true))))
    (hy : y ≠ 0) :
    Calls Try.prog 5 #[.slice a0 len0 cap0, .slice a1 len1 cap1] w fun e w' => e = .returned (.bool true) ∧ Below w.heap.size w w' := by
  have u1 : (limbs (x / y)).length ≤ 20 := len_quot _ lx
  have u2 : (limbs (x % y)).length ≤ 20 := len_rest hy ly
  have u3 : (limbs (x / y * y)).length ≤ 40 := limbs_length_mul u1 ly
  have u4 : (limbs (x / y * y + x % y)).length ≤ 20 := by rw [Nat.div_add_mod']; exact lx
  have u5 : 0 < len1 := h1.some_len hy
  have HY := Lib.hid hy
  clear hy
  go_enter Try.func5, Try.ntmps5
  go_wp2_with fail
  refine G.out.mono ?_
  rintro e w1 ⟨rfl, b1⟩
  have cc : Below w.heap.size w w1 := ((Below.refl _ w).alloc (Nat.le_refl _) _).trans (b1.mono (by simp))
  clear b1 G
  replace h0 := h0.on cc
  replace h1 := h1.on cc
  go_wp2_with fail
  refine (ddiv_N h0 h1 (by omega) (by omega) HY.out).mono ?_
  rintro e w2 ⟨A2, n2, c2, B2, m2, d2, rfl, q1, r1, b⟩
  replace h0 := h0.on b
  replace h1 := h1.on b
  replace cc := cc.trans (b.mono cc.size)
  clear b
  go_wp2_with fail
  refine (alive_any _).mono ?_
  rintro e w3 ⟨rfl, b⟩
  replace h0 := h0.on b
  replace h1 := h1.on b
  replace q1 := q1.on b
  replace r1 := r1.on b
  replace cc := cc.trans (b.mono cc.size)
  clear b
  go_wp2_with fail
  refine (rright_N q1 (by omega)).mono ?_
  rintro e w4 ⟨rfl, b⟩
  replace h0 := h0.on b
  replace h1 := h1.on b
  replace q1 := q1.on b
  replace r1 := r1.on b
  replace cc := cc.trans (b.mono cc.size)
  clear b
  go_wp2_with fail
  refine (rright_N r1 (by omega)).mono ?_
  rintro e w5 ⟨rfl, b⟩
  replace h0 := h0.on b
  replace h1 := h1.on b
  replace q1 := q1.on b
  replace r1 := r1.on b
  replace cc := cc.trans (b.mono cc.size)
  clear b
  go_wp2_with fail
  refine (rcmp_lt_N r1 h1 (by omega) (by omega) (Nat.mod_lt _ (by have := HY.out; omega))).mono ?_
  rintro e w6 ⟨rfl, b⟩
  replace h0 := h0.on b
  replace h1 := h1.on b
  replace q1 := q1.on b
  replace r1 := r1.on b
  replace cc := cc.trans (b.mono cc.size)
  clear b
  go_wp2_with fail
  refine (rmul_N q1 h1 (by omega) (by omega)).mono ?_
  rintro e w7 ⟨A7, n7, c7, rfl, p1, b⟩
  replace h0 := h0.on b
  replace h1 := h1.on b
  replace q1 := q1.on b
  replace r1 := r1.on b
  replace cc := cc.trans (b.mono cc.size)
  clear b
  go_wp2_with fail
  refine (radd_N p1 r1 (by omega) (by omega)).mono ?_
  rintro e w8 ⟨A8, n8, c8, rfl, s1, b⟩
  replace h0 := h0.on b
  replace h1 := h1.on b
  replace q1 := q1.on b
  replace r1 := r1.on b
  replace p1 := p1.on b
  replace cc := cc.trans (b.mono cc.size)
  clear b
  go_wp2_with fail
  refine (same_N s1 h0 (by omega) (by omega) (Nat.div_add_mod' _ _)).mono ?_
  rintro e w9 ⟨rfl, b⟩
  replace h0 := h0.on b
  replace h1 := h1.on b
  replace q1 := q1.on b
  replace r1 := r1.on b
  replace p1 := p1.on b
  replace s1 := s1.on b
  replace cc := cc.trans (b.mono cc.size)
  clear b
  go_wp2_with fail
  go_ret
  exact ⟨rfl, cc⟩

set_option maxRecDepth 100000 in
set_option maxHeartbeats 8000000 in
theorem DivWhole_zero {a0 a1 : Option Addr} {len0 cap0 len1 cap1 x y : Nat} {w : World} (h0 : Num w a0 len0 cap0 x) (h1 : Num w a1 len1 cap1 y) (lx : (limbs x).length ≤ 20) (ly : (limbs y).length ≤ 20)
    (G : Hid (Calls Try.prog 10 #[.slice (some ⟨w.heap.size, 0, none⟩) 2 2] (w.alloc (.cells #[.slice a0 len0 cap0, .slice a1 len1 cap1] 23)) (GotV (w.alloc (.cells #[.slice a0 len0 cap0, .slice a1 len1 cap1] 23)) (.bool true))))
    (hy : y = 0) :
    Calls Try.prog 5 #[.slice a0 len0 cap0, .slice a1 len1 cap1] w fun e w' => e = .returned (.bool true) ∧ Below w.heap.size w w' := by
  have u1 : len1 = 0 := by rw [hy] at h1; exact h1.nought
  subst u1
  clear hy
  go_enter Try.func5, Try.ntmps5
  go_wp2_with fail
  refine G.out.mono ?_
  rintro e w1 ⟨rfl, b1⟩
  have cc : Below w.heap.size w w1 := ((Below.refl _ w).alloc (Nat.le_refl _) _).trans (b1.mono (by simp))
  clear b1 G
  replace h0 := h0.on cc
  replace h1 := h1.on cc
  go_wp2_with fail
  refine (ddiv_zero _ _ h0 (by omega)).mono ?_
  rintro e w2 ⟨rfl, b⟩
  replace h0 := h0.on b
  replace h1 := h1.on b
  replace cc := cc.trans (b.mono cc.size)
  clear b
  go_wp2_with fail
  refine (alive_any _).mono ?_
  rintro e w3 ⟨rfl, b⟩
  replace h0 := h0.on b
  replace h1 := h1.on b
  replace cc := cc.trans (b.mono cc.size)
  clear b
  go_wp2_with fail
  go_ret
  exact ⟨rfl, cc⟩

theorem DivWhole_walk {a0 a1 : Option Addr} {len0 cap0 len1 cap1 : Nat} {l0 l1 : List Nat} {w : World} (hl0 : Lim w.heap.size w a0 len0 cap0 l0) (hs0 : len0 ≤ 9223372036854775807) (hl1 : Lim w.heap.size w a1 len1 cap1 l1) (hs1 : len1 ≤ 9223372036854775807) :
    Calls Try.prog 5 #[.slice a0 len0 cap0, .slice a1 len1 cap1] w fun e w' => e = .returned (.bool true) ∧ Below w.heap.size w w' := by
  have hi0 : Arg.isIn ⟨a0, len0, cap0, l0⟩ w := ⟨hl0, hs0⟩
  have hi1 : Arg.isIn ⟨a1, len1, cap1, l1⟩ w := ⟨hl1, hs1⟩
  cases hr : (Arg.ok ⟨a0, len0, cap0, l0⟩ && Arg.ok ⟨a1, len1, cap1, l1⟩) with
  | false => exact DivWhole_no (Lib.hid (given_two ⟨a0, len0, cap0, l0⟩ ⟨a1, len1, cap1, l1⟩ false w hi0 hi1 hr))
  | true =>
    have G := Lib.hid (given_two ⟨a0, len0, cap0, l0⟩ ⟨a1, len1, cap1, l1⟩ true w hi0 hi1 hr)
    rw [Bool.and_eq_true] at hr
    obtain ⟨k0, k1⟩ := hr
    have h0 := hl0.num (ok_parts k0).2
    have lx : (limbs (val l0)).length ≤ 20 := by rw [← h0.len]; exact (ok_parts k0).1
    have h1 := hl1.num (ok_parts k1).2
    have ly : (limbs (val l1)).length ≤ 20 := by rw [← h1.len]; exact (ok_parts k1).1
    generalize val l0 = x at h0 lx
    generalize val l1 = y at h1 ly
    by_cases hy : y = 0
    · exact DivWhole_zero h0 h1 lx ly G hy
    · exact DivWhole_yes h0 h1 lx ly G hy

end Go.Proofs.Ytogdckajgkncdaa
