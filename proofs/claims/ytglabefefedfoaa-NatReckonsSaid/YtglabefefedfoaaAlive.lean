/-
  The contract of the law's 'alive': it answers true.
-/
import Derived.Test.YtglabefefedfoaaN
namespace Go.Proofs.Ytglabefefedfoaa
open Go.RowKit

theorem seven_lt : (7 : Nat) < B64 := by unfold B64; omega
theorem of_one (w : World) : Calls Try.prog 14 #[.int .u64 1] w (GotN w 1) := of_N w 1 B64_gt
theorem of_seven (w : World) : Calls Try.prog 14 #[.int .u64 7] w (GotN w 7) := of_N w 7 seven_lt
theorem small_seven {w : World} {A : Option Addr} {n c : Nat} (ha : Num w A n c 7) : Calls Try.prog 17 #[.slice A n c] w (GotV w (.tuple #[.int .u64 7, .bool true])) := small_N (x := 7) ha seven_lt
theorem top_digit (w : World) : Num (w.alloc (.cells #[.int .u64 18446744073709551615] 24)) (some ⟨w.heap.size, 0, none⟩) 1 1 (B64 - 1) := by
  obtain ⟨A, n, c, e, hl⟩ := isN_new (x := B64 - 1) (by have := B64_gt; omega) (by have := B64_gt; omega) w 24
  injection e with e1 e2 e3
  subst e1; subst e2; subst e3
  exact hl
theorem len_small {x k : Nat} (h : x < B64 ^ k) (hk : k ≤ 2147483648) : (limbs x).length ≤ 2147483648 := Nat.le_trans (limbs_length_le h) hk
theorem cmp_seven {w : World} {A B : Option Addr} {n c m d : Nat} (ha : Num w A n c B64) (hb : Num w B m d 7) : Calls Try.prog 19 #[.slice A n c, .slice B m d] w (GotV w (.int .i64 1)) := by
  have h := cmp_N ha hb (by rw [limbs_B64]; simp) (len_small (k := 1) (by unfold B64; omega) (by omega))
  rwa [cmpN_gt (by unfold B64; omega)] at h
theorem bits_B64 {w : World} {A : Option Addr} {n c : Nat} (ha : Num w A n c B64) : Calls Try.prog 21 #[.slice A n c] w (GotV w (.int .i64 65)) := by
  have h := bits_N ha (by rw [limbs_B64]; simp)
  rwa [blen_B64] at h

set_option maxRecDepth 100000 in
set_option maxHeartbeats 2000000 in
theorem alive_any (w : World) : Calls Try.prog 10 #[] w (GotV w (.bool true)) := by
  have ht := Lib.hid (top_digit w)
  go_enter Try.func10, Try.ntmps10
  go_wp2_with fail
  refine (of_one _).mono ?_
  rintro e w1 ⟨A1, n1, c1, rfl, h1, b1⟩
  have b1' : Below w.heap.size w w1 := ((Below.refl _ w).alloc (Nat.le_refl _) _).trans (b1.mono (by simp))
  go_wp2_with fail
  refine (add_N (ht.out.on b1) h1 (len_small (k := 1) (by rw [Nat.pow_one]; have := B64_pos; omega) (by omega)) (len_small (k := 1) (by rw [Nat.pow_one]; exact B64_gt) (by omega))).mono ?_
  rw [show B64 - 1 + 1 = B64 by have := B64_pos; omega]
  rintro e w2 ⟨A2, n2, c2, rfl, h2, b2⟩
  have b2' := b1'.trans (b2.mono b1'.size)
  have hn2 := h2.len
  rw [limbs_B64] at hn2
  simp at hn2
  subst hn2
  clear b1 b2 h1 ht
  go_wp2_with fail
  refine (of_seven _).mono ?_
  rintro e w3 ⟨A3, n3, c3, rfl, h3, b3⟩
  replace h2 := h2.on b3
  have b3' := b2'.trans (b3.mono b2'.size)
  clear b3 b2' b1'
  go_wp2_with fail
  refine (small_seven h3).mono ?_
  rintro e w4 ⟨rfl, b4⟩
  replace h2 := h2.on b4
  have b4' := b3'.trans (b4.mono b3'.size)
  clear b4 b3' h3
  obtain ⟨b, off, rfl, hb, hc⟩ := h2.2.2.2 (by omega)
  have hc0 := hc 0 (by omega)
  have hc1 := hc 1 (by omega)
  rw [limbs_B64] at hc0 hc1
  simp at hc0 hc1
  clear hc
  go_wp2_with fail
  refine (right_N h2 (by rw [limbs_B64]; simp)).mono ?_
  rintro e w5 ⟨rfl, b5⟩
  replace h2 := h2.on b5
  have b5' := b4'.trans (b5.mono b4'.size)
  clear b5 b4' hc0 hc1
  go_wp2_with fail
  refine (of_seven _).mono ?_
  rintro e w6 ⟨A6, n6, c6, rfl, h6, b6⟩
  replace h2 := h2.on b6
  have b6' := b5'.trans (b6.mono b5'.size)
  clear b6 b5'
  go_wp2_with fail
  refine (cmp_seven h2 h6).mono ?_
  rintro e w7 ⟨rfl, b7⟩
  replace h2 := h2.on b7
  have b7' := b6'.trans (b7.mono b6'.size)
  clear b7 b6' h6
  go_wp2_with fail
  refine (bits_B64 h2).mono ?_
  rintro e w8 ⟨rfl, b8⟩
  replace h2 := h2.on b8
  have b8' := b7'.trans (b8.mono b7'.size)
  clear b8 b7'
  go_wp2_with fail
  refine (mul_N h2 h2 (by rw [limbs_B64]; simp) (by rw [limbs_B64]; simp)).mono ?_
  rintro e w9 ⟨A9, n9, c9, rfl, h9, b9⟩
  have b9' := b8'.trans (b9.mono b8'.size)
  have hn9 := h9.len
  rw [limbs_B64_sq] at hn9
  simp at hn9
  subst hn9
  clear b9 b8' h2 h9
  go_wp2_with fail
  go_ret
  exact ⟨rfl, b9'⟩

end Go.Proofs.Ytglabefefedfoaa
