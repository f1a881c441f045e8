/-
  Lengths of what is divided and shifted.
-/
import Derived.Test.YtogdckajgkncdaaL
namespace Go.Proofs.Ytogdckajgkncdaa
open Go.RowKit
set_option linter.unusedVariables false

theorem len_pow {k m : Nat} (h : k ≤ 64 * m) : (limbs (2 ^ k)).length ≤ m + 1 := by
  refine limbs_length_le (k := m + 1) ?_
  rw [B64_pow2]
  exact (Nat.pow_lt_pow_iff_right (by omega)).2 (by omega)
theorem len_up {x k m K : Nat} (hx : (limbs x).length ≤ K) (h : k ≤ 64 * m) : (limbs (x * 2 ^ k)).length ≤ K + (m + 1) := limbs_length_mul hx (len_pow h)
theorem len_quot {x K : Nat} (y : Nat) (hx : (limbs x).length ≤ K) : (limbs (x / y)).length ≤ K := Nat.le_trans (limbs_length_mono (Nat.div_le_self _ _)) hx
theorem len_rest {x y K : Nat} (h0 : y ≠ 0) (hy : (limbs y).length ≤ K) : (limbs (x % y)).length ≤ K := Nat.le_trans (limbs_length_mono (Nat.le_of_lt (Nat.mod_lt _ (by omega)))) hy
theorem len_gcd {x y K : Nat} (hx : (limbs x).length ≤ K) (hy : (limbs y).length ≤ K) : (limbs (Nat.gcd x y)).length ≤ K := by
  by_cases h : x = 0
  · rw [h, Nat.gcd_zero_left]; exact hy
  · exact Nat.le_trans (limbs_length_mono (Nat.gcd_le_left y (by omega))) hx
theorem len_nought : (limbs 0).length ≤ 0 := by rw [limbs_zero]; simp
theorem Num.nought {w : World} {A : Option Addr} {n c : Nat} (h : Num w A n c 0) : n = 0 := by
  have := h.len
  rwa [limbs_zero] at this
theorem Num.some_len {w : World} {A : Option Addr} {n c x : Nat} (h : Num w A n c x) (h0 : x ≠ 0) : 0 < n := by
  have := h.len
  have := limbs_ne_nil h0
  omega

end Go.Proofs.Ytogdckajgkncdaa
