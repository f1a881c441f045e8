/-
  The contract of nat.trim.
-/
import Derived.Test.YtogdckajgkncdaaLimb
namespace Go.Proofs.Ytogdckajgkncdaa
open Go.RowKit

theorem val_take_zero {l : List Nat} {k : Nat} (hz : l[k]?.getD 0 = 0) (h : val (l.take (k + 1)) = val l) : val (l.take k) = val l := by
  rw [val_take_succ, hz] at h
  simpa using h

theorem take_limbs {l : List Nat} (hd : Dig l) {k : Nat} (hk : k ≤ l.length) (hv : val (l.take k) = val l) (h : 0 < k → l[k - 1]?.getD 0 ≠ 0) : l.take k = limbs (val l) := by
  rw [← hv]
  refine eq_limbs (hd.take k) fun h0 => ?_
  rw [List.length_take, Nat.min_eq_left hk] at h0 ⊢
  obtain ⟨j, rfl⟩ : ∃ j, k = j + 1 := ⟨k - 1, by omega⟩
  rw [val_take_succ, Nat.add_sub_cancel]
  have h1 := h h0
  rw [Nat.add_sub_cancel] at h1
  have h2 : B64 ^ j * 1 ≤ B64 ^ j * l[j]?.getD 0 := Nat.mul_le_mul_left _ (by omega)
  omega

end Go.Proofs.Ytogdckajgkncdaa
