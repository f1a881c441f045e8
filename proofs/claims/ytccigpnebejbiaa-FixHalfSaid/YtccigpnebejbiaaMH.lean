/-
  How near is what fix tells: numbers alone.
-/
import Derived.Test.YtccigpnebejbiaaA9
import Derived.Test.YtccigpnebejbiaaFL
namespace Go.Proofs.Ytccigpnebejbiaa
open Go.RowKit
set_option linter.unusedVariables false
set_option linter.unusedSimpArgs false

theorem cq_le {a b : Rat} : cmpQ a b ≤ 0 ↔ a ≤ b := by unfold cmpQ; grind
theorem cq_pos {a b : Rat} : 0 < cmpQ a b ↔ b < a := by unfold cmpQ; grind
theorem absQ_ge (x : Rat) : x ≤ absQ x ∧ -x ≤ absQ x := by unfold absQ; split <;> grind
theorem bak_two (k : Nat) : bak 1 (k + 1) + bak 1 (k + 1) = bak 1 k := by
  have h1 := bak_mul 1 (k + 1)
  have h2 := bak_mul 1 k
  have h3 : dw (k + 1) = dw k + dw k := by
    have e1 : dw 1 = 1 + 1 := (by decide +kernel)
    rw [dw_add, e1]; grind
  refine dw_cancel (k := k) ?_
  rw [h3] at h1
  grind
theorem within_math {x : Rat} {k : Nat} {z : Int} (h : nea x k = z) : cmpQ (absQ (bak z k - x)) (bak 1 (k + 1)) ≤ 0 := by
  have h1 := (near_half x k).1
  rw [h, ← bak_two k] at h1
  have h2 : absQ (bak z k - x) + absQ (bak z k - x) ≤ bak 1 (k + 1) + bak 1 (k + 1) := cq_le.1 h1
  refine cq_le.2 ?_
  grind
theorem bak_quot {a b : Int} (k : Nat) (hb : b ≠ 0) : bak a k / bak b k = ((a : Int) : Rat) / ((b : Int) : Rat) := by
  have h1 := bak_mul a k
  have h2 := bak_mul b k
  have h3 := dw_pos k
  have h4 : ((b : Int) : Rat) ≠ 0 := fun h => hb (Rat.intCast_eq_zero_iff.1 h)
  have h5 : bak b k ≠ 0 := fun h => by rw [h, Rat.zero_mul] at h2; exact h4 h2.symm
  rw [← h1, ← h2]
  grind
theorem nr_in {A : Rat} (h1 : -((9223372036854775807 : Int) : Rat) ≤ A) (h2 : A ≤ ((9223372036854775807 : Int) : Rat)) : I64 (nr A) := by
  have a1 := nr_mono h1
  have a2 := nr_mono h2
  rw [nr_neg, nr_int] at a1
  rw [nr_int] at a2
  unfold I64; omega
theorem over_math {x : Rat} {k : Nat} (h : ¬ I64 (nea x k)) : 0 < cmpQ (absQ x) (bak 9223372036854775807 k) := by
  refine cq_pos.2 ?_
  refine Rat.not_le.1 fun hle => h ?_
  have h0 := bak_mul 9223372036854775807 k
  have h3 := dw_pos k
  have h4 : absQ x * dw k ≤ ((9223372036854775807 : Int) : Rat) := by rw [← h0]; exact Rat.mul_le_mul_of_nonneg_right hle (Rat.le_of_lt h3)
  have h5 : x ≤ absQ x ∧ -x ≤ absQ x := absQ_ge x
  have h6 : x * dw k ≤ absQ x * dw k := Rat.mul_le_mul_of_nonneg_right h5.1 (Rat.le_of_lt h3)
  have h7 : -x * dw k ≤ absQ x * dw k := Rat.mul_le_mul_of_nonneg_right h5.2 (Rat.le_of_lt h3)
  unfold nea
  refine nr_in ?_ (Rat.le_trans h6 h4)
  rw [Rat.neg_mul] at h7
  have := Rat.le_trans h7 h4
  grind

end Go.Proofs.Ytccigpnebejbiaa
