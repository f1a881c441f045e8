/-
  A step is at most half a step from what is exact; numbers alone.
-/
import Derived.Test.YtckdbcngnghhiaaA8
import Derived.Test.YtckdbcngnghhiaaA4
namespace Go.Proofs.Ytckdbcngnghhiaa
set_option linter.unusedVariables false
set_option linter.unusedSimpArgs false

theorem absQ_parts17 (x : Rat) : (absQ x).num = ((x.num.natAbs : Nat) : Int) ∧ (absQ x).den = x.den := by
  have h : x < 0 ↔ x.num < 0 := by
    rw [Rat.lt_iff]
    show x.num * ((1 : Nat) : Int) < 0 * (x.den : Int) ↔ _
    omega
  unfold absQ
  by_cases hx : x.num < 0
  · rw [if_pos (h.2 hx), Rat.neg_num, Rat.neg_den]; exact ⟨by omega, rfl⟩
  · rw [if_neg (fun a => hx (h.1 a))]; exact ⟨by omega, rfl⟩
theorem absQ_sz17 {x : Rat} {k : Nat} (h : Sz x k) : Sz (absQ x) k := by
  obtain ⟨a, b⟩ := absQ_parts17 x
  exact ⟨by rw [a, Int.natAbs_natCast]; exact h.1, by rw [b]; exact h.2⟩
theorem dw_pos17 (k : Nat) : (0 : Rat) < dw k := nat_pos_rat (two_ne k)
/-- Twice how far two numbers are apart, by how far they are so many times greater. -/
theorem near_by {X Y d t : Rat} (hd : 0 < d) (hX : X * d = t) (hY : Y * d = 1) (h1 : t + t ≤ 1) (h2 : -t + -t ≤ 1) : absQ X + absQ X ≤ Y := by
  have key : ∀ Z : Rat, Z * d + Z * d ≤ 1 → Z + Z ≤ Y := fun Z hZ => by
    rcases (Rat.le_total : Z + Z ≤ Y ∨ Y ≤ Z + Z) with h | h
    · exact h
    · by_cases e : Z + Z = Y
      · rw [e]; exact Rat.le_refl
      · have hp : 0 < Z + Z - Y := by grind
        have hq := Rat.mul_pos hp hd
        grind
  unfold absQ
  split
  · exact key _ (by grind)
  · exact key _ (by grind)
section
variable (a b c : Int) (f : Nat)
/-- A product, by its own number. -/
theorem prod_by : bak a f * bak b f * dw f = mkRat (a * b) (2 ^ f) := by
  have h1 := bak_mul a f
  have h2 := bak_mul b f
  have h3 := mk_times (a * b) (2 ^ f) (two_ne f)
  have hd := dw_pos17 f
  have e : (((2 ^ f : Nat) : Nat) : Rat) = dw f := rfl
  rw [e, Rat.intCast_mul] at h3
  have hz : bak a f * bak b f * dw f * dw f = mkRat (a * b) (2 ^ f) * dw f := by grind
  have hne : dw f ≠ 0 := by grind
  grind
theorem near_sum17 : absQ (bak (rn (a * b) (2 ^ f) + c) f - (bak a f * bak b f + bak c f)) + absQ (bak (rn (a * b) (2 ^ f) + c) f - (bak a f * bak b f + bak c f)) ≤ bak 1 f := by
  obtain ⟨h1, h2, _⟩ := nr_half (mkRat (a * b) (2 ^ f))
  have p := prod_by a b f
  have q1 := bak_mul (rn (a * b) (2 ^ f) + c) f
  have q2 := bak_mul c f
  rw [Rat.intCast_add] at q1
  refine near_by (t := (nr (mkRat (a * b) (2 ^ f)) : Rat) - mkRat (a * b) (2 ^ f)) (dw_pos17 f) ?_ (bak_one f) h1 (by grind)
  have e : rn (a * b) (2 ^ f) = nr (mkRat (a * b) (2 ^ f)) := rfl
  rw [e] at q1 ⊢
  grind
theorem near_less17 : absQ (bak (c - rn (a * b) (2 ^ f)) f - (bak c f - bak a f * bak b f)) + absQ (bak (c - rn (a * b) (2 ^ f)) f - (bak c f - bak a f * bak b f)) ≤ bak 1 f := by
  obtain ⟨h1, h2, _⟩ := nr_half (mkRat (a * b) (2 ^ f))
  have p := prod_by a b f
  have q1 := bak_mul (c - rn (a * b) (2 ^ f)) f
  have q2 := bak_mul c f
  rw [Rat.intCast_sub] at q1
  refine near_by (t := mkRat (a * b) (2 ^ f) - (nr (mkRat (a * b) (2 ^ f)) : Rat)) (dw_pos17 f) ?_ (bak_one f) h2 (by grind)
  have e : rn (a * b) (2 ^ f) = nr (mkRat (a * b) (2 ^ f)) := rfl
  rw [e] at q1 ⊢
  grind
end
end Go.Proofs.Ytckdbcngnghhiaa
