/-
  Several texts in one: MathY, F6, F7, DX, M8, F8, K8, M11, C10, D10, B11, FrK, KB, FrT, KS, H7, H8, K9, B12, E11, J11a, J1.
-/
import Derived.Test.YtpidpebgeblenaaA2
import Derived.Test.YtpidpebgeblenaaA3
import Derived.Test.YtpidpebgeblenaaA1
import Derived.Deep.Slices
import Derived.Deep.Strs
import Derived.Lib.BytesEntry
import Derived.Lib.SliceRun
import Derived.Laws.Externs
import Derived.Laws.BytesArg
import Derived.RangeFuncNested
import Derived.RangeFuncBox
import Derived.RangeFuncBound
import Derived.RangeFuncCalls
import Derived.RangeFuncLeaves
import Derived.Shelf.Abstract
import Derived.Shelf.RegionOpen
import Derived.WalkKit
import Derived.WalkSpells
import Derived.OwnWalkIn
import Derived.TacticsInMore
import Derived.LoopNIn
import Derived.LoopIn
import Derived.Maps.AppendAt
import Derived.Lib.Hide

/-
  Rationals on a grid: rounded down, up, to the nearest; a multiple's number.
-/
namespace Go.Proofs.Ytpidpebgeblenaa
set_option linter.unusedSimpArgs false

theorem cmpQ_scale (a b c : Rat) (h : 0 < c) : cmpQ (a * c) (b * c) = cmpQ a b := by
  have e1 : (a * c < b * c) ↔ a < b := by
    constructor
    · intro h1; exact Rat.lt_of_mul_lt_mul_right h1 (Rat.le_of_lt h)
    · intro h1; exact Rat.mul_lt_mul_of_pos_right h1 h
  have e2 : (b * c < a * c) ↔ b < a := by
    constructor
    · intro h1; exact Rat.lt_of_mul_lt_mul_right h1 (Rat.le_of_lt h)
    · intro h1; exact Rat.mul_lt_mul_of_pos_right h1 h
  unfold cmpQ; simp only [e1, e2]
/-- To the nearest whole number, of two as near the even one. -/
def nr (A : Rat) : Int := if A - (A.floor : Rat) < ((-(-A).floor : Int) : Rat) - A ∨ (A - (A.floor : Rat) = ((-(-A).floor : Int) : Rat) - A ∧ A.floor % 2 = 0) then A.floor else -(-A).floor
theorem fl_le (A : Rat) : (A.floor : Rat) ≤ A := Rat.floor_le A
theorem fl_lt (A : Rat) : A < (A.floor : Rat) + 1 := by
  have := Rat.lt_floor_add_one A
  rw [Rat.intCast_add] at this; exact this
theorem fl_eq {A : Rat} {n : Int} (h1 : (n : Rat) ≤ A) (h2 : A < (n : Rat) + 1) : A.floor = n := by
  have a1 := Rat.le_floor_iff.2 h1
  have a2 : A.floor < n + 1 := Rat.floor_lt_iff.2 (by rw [Rat.intCast_add]; exact h2)
  omega
theorem up_ge (A : Rat) : A ≤ ((-(-A).floor : Int) : Rat) := by
  have := fl_le (-A); rw [Rat.intCast_neg]; grind
theorem up_lt (A : Rat) : ((-(-A).floor : Int) : Rat) < A + 1 := by
  have := fl_lt (-A); rw [Rat.intCast_neg]; grind
theorem up_cases (A : Rat) : (-(-A).floor = A.floor ∧ A = (A.floor : Rat)) ∨ (-(-A).floor = A.floor + 1 ∧ (A.floor : Rat) < A) := by
  have h1 := fl_le A
  have h2 := fl_lt A
  have h3 := up_ge A
  have h4 := up_lt A
  rcases Classical.em ((A.floor : Rat) < A) with h | h
  · right
    refine ⟨?_, h⟩
    have : (-A).floor = -(A.floor + 1) := by
      apply fl_eq
      · rw [Rat.intCast_neg, Rat.intCast_add]; grind
      · rw [Rat.intCast_neg, Rat.intCast_add]; grind
    omega
  · left
    have h' : A = (A.floor : Rat) := by grind
    refine ⟨?_, h'⟩
    have : (-A).floor = -A.floor := by
      apply fl_eq
      · rw [Rat.intCast_neg]; grind
      · rw [Rat.intCast_neg]; grind
    omega
/-- n is at most half a step away, and even, if it is just that. -/
def NrHalf (A : Rat) (n : Int) : Prop := (n : Rat) - A + ((n : Rat) - A) ≤ 1 ∧ A - (n : Rat) + (A - (n : Rat)) ≤ 1 ∧ (((n : Rat) - A + ((n : Rat) - A) = 1 ∨ A - (n : Rat) + (A - (n : Rat)) = 1) → n % 2 = 0)
theorem nr_half (A : Rat) : NrHalf A (nr A) := by
  have f1 := fl_le A
  have f2 := fl_lt A
  unfold nr NrHalf
  rcases up_cases A with ⟨h1, h2⟩ | ⟨h1, h2⟩
  · have e : (if A - (A.floor : Rat) < ((-(-A).floor : Int) : Rat) - A ∨ (A - (A.floor : Rat) = ((-(-A).floor : Int) : Rat) - A ∧ A.floor % 2 = 0) then A.floor else -(-A).floor) = A.floor := by rw [h1]; split <;> rfl
    rw [e]
    refine ⟨by grind, by grind, ?_⟩
    intro h; exfalso; grind
  · rw [h1, Rat.intCast_add]
    have e : ((1 : Int) : Rat) = 1 := rfl
    rw [e]
    by_cases hc : A - (A.floor : Rat) < (A.floor : Rat) + 1 - A ∨ (A - (A.floor : Rat) = (A.floor : Rat) + 1 - A ∧ A.floor % 2 = 0)
    · rw [if_pos hc]
      refine ⟨by grind, by grind, ?_⟩
      intro h
      rcases hc with hc | ⟨_, hc⟩
      · exfalso; grind
      · exact hc
    · rw [if_neg hc, Rat.intCast_add, e]
      have hn : ¬ A - (A.floor : Rat) < (A.floor : Rat) + 1 - A := fun x => hc (.inl x)
      refine ⟨by grind, by grind, ?_⟩
      intro h
      have h4 : A.floor % 2 ≠ 0 := fun x => by
        rcases h with h | h
        · exact hc (.inr ⟨by grind, x⟩)
        · grind
      omega
theorem half_unique {A : Rat} {n m : Int} (h : NrHalf A n) (g : NrHalf A m) : n = m := by
  obtain ⟨h1, h2, h3⟩ := h
  obtain ⟨g1, g2, g3⟩ := g
  have o : ((1 : Int) : Rat) = 1 := rfl
  have k1 : ((m : Int) : Rat) ≤ ((n + 1 : Int) : Rat) := by rw [Rat.intCast_add, o]; grind
  have k2 : ((n : Int) : Rat) ≤ ((m + 1 : Int) : Rat) := by rw [Rat.intCast_add, o]; grind
  rw [Rat.intCast_le_intCast] at k1 k2
  have : n = m ∨ m = n + 1 ∨ n = m + 1 := by omega
  rcases this with h | h | h
  · exact h
  · exfalso
    have e : ((m : Int) : Rat) = (n : Rat) + 1 := by rw [h, Rat.intCast_add, o]
    have b1 := g3 (.inl (by grind))
    have b2 := h3 (.inr (by grind))
    omega
  · exfalso
    have e : ((n : Int) : Rat) = (m : Rat) + 1 := by rw [h, Rat.intCast_add, o]
    have b1 := g3 (.inr (by grind))
    have b2 := h3 (.inl (by grind))
    omega
theorem nr_unique {A : Rat} {n : Int} (h : NrHalf A n) : nr A = n := half_unique (nr_half A) h
theorem nr_neg (A : Rat) : nr (-A) = -nr A := by
  obtain ⟨g1, g2, g3⟩ := nr_half A
  apply nr_unique
  unfold NrHalf
  rw [Rat.intCast_neg]
  refine ⟨by grind, by grind, ?_⟩
  intro h
  have : nr A % 2 = 0 := g3 (by grind)
  omega
theorem nr_int (n : Int) : nr (n : Rat) = n := by
  apply nr_unique
  unfold NrHalf
  refine ⟨by grind, by grind, ?_⟩
  intro h; exfalso; grind
theorem nr_mono {A B : Rat} (h : A ≤ B) : nr A ≤ nr B := by
  obtain ⟨g1, g2, g3⟩ := nr_half A
  obtain ⟨f1, f2, f3⟩ := nr_half B
  rcases Int.lt_or_le (nr B) (nr A) with h1 | h1
  · exfalso
    have k : ((nr B + 1 : Int) : Rat) ≤ ((nr A : Int) : Rat) := Rat.intCast_le_intCast.2 (by omega)
    rw [Rat.intCast_add] at k
    have e1 : ((1 : Int) : Rat) = 1 := rfl
    rw [e1] at k
    have b1 := g3 (.inl (by grind))
    have b2 := f3 (.inr (by grind))
    have k2 : ((nr A : Int) : Rat) = ((nr B + 1 : Int) : Rat) := by rw [Rat.intCast_add, e1]; grind
    have := Rat.intCast_inj.1 k2
    omega
  · exact h1
theorem nr_one (A : Rat) : nr A = A.floor ∨ nr A = -(-A).floor := by unfold nr; split <;> simp
/-- 2 to the power of k. -/
def dw (k : Nat) : Rat := ((2 ^ k : Nat) : Rat)
theorem dw_pos (k : Nat) : 0 < dw k := by
  unfold dw
  have : 0 < 2 ^ k := Nat.pow_pos (by omega)
  exact Rat.natCast_pos.2 this
theorem dw_add (k n : Nat) : dw (k + n) = dw k * dw n := by
  unfold dw
  rw [Nat.pow_add, Rat.natCast_mul]
def flo (a : Rat) (k : Nat) : Int := (a * dw k).floor
def cei (a : Rat) (k : Nat) : Int := -flo (-a) k
def nea (a : Rat) (k : Nat) : Int := nr (a * dw k)
def bak (n : Int) (k : Nat) : Rat := mkRat n (2 ^ k)
theorem bak_mul (n : Int) (k : Nat) : bak n k * dw k = (n : Rat) := by
  unfold bak dw
  have h : (2 ^ k : Nat) ≠ 0 := Nat.ne_of_gt (Nat.pow_pos (by omega))
  have h2 : ((2 ^ k : Nat) : Rat) = mkRat ((2 ^ k : Nat) : Int) 1 := by rw [Rat.mkRat_one]; rfl
  have h3 : (n : Rat) = mkRat n 1 := by rw [Rat.mkRat_one]
  rw [h2, h3, Rat.mkRat_mul_mkRat, Rat.mkRat_eq_iff (by omega) (by omega)]
  simp
theorem bak_eq (n : Int) (k : Nat) : bak n k = (n : Rat) / dw k := by
  have h := bak_mul n k
  have := dw_pos k
  grind
theorem dw_cancel {a b : Rat} {k : Nat} (h : a * dw k = b * dw k) : a = b := by
  have := dw_pos k
  have h0 : dw k ≠ 0 := by grind
  grind
theorem floor_mk (p : Int) (q : Nat) (hq : q ≠ 0) : (mkRat p q).floor = p / (q : Int) := by
  have h0 : (0 : Int) < q := by omega
  have hm : mkRat p q * (q : Rat) = (p : Rat) := by
    have h2 : ((q : Nat) : Rat) = mkRat ((q : Nat) : Int) 1 := by rw [Rat.mkRat_one]; rfl
    have h3 : (p : Rat) = mkRat p 1 := by rw [Rat.mkRat_one]
    rw [h2, h3, Rat.mkRat_mul_mkRat, Rat.mkRat_eq_iff (by omega) (by omega)]
    simp
  have hqp : (0 : Rat) < (q : Rat) := Rat.natCast_pos.2 (by omega)
  have e : ((q : Int) : Rat) = (q : Rat) := rfl
  apply fl_eq
  · have h1 : p / (q : Int) * (q : Int) ≤ p := Int.ediv_mul_le _ (by omega)
    have h2 : ((p / (q : Int) * (q : Int) : Int) : Rat) ≤ (p : Rat) := Rat.intCast_le_intCast.2 h1
    rw [Rat.intCast_mul, e, ← hm] at h2
    exact Rat.le_of_mul_le_mul_right h2 hqp
  · have h1 : p < (p / (q : Int) + 1) * (q : Int) := Int.lt_ediv_add_one_mul_self _ h0
    have h2 : (p : Rat) < (((p / (q : Int) + 1) * (q : Int) : Int) : Rat) := Rat.intCast_lt_intCast.2 h1
    rw [Rat.intCast_mul, Rat.intCast_add, e, ← hm] at h2
    exact Rat.lt_of_mul_lt_mul_right h2 (Rat.le_of_lt hqp)
theorem flo_ediv (a : Rat) (k : Nat) : flo a k = a.num * ((2 ^ k : Nat) : Int) / (a.den : Int) := by
  unfold flo dw
  have h2 : ((2 ^ k : Nat) : Rat) = mkRat ((2 ^ k : Nat) : Int) 1 := by rw [Rat.mkRat_one]; rfl
  have h3 : a * mkRat ((2 ^ k : Nat) : Int) 1 = mkRat (a.num * ((2 ^ k : Nat) : Int)) a.den := by
    conv => lhs; rw [← Rat.mkRat_self a]
    rw [Rat.mkRat_mul_mkRat, Nat.mul_one]
  rw [h2, h3, floor_mk _ _ a.den_nz]
/-- As the document's answer reckons it: of the size, and the side put on. -/
theorem flo_pos (a : Rat) (k : Nat) (h : ¬ a.num < 0) : flo a k = ((a.num.natAbs * 2 ^ k / a.den : Nat) : Int) := by
  rw [flo_ediv]
  have e : a.num = (a.num.natAbs : Int) := by omega
  conv => lhs; rw [e]
  rw [← Int.natCast_mul, ← Int.natCast_ediv]
theorem flo_neg (a : Rat) (k : Nat) (h : a.num < 0) : flo a k = -((a.num.natAbs * 2 ^ k / a.den + (if a.num.natAbs * 2 ^ k % a.den = 0 then 0 else 1) : Nat) : Int) := by
  rw [flo_ediv]
  have e : a.num = -(a.num.natAbs : Int) := by omega
  conv => lhs; rw [e]
  have hd : 0 < a.den := Nat.pos_of_ne_zero a.den_nz
  generalize a.den = d at hd ⊢
  rw [Int.neg_mul, ← Int.natCast_mul]
  generalize a.num.natAbs * 2 ^ k = x
  have h1 := Nat.div_add_mod x d
  have h2 := Nat.mod_lt x hd
  generalize x / d = q at h1 ⊢
  generalize x % d = r at h1 h2 ⊢
  subst h1
  split
  · next h0 =>
    subst h0
    simp only [Nat.add_zero]
    rw [Int.natCast_mul, show -((d : Int) * (q : Int)) = (d : Int) * (-(q : Int)) by rw [Int.mul_neg], Int.mul_ediv_cancel_left _ (by omega)]
  · next h0 =>
    have : -((d * q + r : Nat) : Int) = ((d : Int) - (r : Int)) + (d : Int) * (-((q + 1 : Nat) : Int)) := by
      simp only [Int.natCast_add, Int.natCast_mul, Int.mul_neg, Int.mul_add]; omega
    rw [this, Int.add_mul_ediv_left _ _ (by omega), Int.ediv_eq_zero_of_lt (by omega) (by omega)]
    omega
theorem cei_up (a : Rat) (k : Nat) : cei a k = -(-(a * dw k)).floor := by
  unfold cei flo; rw [Rat.neg_mul]
/-- How the document's answer takes the nearest: by which of both is nearer. -/
theorem nea_by (a : Rat) (k : Nat) : nea a k = if cmpQ (a - bak (flo a k) k) (bak (cei a k) k - a) < 0 ∨ (cmpQ (a - bak (flo a k) k) (bak (cei a k) k - a) = 0 ∧ flo a k % 2 = 0) then flo a k else cei a k := by
  have hp := dw_pos k
  rw [← cmpQ_scale _ _ _ hp]
  have e1 : (a - bak (flo a k) k) * dw k = a * dw k - (flo a k : Rat) := by rw [← bak_mul (flo a k) k]; grind
  have e2 : (bak (cei a k) k - a) * dw k = (cei a k : Rat) - a * dw k := by rw [← bak_mul (cei a k) k]; grind
  rw [e1, e2, cei_up]
  unfold nea nr flo cmpQ
  generalize a * dw k = A
  generalize -(-A).floor = hi
  generalize A.floor = lo
  by_cases h1 : A - (lo : Rat) < (hi : Rat) - A
  · simp [h1]
  · by_cases h2 : (hi : Rat) - A < A - (lo : Rat)
    · have h3 : ¬ (A - (lo : Rat) = (hi : Rat) - A) := by grind
      simp [h1, h2, h3]
    · have h3 : A - (lo : Rat) = (hi : Rat) - A := by grind
      simp [h1, h2, h3]
theorem bak_one (k : Nat) : bak 1 k * dw k = 1 := by rw [bak_mul]; rfl
theorem low_le (a : Rat) (k : Nat) : cmpQ (bak (flo a k) k) a ≤ 0 := by
  rw [← cmpQ_scale _ _ _ (dw_pos k), bak_mul]
  have := fl_le (a * dw k)
  unfold flo cmpQ; grind
theorem high_ge (a : Rat) (k : Nat) : cmpQ a (bak (cei a k) k) ≤ 0 := by
  rw [← cmpQ_scale _ _ _ (dw_pos k), bak_mul, cei_up]
  have := up_ge (a * dw k)
  unfold cmpQ; grind
theorem on_both (a : Rat) (k : Nat) : (bak (flo a k) k = a ↔ bak (cei a k) k = a) ∧ (bak (flo a k) k ≠ a → bak (cei a k) k - bak (flo a k) k = bak 1 k) := by
  have hp := dw_pos k
  have h1 : bak (flo a k) k = a ↔ ((flo a k : Int) : Rat) = a * dw k := by
    rw [← bak_mul (flo a k) k]; constructor
    · intro h; rw [h]
    · intro h; exact dw_cancel h
  have h2 : bak (cei a k) k = a ↔ ((cei a k : Int) : Rat) = a * dw k := by
    rw [← bak_mul (cei a k) k]; constructor
    · intro h; rw [h]
    · intro h; exact dw_cancel h
  rw [h1, h2, cei_up]
  have hc := up_cases (a * dw k)
  unfold flo at *
  have o : ((1 : Int) : Rat) = 1 := rfl
  rcases hc with ⟨c1, c2⟩ | ⟨c1, c2⟩
  · rw [c1]
    refine ⟨Iff.rfl, fun h => absurd (h1.2 c2.symm) h⟩
  · refine ⟨⟨fun h => by exfalso; grind, fun h => ?_⟩, fun h => ?_⟩
    · exfalso
      have u := up_lt (a * dw k)
      have f := fl_lt (a * dw k)
      rw [c1, Rat.intCast_add, o] at h
      grind
    · apply dw_cancel (k := k)
      rw [bak_one]
      have e := bak_mul (-(-(a * dw k)).floor) k
      have e' := bak_mul ((a * dw k).floor) k
      rw [c1, Rat.intCast_add, o] at e
      rw [c1]
      grind
theorem nea_one (a : Rat) (k : Nat) : nea a k = flo a k ∨ nea a k = cei a k := by rw [cei_up]; exact nr_one _
def absQ (x : Rat) : Rat := if x < 0 then -x else x
theorem near_half (a : Rat) (k : Nat) : cmpQ (absQ (bak (nea a k) k - a) + absQ (bak (nea a k) k - a)) (bak 1 k) ≤ 0 ∧ (absQ (bak (nea a k) k - a) + absQ (bak (nea a k) k - a) = bak 1 k → nea a k % 2 = 0) := by
  have hp := dw_pos k
  obtain ⟨h1, h2, h3⟩ := nr_half (a * dw k)
  have e : ∀ x : Rat, absQ x * dw k = absQ (x * dw k) := by
    intro x
    unfold absQ
    by_cases hx : x < 0
    · have : x * dw k < 0 := by
        have := Rat.mul_lt_mul_of_pos_right hx hp
        rwa [Rat.zero_mul] at this
      rw [if_pos hx, if_pos this, Rat.neg_mul]
    · have : ¬ x * dw k < 0 := by
        have h0 : 0 ≤ x := by grind
        have := Rat.mul_nonneg h0 (Rat.le_of_lt hp)
        grind
      rw [if_neg hx, if_neg this]
  have e2 : (bak (nea a k) k - a) * dw k = (nea a k : Rat) - a * dw k := by rw [← bak_mul (nea a k) k]; grind
  have e3 : (absQ (bak (nea a k) k - a) + absQ (bak (nea a k) k - a)) * dw k = absQ ((nea a k : Rat) - a * dw k) + absQ ((nea a k : Rat) - a * dw k) := by rw [Rat.add_mul, e, e2]
  refine ⟨?_, fun h => ?_⟩
  · rw [← cmpQ_scale _ _ _ hp, e3, bak_one]
    unfold nea absQ cmpQ
    grind
  · have h4 : (absQ (bak (nea a k) k - a) + absQ (bak (nea a k) k - a)) * dw k = bak 1 k * dw k := by rw [h]
    rw [e3, bak_one] at h4
    unfold nea at *
    apply h3
    unfold absQ at h4
    grind
theorem flo_mono {a b : Rat} (k : Nat) (h : a ≤ b) : flo a k ≤ flo b k := Rat.floor_monotone (Rat.mul_le_mul_of_nonneg_right h (Rat.le_of_lt (dw_pos k)))
theorem cei_mono {a b : Rat} (k : Nat) (h : a ≤ b) : cei a k ≤ cei b k := by
  have : flo (-b) k ≤ flo (-a) k := flo_mono k (by grind)
  unfold cei; omega
theorem nea_mono {a b : Rat} (k : Nat) (h : a ≤ b) : nea a k ≤ nea b k := nr_mono (Rat.mul_le_mul_of_nonneg_right h (Rat.le_of_lt (dw_pos k)))
theorem cei_neg (a : Rat) (k : Nat) : cei (-a) k = -flo a k := by unfold cei; rw [Rat.neg_neg]
theorem nea_neg (a : Rat) (k : Nat) : nea (-a) k = -nea a k := by unfold nea; rw [Rat.neg_mul, nr_neg]
theorem flo_bak (n : Int) (k : Nat) : flo (bak n k) k = n := by unfold flo; rw [bak_mul, Rat.floor_intCast]
theorem bak_neg (n : Int) (k : Nat) : -bak n k = bak (-n) k := by
  apply dw_cancel (k := k)
  rw [Rat.neg_mul, bak_mul, bak_mul, Rat.intCast_neg]
theorem cei_bak (n : Int) (k : Nat) : cei (bak n k) k = n := by unfold cei; rw [bak_neg, flo_bak]; omega
theorem nea_bak (n : Int) (k : Nat) : nea (bak n k) k = n := by unfold nea; rw [bak_mul, nr_int]
theorem nea_fine (n : Int) (k : Nat) : nea (bak n k) (k + 1) = n + n := by
  unfold nea
  rw [dw_add, ← Rat.mul_assoc, bak_mul, show (n : Rat) * dw 1 = ((n + n : Int) : Rat) by rw [Rat.intCast_add]; unfold dw; grind, nr_int]
theorem flo_add (a b : Rat) (k : Nat) : flo a k + flo b k ≤ flo (a + b) k ∧ flo (a + b) k ≤ flo a k + flo b k + 1 := by
  unfold flo
  rw [Rat.add_mul]
  generalize a * dw k = A
  generalize b * dw k = B
  have f1 := fl_le A
  have f2 := fl_lt A
  have f3 := fl_le B
  have f4 := fl_lt B
  have o : ((1 : Int) : Rat) = 1 := rfl
  refine ⟨Rat.le_floor_iff.2 (by rw [Rat.intCast_add]; grind), ?_⟩
  have : (A + B).floor < A.floor + B.floor + 1 + 1 := Rat.floor_lt_iff.2 (by rw [Rat.intCast_add, Rat.intCast_add, Rat.intCast_add, o]; grind)
  omega
theorem flo_shift (a : Rat) (n : Int) (k : Nat) : flo (a + bak n k) k = flo a k + n := by
  unfold flo
  rw [Rat.add_mul, bak_mul, Rat.floor_add_intCast]
theorem flo_finer (a : Rat) (k n : Nat) : flo (bak (flo a (k + n)) (k + n)) k = flo a k := by
  have hb := bak_mul (flo a (k + n)) (k + n)
  have hp := dw_pos n
  have hl := fl_le (a * dw (k + n))
  have hm : ∀ m : Int, (m : Rat) ≤ bak (flo a (k + n)) (k + n) * dw k ↔ (m : Rat) ≤ a * dw k := by
    intro m
    have e1 : (m : Rat) * dw n = ((m * ((2 ^ n : Nat) : Int) : Int) : Rat) := by rw [Rat.intCast_mul]; rfl
    have g1 : (m : Rat) ≤ bak (flo a (k + n)) (k + n) * dw k ↔ (m : Rat) * dw n ≤ ((flo a (k + n) : Int) : Rat) := by
      rw [← hb, dw_add, ← Rat.mul_assoc]
      exact ⟨fun h => Rat.mul_le_mul_of_nonneg_right h (Rat.le_of_lt hp), fun h => Rat.le_of_mul_le_mul_right h hp⟩
    have g2 : (m : Rat) ≤ a * dw k ↔ (m : Rat) * dw n ≤ a * dw (k + n) := by
      rw [dw_add, ← Rat.mul_assoc]
      exact ⟨fun h => Rat.mul_le_mul_of_nonneg_right h (Rat.le_of_lt hp), fun h => Rat.le_of_mul_le_mul_right h hp⟩
    rw [g1, g2, e1, Rat.intCast_le_intCast]
    unfold flo
    exact Rat.le_floor_iff
  apply Int.le_antisymm
  · unfold flo
    exact Rat.le_floor_iff.2 ((hm _).1 (Rat.le_floor_iff.1 (Int.le_refl _)))
  · exact Rat.le_floor_iff.2 ((hm _).2 (Rat.le_floor_iff.1 (Int.le_refl _)))
theorem cei_finer (a : Rat) (k n : Nat) : cei (bak (cei a (k + n)) (k + n)) k = cei a k := by
  unfold cei
  rw [bak_neg, Int.neg_neg, flo_finer]
theorem flo_shr (a : Rat) (k n : Nat) : flo a k = flo a (k + n) / ((2 ^ n : Nat) : Int) := by
  rw [← flo_finer a k n, flo_ediv]
  have h0 : (2 ^ n : Nat) ≠ 0 := Nat.ne_of_gt (Nat.pow_pos (by omega))
  have h1 : (2 ^ (k + n) : Nat) ≠ 0 := Nat.ne_of_gt (Nat.pow_pos (by omega))
  have h2 : (2 ^ k : Nat) ≠ 0 := Nat.ne_of_gt (Nat.pow_pos (by omega))
  rw [← flo_ediv, flo, bak]
  have e : mkRat (flo a (k + n)) (2 ^ (k + n)) * dw k = mkRat (flo a (k + n)) (2 ^ n) := by
    unfold dw
    have h3 : ((2 ^ k : Nat) : Rat) = mkRat ((2 ^ k : Nat) : Int) 1 := by rw [Rat.mkRat_one]; rfl
    rw [h3, Rat.mkRat_mul_mkRat, Rat.mkRat_eq_iff (by omega) h0, Nat.pow_add]
    simp only [Nat.mul_one, Int.natCast_mul]
    ac_rfl
  rw [e, floor_mk _ _ h0]
end Go.Proofs.Ytpidpebgeblenaa

/-
  The contracts of the sixth reference: Back, Floor, Ceil.
-/
namespace Go.Proofs.Ytpidpebgeblenaa
open Go.RowKit
set_option linter.unusedVariables false
set_option linter.unusedSimpArgs false

/-- A call has answered an integer and a code. -/
def GotZp (w : World) (z : Int) (r : Int) (e : Ending) (w' : World) : Prop := ∃ b A n c, e = .returned (.tuple #[.agg #[.bool b, .slice A n c], .int .i64 r]) ∧ Zn w' b A n c z ∧ Below w.heap.size w w'
theorem len_pow2 {k : Nat} (h : k ≤ 500) : (limbs (2 ^ k)).length ≤ 8 := by
  refine Nat.le_trans (limbs_length_le (k := k / 64 + 1) ?_) (by omega)
  rw [show B64 = 2 ^ 64 from rfl, ← Nat.pow_mul]
  exact Nat.pow_lt_pow_right (by omega) (by omega)
theorem to_nat {j : Int} (h : 0 ≤ j) : ((j.toNat : Nat) : Int) = j := Int.toNat_of_nonneg h
theorem zn_none (w : World) : Zn w false none 0 0 0 := ⟨num_zero w, rfl⟩












theorem flo_len {x : Rat} {j k : Nat} (h : Sz x k) (hj : j ≤ 500) : (limbs (flo x j).natAbs).length ≤ k + 9 := by
  have h1 : (limbs (x.num.natAbs * 2 ^ j)).length ≤ k + 8 := limbs_length_mul h.1 (len_pow2 hj)
  have h2 : (limbs (x.num.natAbs * 2 ^ j / x.den)).length ≤ k + 8 := Nat.le_trans (limbs_length_mono (Nat.div_le_self _ _)) h1
  by_cases hs : x.num < 0
  · rw [flo_neg x j hs, Int.natAbs_neg, Int.natAbs_natCast]
    refine limbs_length_add h2 (Nat.le_trans (len_one (Nat.lt_of_le_of_lt (m := 1) ?_ (by decide))) (by omega))
    split <;> omega
  · rw [flo_pos x j hs, Int.natAbs_natCast]
    omega
theorem cei_len {x : Rat} {j k : Nat} (h : Sz x k) (hj : j ≤ 500) : (limbs (cei x j).natAbs).length ≤ k + 9 := by
  unfold cei; rw [Int.natAbs_neg]; exact flo_len h.neg hj
theorem nea_len {x : Rat} {j k : Nat} (h : Sz x k) (hj : j ≤ 500) : (limbs (nea x j).natAbs).length ≤ k + 9 := by
  rcases nea_one x j with e | e
  · rw [e]; exact flo_len h hj
  · rw [e]; exact cei_len h hj
theorem bak_sz {z : Int} {j k : Nat} (h : (limbs z.natAbs).length ≤ k) (h8 : 8 ≤ k) (hj : j ≤ 500) : Sz (bak z j) k := sz_mk (Nat.ne_of_gt (Nat.pow_pos (by omega))) h (Nat.le_trans (len_pow2 hj) h8)



end Go.Proofs.Ytpidpebgeblenaa

/-
  The contracts of the sixth reference: odd.
-/
namespace Go.Proofs.Ytpidpebgeblenaa
open Go.RowKit
set_option linter.unusedVariables false
set_option linter.unusedSimpArgs false

theorem low_mod (x : Nat) (h : x ≠ 0) : ((limbs x)[0]?.getD 0) % 2 = x % 2 := by
  rw [limbs_pos (by omega)]
  show x % B64 % 2 = x % 2
  exact Nat.mod_mod_of_dvd x ⟨9223372036854775808, by decide⟩
theorem abs_mod (z : Int) : z.natAbs % 2 = (z % 2).toNat := by omega




end Go.Proofs.Ytpidpebgeblenaa

/-
  Numbers on a grid by what is left; the contracts of dyad: isGrid, isOdd, the closures.
-/
namespace Go.Proofs.Ytpidpebgeblenaa
open Go.RowKit
set_option linter.unusedVariables false
set_option linter.unusedSimpArgs false

theorem zn_minus {w : World} {A : Option Addr} {n c t : Nat} (h : Num w A n c t) (h0 : t ≠ 0) : Zn w true A n c (-(t : Int)) := ⟨by rw [Int.natAbs_neg, Int.natAbs_natCast]; exact h, (decide_eq_true (by omega)).symm⟩
theorem num_void {w : World} {A : Option Addr} {n c t : Nat} (h : Num w A n c t) (h0 : t = 0) : n = 0 := by
  have e := h.len
  rw [h0, limbs_zero] at e; simpa using e
theorem cei_pos (a : Rat) (k : Nat) (h : ¬ a.num < 0) : cei a k = ((a.num.natAbs * 2 ^ k / a.den + (if a.num.natAbs * 2 ^ k % a.den = 0 then 0 else 1) : Nat) : Int) := by
  unfold cei
  by_cases h0 : a.num = 0
  · have e : a.num.natAbs * 2 ^ k = 0 := by rw [h0]; simp
    have h1 : ¬ (-a).num < 0 := by rw [Rat.neg_num]; omega
    rw [flo_pos _ _ h1, Rat.neg_num, Int.natAbs_neg, Rat.neg_den, e]
    simp
  · have h1 : (-a).num < 0 := by rw [Rat.neg_num]; omega
    rw [flo_neg _ _ h1, Rat.neg_num, Int.natAbs_neg, Rat.neg_den, Int.neg_neg]
theorem cei_less (a : Rat) (k : Nat) (h : a.num < 0) : cei a k = -((a.num.natAbs * 2 ^ k / a.den : Nat) : Int) := by
  unfold cei
  have h1 : ¬ (-a).num < 0 := by rw [Rat.neg_num]; omega
  rw [flo_pos _ _ h1, Rat.neg_num, Int.natAbs_neg, Rat.neg_den]
/-- Whether the nearest is one step farther from nought. -/
def fars (u q : Nat) : Bool := decide (q < u % q + u % q) || (decide (u % q + u % q = q) && decide (u / q % 2 = 1))
theorem half_nat (u q : Nat) (hq : 0 < q) (A : Rat) (hA : A * (q : Rat) = (u : Rat)) : nr A = ((u / q + (if fars u q = true then 1 else 0) : Nat) : Int) := by
  have h1 := Nat.div_add_mod u q
  have h2 := Nat.mod_lt u hq
  unfold fars
  generalize u / q = T at h1 ⊢
  generalize u % q = r at h1 h2 ⊢
  have hqp : (0 : Rat) < (q : Rat) := Rat.natCast_pos.2 hq
  have hq0 : (q : Rat) ≠ 0 := by grind
  have e : A = (T : Rat) + (r : Rat) / (q : Rat) := by
    have : (u : Rat) = (q : Rat) * (T : Rat) + (r : Rat) := by rw [← h1, Rat.natCast_add, Rat.natCast_mul]
    grind
  have hr0 : (0 : Rat) ≤ (r : Rat) := Rat.natCast_nonneg
  have eT : ((T : Int) : Rat) = (T : Rat) := rfl
  have o : ((1 : Int) : Rat) = 1 := rfl
  obtain ⟨s, hs⟩ : ∃ s : Rat, (r : Rat) / (q : Rat) = s := ⟨_, rfl⟩
  have hsq : s * (q : Rat) = (r : Rat) := by rw [← hs]; grind
  have twice : ∀ {a b : Nat}, (a : Rat) ≤ (b : Rat) ↔ a ≤ b := fun {a b} => Rat.natCast_le_natCast
  have dbl : s + s = ((r + r : Nat) : Rat) / (q : Rat) := by rw [Rat.natCast_add]; grind
  have hle : s + s ≤ 1 ↔ r + r ≤ q := by
    rw [dbl]
    constructor
    · intro h
      have h3 : ((r + r : Nat) : Rat) ≤ (q : Rat) := by
        have := Rat.mul_le_mul_of_nonneg_right h (Rat.le_of_lt hqp)
        have e2 : ((r + r : Nat) : Rat) / (q : Rat) * (q : Rat) = ((r + r : Nat) : Rat) := by grind
        rw [e2, Rat.one_mul] at this; exact this
      exact twice.1 h3
    · intro h
      have h3 := twice.2 h
      have e2 : ((r + r : Nat) : Rat) / (q : Rat) * (q : Rat) = ((r + r : Nat) : Rat) := by grind
      apply Rat.le_of_mul_le_mul_right _ hqp
      rw [e2, Rat.one_mul]; exact h3
  have hge : 1 ≤ s + s ↔ q ≤ r + r := by
    rw [dbl]
    have e2 : ((r + r : Nat) : Rat) / (q : Rat) * (q : Rat) = ((r + r : Nat) : Rat) := by grind
    constructor
    · intro h
      have := Rat.mul_le_mul_of_nonneg_right h (Rat.le_of_lt hqp)
      rw [e2, Rat.one_mul] at this; exact twice.1 this
    · intro h
      apply Rat.le_of_mul_le_mul_right _ hqp
      rw [e2, Rat.one_mul]; exact twice.2 h
  have hs0 : 0 ≤ s := by
    apply Rat.le_of_mul_le_mul_right _ hqp
    rw [hsq, Rat.zero_mul]; exact hr0
  have hs1 : s < 1 := by
    have : (r : Rat) < (q : Rat) := Rat.natCast_lt_natCast.2 h2
    apply Rat.lt_of_mul_lt_mul_right _ (Rat.le_of_lt hqp)
    rw [hsq, Rat.one_mul]; exact this
  rw [hs] at e
  clear hsq dbl hr0 hqp hq0 hs h1 twice hA
  apply nr_unique
  unfold NrHalf
  subst e
  by_cases c1 : q < r + r
  · have c2 : 1 ≤ s + s := hge.2 (by omega)
    have c3 : ¬ s + s ≤ 1 := fun h => by have := hle.1 h; omega
    simp only [c1, decide_true, Bool.true_or, if_true]
    rw [Int.natCast_add, Rat.intCast_add, eT]
    have o2 : (((1 : Nat) : Int) : Rat) = 1 := rfl
    rw [o2]
    refine ⟨by grind, by grind, ?_⟩
    intro h; exfalso; grind
  · have c3 : s + s ≤ 1 := hle.2 (by omega)
    by_cases c2 : r + r = q
    · have c4 : 1 ≤ s + s := hge.2 (by omega)
      by_cases c5 : T % 2 = 1
      · simp only [c1, c2, c5, decide_true, decide_false, Bool.false_or, Bool.and_self, if_true, Nat.lt_irrefl]
        rw [Int.natCast_add, Rat.intCast_add, eT]
        have o2 : (((1 : Nat) : Int) : Rat) = 1 := rfl
        rw [o2]
        refine ⟨by grind, by grind, ?_⟩
        intro _; omega
      · simp only [c1, c2, c5, decide_true, decide_false, Bool.false_or, Bool.and_false, Nat.lt_irrefl]
        simp only [Bool.false_eq_true, if_false, Nat.add_zero]
        rw [eT]
        refine ⟨by grind, by grind, ?_⟩
        intro _; omega
    · have c4 : ¬ 1 ≤ s + s := fun h => by have := hge.1 h; omega
      simp only [c1, c2, decide_false, Bool.false_or, Bool.false_and]
      simp only [Bool.false_eq_true, if_false, Nat.add_zero]
      rw [eT]
      refine ⟨by grind, by grind, ?_⟩
      intro h; exfalso; grind
theorem sides_dw (a : Rat) (k : Nat) (h : ¬ a.num < 0) : a * dw k * (a.den : Rat) = ((a.num.natAbs * 2 ^ k : Nat) : Rat) := by
  unfold dw
  have h1 : a * (a.den : Rat) = ((a.num : Int) : Rat) := by
    conv => lhs; rw [← Rat.mkRat_self a]
    have h2 : ((a.den : Nat) : Rat) = mkRat ((a.den : Nat) : Int) 1 := by rw [Rat.mkRat_one]; rfl
    have h3 : ((a.num : Int) : Rat) = mkRat a.num 1 := by rw [Rat.mkRat_one]
    have hd := a.den_nz
    rw [Rat.mkRat_self, h3]
    conv => lhs; rw [← Rat.mkRat_self a]
    rw [Rat.mkRat_self]
    conv => lhs; arg 1; rw [← Rat.mkRat_self a]
    rw [h2, Rat.mkRat_mul_mkRat, Rat.mkRat_eq_iff (by omega) (by omega)]
    simp
  have h4 : ((a.num : Int) : Rat) = ((a.num.natAbs : Nat) : Rat) := by
    have : a.num = (a.num.natAbs : Int) := by omega
    conv => lhs; rw [this]
    rfl
  rw [Rat.natCast_mul, ← h4, ← h1]
  generalize ((2 ^ k : Nat) : Rat) = p
  grind
theorem nea_pos (a : Rat) (k : Nat) (h : ¬ a.num < 0) : nea a k = ((a.num.natAbs * 2 ^ k / a.den + (if fars (a.num.natAbs * 2 ^ k) a.den = true then 1 else 0) : Nat) : Int) := by
  unfold nea
  exact half_nat _ _ (Nat.pos_of_ne_zero a.den_nz) _ (sides_dw a k h)
theorem nea_less (a : Rat) (k : Nat) (h : a.num < 0) : nea a k = -((a.num.natAbs * 2 ^ k / a.den + (if fars (a.num.natAbs * 2 ^ k) a.den = true then 1 else 0) : Nat) : Int) := by
  have h1 : ¬ (-a).num < 0 := by rw [Rat.neg_num]; omega
  have e := nea_pos (-a) k h1
  rw [nea_neg, Rat.neg_num, Int.natAbs_neg, Rat.neg_den] at e
  omega


















end Go.Proofs.Ytpidpebgeblenaa

/-
  Numbers rounded to the nearest, ties to even: what fix tells.
-/
namespace Go.Proofs.Ytpidpebgeblenaa
set_option linter.unusedSimpArgs false
set_option linter.unusedVariables false

theorem mk_times (n : Int) (d : Nat) (hd : d ≠ 0) : mkRat n d * ((d : Nat) : Rat) = (n : Rat) := by
  have h2 : ((d : Nat) : Rat) = mkRat ((d : Nat) : Int) 1 := by rw [Rat.mkRat_one]; rfl
  have h3 : (n : Rat) = mkRat n 1 := by rw [Rat.mkRat_one]
  rw [h2, h3, Rat.mkRat_mul_mkRat, Rat.mkRat_eq_iff (by omega) (by decide)]
  simp
theorem nat_pos_rat {d : Nat} (hd : d ≠ 0) : (0 : Rat) < ((d : Nat) : Rat) := Rat.natCast_pos.2 (by omega)
theorem mk_of {A : Rat} {n : Int} {d : Nat} (hd : d ≠ 0) (h : A * ((d : Nat) : Rat) = (n : Rat)) : A = mkRat n d := by
  have h1 := mk_times n d hd
  have h2 := nat_pos_rat hd
  have e := h.trans h1.symm
  exact Rat.le_antisymm (Rat.le_of_mul_le_mul_right (by rw [e]; exact Rat.le_refl) h2) (Rat.le_of_mul_le_mul_right (by rw [e]; exact Rat.le_refl) h2)
/-- A whole number by another one, to the nearest, ties to even. -/
def rn (n : Int) (d : Nat) : Int := nr (mkRat n d)
theorem rn_of {A : Rat} {n : Int} {d : Nat} (hd : d ≠ 0) (h : A * ((d : Nat) : Rat) = (n : Rat)) : nr A = rn n d := by rw [mk_of hd h]; rfl
theorem rn_neg (n : Int) {d : Nat} (hd : d ≠ 0) : rn (-n) d = -rn n d := by
  have h : -mkRat n d = mkRat (-n) d := mk_of hd (by rw [Rat.neg_mul, mk_times n d hd, Rat.intCast_neg])
  unfold rn
  rw [← h, nr_neg]
theorem rn_mono {n m : Int} {d : Nat} (hd : d ≠ 0) (h : n ≤ m) : rn n d ≤ rn m d := by
  refine nr_mono ?_
  apply Rat.le_of_mul_le_mul_right (c := ((d : Nat) : Rat)) _ (nat_pos_rat hd)
  rw [mk_times n d hd, mk_times m d hd]
  exact Rat.intCast_le_intCast.2 h
theorem rn_self (a : Int) {d : Nat} (hd : d ≠ 0) : rn (a * (d : Int)) d = a := by
  have h : (a : Rat) = mkRat (a * (d : Int)) d := mk_of hd (by rw [Rat.intCast_mul]; rfl)
  unfold rn
  rw [← h, nr_int]
theorem rn_nat (u d : Nat) (hd : d ≠ 0) : rn (u : Int) d = ((u / d + (if fars u d = true then 1 else 0) : Nat) : Int) := half_nat u d (by omega) _ (by rw [mk_times _ d hd]; rfl)
theorem rn_one (n : Int) : rn n 1 = n := by have := rn_self n (d := 1) (by omega); simpa using this
/-- What fix's calls tell. -/
theorem nea_sum (a b : Int) : nea ((a : Rat) + (b : Rat)) 0 = a + b := by
  unfold nea dw
  have : ((a : Rat) + (b : Rat)) * ((2 ^ 0 : Nat) : Rat) = ((a + b : Int) : Rat) := by rw [Rat.intCast_add]; simp
  rw [this, nr_int]
theorem nea_diff (a b : Int) : nea ((a : Rat) - (b : Rat)) 0 = a - b := by
  unfold nea dw
  have : ((a : Rat) - (b : Rat)) * ((2 ^ 0 : Nat) : Rat) = ((a - b : Int) : Rat) := by rw [Rat.intCast_sub]; simp
  rw [this, nr_int]
theorem pow_ne (k : Nat) : 2 ^ k ≠ 0 := Nat.ne_of_gt (Nat.pow_pos (by omega))
theorem nea_prod (a b : Int) (k : Nat) : nea (bak a k * bak b k) k = rn (a * b) (2 ^ k) := by
  unfold nea
  refine rn_of (pow_ne k) ?_
  have h1 := bak_mul a k
  have h2 := bak_mul b k
  rw [Rat.intCast_mul, ← h1, ← h2]
  show bak a k * bak b k * dw k * dw k = _
  grind
theorem nea_quot (a b : Int) (k : Nat) (hb : b ≠ 0) : nea ((a : Rat) / (b : Rat)) k = rn (b.sign * (a * ((2 ^ k : Nat) : Int))) b.natAbs := by
  unfold nea
  refine rn_of (by omega) ?_
  have h0 : (b : Rat) ≠ 0 := fun h => hb (Rat.intCast_eq_zero_iff.1 h)
  have h1 : ((b.natAbs : Nat) : Rat) = ((b.sign * b : Int) : Rat) := by
    have : ((b.natAbs : Nat) : Int) = b.sign * b := by
      rcases Int.lt_trichotomy b 0 with h | h | h
      · rw [Int.sign_eq_neg_one_of_neg h]; omega
      · omega
      · rw [Int.sign_eq_one_of_pos h]; omega
    rw [← this]; rfl
  have h2 : dw k = (((2 ^ k : Nat) : Int) : Rat) := rfl
  rw [h1, Rat.intCast_mul, Rat.intCast_mul, Rat.intCast_mul, ← h2]
  generalize (b.sign : Rat) = s
  grind
theorem nea_scale (a n : Int) (d : Nat) (hd : d ≠ 0) : nea ((a : Rat) * (n : Rat) / ((d : Int) : Rat)) 0 = rn (a * n) d := by
  unfold nea
  refine rn_of hd ?_
  have h0 := nat_pos_rat hd
  have h1 : ((d : Int) : Rat) = ((d : Nat) : Rat) := rfl
  have h2 : dw 0 = 1 := rfl
  rw [h1, h2, Rat.intCast_mul]
  grind
end Go.Proofs.Ytpidpebgeblenaa

/-
  The contracts of the sixth reference: Near.
-/
namespace Go.Proofs.Ytpidpebgeblenaa
open Go.RowKit
set_option linter.unusedVariables false
set_option linter.unusedSimpArgs false







end Go.Proofs.Ytpidpebgeblenaa

/-
  The contracts of the eighth reference: near, frac, Of, Rat.
-/
namespace Go.Proofs.Ytpidpebgeblenaa
open Go.RowKit
set_option linter.unusedVariables false
set_option linter.unusedSimpArgs false

/-- What is told of a whole number: itself, where 64 bits hold it; else 0 and ErrRange. -/
def nI (z : Int) : Int := if -9223372036854775808 ≤ z ∧ z ≤ 9223372036854775807 then z else 0
def nE (z : Int) : Int := if -9223372036854775808 ≤ z ∧ z ≤ 9223372036854775807 then 0 else 2
theorem nI_yes {z : Int} (h : I64 z) : nI z = z ∧ nE z = 0 := ⟨if_pos h, if_pos h⟩
theorem nI_no {z : Int} (h : ¬ I64 z) : nI z = 0 ∧ nE z = 2 := ⟨if_neg h, if_neg h⟩












end Go.Proofs.Ytpidpebgeblenaa

/-
  Blocks: what is loaded of codes, how near it is, what is packed; numbers alone.
-/
namespace Go.Proofs.Ytpidpebgeblenaa
set_option linter.unusedVariables false
set_option linter.unusedSimpArgs false

/-- A number to the nearest is at most half a step away. -/
theorem rn_half (n : Int) {d : Nat} (hd : d ≠ 0) : 2 * (rn n d * (d : Int)) ≤ 2 * n + d ∧ 2 * n ≤ 2 * (rn n d * (d : Int)) + d := by
  have pos : ∀ u : Nat, 2 * (rn (u : Int) d * (d : Int)) ≤ 2 * (u : Int) + d ∧ 2 * (u : Int) ≤ 2 * (rn (u : Int) d * (d : Int)) + d := by
    intro u
    rw [rn_nat u d hd]
    have h1 := Nat.div_add_mod u d
    have h2 := Nat.mod_lt u (show 0 < d by omega)
    have h3 : ((u / d : Nat) : Int) * (d : Int) = ((d * (u / d) : Nat) : Int) := by rw [Nat.mul_comm, Int.natCast_mul]
    have hf : fars u d = (decide (d < u % d + u % d) || (decide (u % d + u % d = d) && decide (u / d % 2 = 1))) := rfl
    by_cases h : fars u d = true
    · rw [if_pos h, Int.natCast_add, Int.add_mul, h3]
      rw [hf, Bool.or_eq_true, Bool.and_eq_true, decide_eq_true_eq, decide_eq_true_eq] at h
      omega
    · rw [if_neg h, Nat.add_zero, h3]
      rw [hf, Bool.or_eq_true, Bool.and_eq_true, decide_eq_true_eq, decide_eq_true_eq] at h
      omega
  rcases Int.le_total 0 n with h | h
  · obtain ⟨u, rfl⟩ : ∃ u : Nat, n = (u : Int) := ⟨n.toNat, by omega⟩
    exact pos u
  · obtain ⟨u, rfl⟩ : ∃ u : Nat, n = -(u : Int) := ⟨(-n).toNat, by omega⟩
    have := pos u
    rw [rn_neg _ hd, Int.neg_mul]
    omega
theorem rn_nought {d : Nat} (hd : d ≠ 0) : rn 0 d = 0 := by have := rn_self 0 hd; rwa [Int.zero_mul] at this
/-- What a code is loaded as. -/
def ld (k s : Int) (c : Nat) : Int := rn (s * num10 k c) (den9 k).natAbs
theorem den9_nat {k : Int} (h : Kind9 k) : (((den9 k).natAbs : Nat) : Int) = den9 k ∧ (den9 k).natAbs ≠ 0 := by have := (facts10 h).2.2.2.2.2.2; omega
theorem num10_in {k : Int} (h : Kind9 k) {c : Nat} (hc : c ≤ 255) : -den9 k ≤ num10 k c ∧ num10 k c ≤ den9 k ∧ (sig9 k = false → 0 ≤ num10 k c) := by
  obtain ⟨_, h1, _, _, _, h2, h3⟩ := facts10 h
  have u : num10 k c ≤ den9 k := by
    rcases Nat.lt_or_ge c 255 with e | e
    · have := num10_up h e (Nat.le_refl _); omega
    · obtain rfl : c = 255 := by omega
      omega
  have l : num10 k 0 ≤ num10 k c := by
    rcases Nat.eq_zero_or_pos c with e | e
    · subst e; exact Int.le_refl _
    · exact Int.le_of_lt (num10_up h e hc)
  cases hs : sig9 k with
  | true => rw [hs] at h2; have := of_decide_eq_true (by simpa using h2 : decide (-den9 k ≤ num10 k 0) = true); exact ⟨by omega, u, fun h => by cases h⟩
  | false => rw [hs] at h2; have := of_decide_eq_true (by simpa using h2 : decide (num10 k 0 = 0) = true); exact ⟨by omega, u, fun _ => by omega⟩
theorem ld_in {k s : Int} (h : Kind9 k) (hs : 0 ≤ s) {c : Nat} (hc : c ≤ 255) : -s ≤ ld k s c ∧ ld k s c ≤ s ∧ (sig9 k = false → 0 ≤ ld k s c) := by
  obtain ⟨e, ne⟩ := den9_nat h
  obtain ⟨a, b, g⟩ := num10_in h hc
  unfold ld
  refine ⟨?_, ?_, fun hg => ?_⟩
  · have := rn_mono ne (n := -s * ((den9 k).natAbs : Int)) (m := s * num10 k c) (by rw [e, Int.neg_mul, ← Int.mul_neg]; exact Int.mul_le_mul_of_nonneg_left a hs)
    rwa [rn_self _ ne] at this
  · have := rn_mono ne (n := s * num10 k c) (m := s * ((den9 k).natAbs : Int)) (by rw [e]; exact Int.mul_le_mul_of_nonneg_left b hs)
    rwa [rn_self _ ne] at this
  · have := rn_mono ne (n := 0) (m := s * num10 k c) (Int.mul_nonneg hs (g hg))
    rwa [rn_nought ne] at this
theorem ld_i64 {k s : Int} (h : Kind9 k) (hs : 0 ≤ s) (hi : I64 s) {c : Nat} (hc : c ≤ 255) : I64 (ld k s c) := by have := ld_in h hs hc; unfold I64 at *; omega
theorem ld_top {k s : Int} (h : Kind9 k) : ld k s 255 = s := by
  obtain ⟨e, ne⟩ := den9_nat h
  have := rn_self s ne
  unfold ld
  rw [(facts10 h).2.1]
  rwa [e] at this
theorem ld_nought {k : Int} (h : Kind9 k) (c : Nat) : ld k 0 c = 0 := by unfold ld; rw [Int.zero_mul]; exact rn_nought (den9_nat h).2
theorem ld_mono {k s : Int} (h : Kind9 k) (hs : 0 ≤ s) {a b : Nat} (hab : a ≤ b) (hb : b ≤ 255) : ld k s a ≤ ld k s b := by
  rcases Nat.eq_or_lt_of_le hab with e | e
  · subst e; exact Int.le_refl _
  · exact rn_mono (den9_nat h).2 (Int.mul_le_mul_of_nonneg_left (Int.le_of_lt (num10_up h e hb)) hs)

/-- How a number is packed beside others the greatest of which is s. -/
def pk (k s x : Int) : Nat := near10 k x (max s 1)
theorem pk_le (k s x : Int) : pk k s x ≤ 255 := near10_le _ _ _
theorem pk_shr {k s x : Int} (h : Kind9 k) (h1 : -s ≤ x) (h2 : x ≤ s) (h3 : 0 ≤ x ∨ sig9 k = true) : Shr k x (max s 1) := ⟨h, by omega, by omega, by omega, h3⟩
theorem pk_near {k s x : Int} (h : Kind9 k) (h0 : 0 ≤ s) (h1 : -s ≤ x) (h2 : x ≤ s) (h3 : 0 ≤ x ∨ sig9 k = true) :
    2 * (x * den9 k - ld k s (pk k s x) * den9 k) ≤ gap9 k * s + den9 k ∧ 2 * (ld k s (pk k s x) * den9 k - x * den9 k) ≤ gap9 k * s + den9 k := by
  obtain ⟨e, ne⟩ := den9_nat h
  have hd := (facts10 h).2.2.2.2.2.2
  have hr := rn_half (s * num10 k (pk k s x)) ne
  rw [e] at hr
  rcases Int.lt_or_le 0 s with hp | hp
  · have hm : max s 1 = s := by omega
    have hh := near10_half (pk_shr h h1 h2 h3)
    unfold pk at hr ⊢
    unfold ld
    rw [hm] at hr hh ⊢
    unfold dst at hh
    rw [Int.mul_comm s] at hr ⊢
    generalize num10 k (near10 k x s) * s = y at *
    generalize rn y (den9 k).natAbs * den9 k = z at *
    generalize x * den9 k = q at *
    generalize gap9 k * s = g at *
    omega
  · obtain rfl : s = 0 := by omega
    obtain rfl : x = 0 := by omega
    rw [ld_nought h]
    simp
    omega
theorem pk_mono {k s x y : Int} (h : Kind9 k) (hxy : x ≤ y) : pk k s x ≤ pk k s y := near10_mono h (by omega) hxy
theorem pk_top {k s : Int} (h : Kind9 k) (h0 : 0 < s) : pk k s s = 255 := by
  have hm : max s 1 = s := by omega
  unfold pk; rw [hm]; exact near10_den h h0
theorem pk_low {k s : Int} (h0 : 0 < s) : pk k s (-s) = near10 k (-1) 1 := by
  have hm : max s 1 = s := by omega
  have := near10_scale (k := k) (num := -1) (den := 1) h0
  unfold pk; rw [hm]
  rwa [Int.one_mul, Int.neg_mul, Int.one_mul] at this
theorem near10_one {k : Int} (h : Kind9 k) : near10 k 1 1 = 255 := near10_den h (by omega)
theorem pk_nought {k : Int} : pk k 0 0 = near10 k 0 1 := rfl

/-- The greatest of numbers, whatever its side. -/
def grk (L : List Int) : Nat → Int
  | 0 => 0
  | m + 1 => max (max (grk L m) (L[m]?.getD 0)) (-(L[m]?.getD 0))
def gr (L : List Int) : Int := grk L L.length
theorem grk_pos (L : List Int) : ∀ m, 0 ≤ grk L m
  | 0 => Int.le_refl _
  | m + 1 => by have := grk_pos L m; unfold grk; omega
theorem grk_ge (L : List Int) : ∀ m j, j < m → L[j]?.getD 0 ≤ grk L m ∧ -(L[j]?.getD 0) ≤ grk L m
  | 0, j, h => by omega
  | m + 1, j, h => by
    unfold grk
    rcases Nat.lt_or_ge j m with e | e
    · have := grk_ge L m j e; omega
    · obtain rfl : j = m := by omega
      omega
theorem grk_some (L : List Int) : ∀ m, grk L m = 0 ∨ ∃ j, j < m ∧ (L[j]?.getD 0 = grk L m ∨ L[j]?.getD 0 = -grk L m)
  | 0 => .inl rfl
  | m + 1 => by
    have ih := grk_some L m
    have hp := grk_pos L m
    have e : grk L (m + 1) = max (max (grk L m) (L[m]?.getD 0)) (-(L[m]?.getD 0)) := rfl
    by_cases h1 : L[m]?.getD 0 = grk L (m + 1) ∨ L[m]?.getD 0 = -grk L (m + 1)
    · exact .inr ⟨m, by omega, h1⟩
    · have e2 : grk L (m + 1) = grk L m := by omega
      rcases ih with h | ⟨j, hj, h⟩
      · exact .inl (by omega)
      · exact .inr ⟨j, by omega, by rw [e2]; exact h⟩
theorem gr_pos (L : List Int) : 0 ≤ gr L := grk_pos L _
theorem gr_ge {L : List Int} {j : Nat} (h : j < L.length) : L[j]?.getD 0 ≤ gr L ∧ -(L[j]?.getD 0) ≤ gr L := grk_ge L _ j h
theorem gr_le {L : List Int} {s : Int} (h0 : 0 ≤ s) (h : ∀ j, j < L.length → L[j]?.getD 0 ≤ s ∧ -(L[j]?.getD 0) ≤ s) : gr L ≤ s := by
  rcases grk_some L L.length with e | ⟨j, hj, e⟩
  · unfold gr; omega
  · have := h j hj; unfold gr; omega
theorem grk_i64 {L : List Int} (h : ∀ j : Nat, I64 (L[j]?.getD 0) ∧ L[j]?.getD 0 ≠ -9223372036854775808) : ∀ m, I64 (grk L m)
  | 0 => by show I64 0; unfold I64; omega
  | m + 1 => by
    have h1 := grk_i64 h m
    have h2 := h m
    show I64 (max (max (grk L m) (L[m]?.getD 0)) (-(L[m]?.getD 0)))
    generalize grk L m = g at *
    unfold I64 at *; omega

/-- Is a code of the block whose greatest is 1 by 1, or -1 by 1? -/
def EndC (k : Int) (c : Nat) : Prop := c = near10 k 1 1 ∨ (Shr k (-1) 1 ∧ c = near10 k (-1) 1)
instance (k : Int) (c : Nat) : Decidable (EndC k c) := by unfold EndC; infer_instance
/-- May a block's codes be? -/
def OkC (k s : Int) (C : List Nat) : Prop := (s = 0 ∧ ∀ c ∈ C, c = near10 k 0 1) ∨ (0 < s ∧ ∃ c ∈ C, EndC k c)
/-- Is a block right? -/
def OkB (k s : Int) (C : List Nat) (W : List Int) : Prop :=
  (Kind9 k ∧ C.length + W.length ≤ 4096 ∧ W = [] ∧ OkC k s C) ∨ (k = 4 ∧ C.length + W.length ≤ 4096 ∧ (∀ x ∈ W, x ≠ -9223372036854775808) ∧ s = 0 ∧ C = [])
instance (k s : Int) (C : List Nat) : Decidable (OkC k s C) := by unfold OkC; infer_instance
instance (k s : Int) (C : List Nat) (W : List Int) : Decidable (OkB k s C W) := by unfold OkB; infer_instance
/-- What a right block is loaded as. -/
def ldB (k s : Int) (C : List Nat) (W : List Int) : List Int := if k = 4 then W else C.map (ld k s)
/-- May numbers be packed? -/
def OkP (k : Int) (L : List Int) : Prop := (0 ≤ k ∧ k ≤ 4) ∧ (∀ x ∈ L, x ≠ -9223372036854775808 ∧ (k = 1 ∨ k = 3 → 0 ≤ x))
instance (k : Int) (L : List Int) : Decidable (OkP k L) := by unfold OkP; infer_instance
/-- The codes of what is packed. -/
def pkC (k : Int) (L : List Int) : List Nat := if k = 4 then [] else L.map (pk k (gr L))
def pkS (k : Int) (L : List Int) : Int := if k = 4 then 0 else gr L
def pkW (k : Int) (L : List Int) : List Int := if k = 4 then L else []
theorem kind_or {k : Int} : 0 ≤ k ∧ k ≤ 4 ↔ Kind9 k ∨ k = 4 := by unfold Kind9; omega
theorem sig9_iff {k : Int} (h : Kind9 k) : sig9 k = true ↔ ¬ (k = 1 ∨ k = 3) := by unfold sig9 Kind9 at *; rw [decide_eq_true_eq]; omega
theorem okP_at {k : Int} {L : List Int} (h : OkP k L) (hk : Kind9 k) {x : Int} (hx : x ∈ L) : -gr L ≤ x ∧ x ≤ gr L ∧ (0 ≤ x ∨ sig9 k = true) := by
  obtain ⟨j, hj, rfl⟩ := at_mem 0 hx
  have := gr_ge hj
  refine ⟨by omega, by omega, ?_⟩
  by_cases e : k = 1 ∨ k = 3
  · exact .inl ((h.2 _ hx).2 e)
  · exact .inr ((sig9_iff hk).2 e)
theorem shr_m {k : Int} (hk : Kind9 k) (hs : sig9 k = true) : Shr k (-1) 1 := ⟨hk, by omega, by omega, by omega, .inr hs⟩
/-- What is packed is right. -/
theorem okB_pk {k : Int} {L : List Int} (h : OkP k L) (hl : L.length ≤ 4096) : OkB k (pkS k L) (pkC k L) (pkW k L) := by
  rcases kind_or.1 h.1 with hk | hk
  · have h4 : k ≠ 4 := by unfold Kind9 at hk; omega
    unfold pkS pkC pkW
    rw [if_neg h4, if_neg h4, if_neg h4]
    refine .inl ⟨hk, by simp; exact hl, rfl, ?_⟩
    rcases grk_some L L.length with e | ⟨j, hj, e⟩
    · refine .inl ⟨e, fun c hc => ?_⟩
      obtain ⟨x, hx, rfl⟩ := List.mem_map.1 hc
      have := okP_at h hk hx
      have e0 : gr L = 0 := e
      rw [e0] at this ⊢
      obtain rfl : x = 0 := by omega
      exact pk_nought
    · by_cases e0 : gr L = 0
      · refine .inl ⟨e0, fun c hc => ?_⟩
        obtain ⟨x, hx, rfl⟩ := List.mem_map.1 hc
        have := okP_at h hk hx
        rw [e0] at this ⊢
        obtain rfl : x = 0 := by omega
        exact pk_nought
      · have hp : 0 < gr L := by have := gr_pos L; omega
        have hx := mem_at (d := 0) hj
        refine .inr ⟨hp, pk k (gr L) (L[j]?.getD 0), List.mem_map.2 ⟨_, hx, rfl⟩, ?_⟩
        have e' : L[j]?.getD 0 = gr L ∨ L[j]?.getD 0 = -gr L := e
        rcases e' with e' | e'
        · left; rw [e', pk_top hk hp, near10_one hk]
        · have hs : sig9 k = true := by
            have := (okP_at h hk hx).2.2
            rcases this with h1 | h1
            · omega
            · exact h1
          right; rw [e', pk_low hp]; exact ⟨shr_m hk hs, rfl⟩
  · subst hk
    refine .inr ⟨rfl, by simp [pkC, pkW]; exact hl, fun x hx => (h.2 x hx).1, rfl, rfl⟩
end Go.Proofs.Ytpidpebgeblenaa

/-
  The contracts of the tenth reference: Sub of integers, share, Share, Num, far, Far.
-/
namespace Go.Proofs.Ytpidpebgeblenaa
open Go.RowKit
set_option linter.unusedVariables false
set_option linter.unusedSimpArgs false

theorem zn_size {w : World} {b : Bool} {A : Option Addr} {n c : Nat} {z : Int} (h : Zn w b A n c z) : Zn w false A n c ((z.natAbs : Nat) : Int) := ⟨by rw [Int.natAbs_natCast]; exact h.1, by simp⟩
theorem IR.cell {w : World} {b off n c j : Nat} {l : List Int} (h : IR w (some ⟨b, off, none⟩) n c l) (hj : j < n) : w.cell? ⟨b, off + j, none⟩ = some (.int .i64 (l[j]?.getD 0)) := by
  obtain ⟨b', off', e, hlt, hc⟩ := h.2.2 (by omega)
  injection e with e
  injection e with e1 e2
  subst e1
  subst e2
  exact hc j hj
theorem IR.some {w : World} {A : Option Addr} {n c : Nat} {l : List Int} (h : IR w A n c l) (hn : 0 < n) : ∃ b off, A = some ⟨b, off, none⟩ ∧ b < w.heap.size := by
  obtain ⟨b, off, e, hlt, hc⟩ := h.2.2 hn
  exact ⟨b, off, e, hlt⟩
theorem u8_nat {a : Int} (h : (Lit.int .u8 a).wf = true) : ∃ q : Nat, a = (q : Int) ∧ q < 256 := by
  have : 0 ≤ a ∧ a ≤ 255 := bounds_u8 h
  exact ⟨a.toNat, by omega, by omega⟩
theorem kind9_code {k : Int} (h : Kind9 k) : code9 k = 0 := if_pos h
theorem other9 {k : Int} (h : ¬ Kind9 k) : book9 k = [] ∧ code9 k = 1 := by
  refine ⟨?_, if_neg h⟩
  unfold book9; unfold Kind9 at h; rw [if_neg (fun e => h (.inl e)), if_neg (fun e => h (.inr (.inl e))), if_neg (fun e => h (.inr (.inr (.inl e)))), if_neg (fun e => h (.inr (.inr (.inr e))))]
theorem den9_i64 (k : Int) : I64 (den9 k) := by have := den9_bd k; unfold I64; omega
theorem num10_i64 (k : Int) (c : Nat) : I64 (num10 k c) := by have := num10_bd k c; unfold I64; omega
theorem gap9_i64 (k : Int) : I64 (gap9 k) := by have := gap9_bd k; unfold I64; omega
theorem len_prod {a b : Int} (ha : I64 a) (hb : I64 b) : (limbs (a * b).natAbs).length ≤ 2 := zlen_mul (len_one ha.abs) (len_one hb.abs)
theorem len_diff {a b : Int} {k : Nat} (ha : (limbs a.natAbs).length ≤ k) (hb : (limbs b.natAbs).length ≤ k) : (limbs (a - b).natAbs).length ≤ k + 1 := by rw [Int.sub_eq_add_neg]; exact zlen_add ha (by rw [Int.natAbs_neg]; exact hb)
theorem dst_len {k num den : Int} (hn : I64 num) (hd : I64 den) (c : Nat) : (limbs (dst k num den c).natAbs).length ≤ 3 := by
  unfold dst; rw [Int.natAbs_natCast]; exact len_diff (len_prod hn (den9_i64 k)) (len_prod (num10_i64 k c) hd)















end Go.Proofs.Ytpidpebgeblenaa

/-
  The contract of the tenth reference: Near.
-/
namespace Go.Proofs.Ytpidpebgeblenaa
open Go.RowKit
set_option linter.unusedVariables false
set_option linter.unusedSimpArgs false

theorem cmpZ_lt {a b : Int} : cmpZ a b < 0 ↔ a < b := by unfold cmpZ; split <;> (try split) <;> omega
theorem cmpZ_eq {a b : Int} : cmpZ a b = 0 ↔ a = b := by unfold cmpZ; split <;> (try split) <;> omega
theorem cmpZ_ngt {a b : Int} : cmpZ a b ≤ 0 ↔ a ≤ b := by unfold cmpZ; split <;> (try split) <;> omega
/-- As LoneZ; the box may be written. -/
def LoneF (V U : World) (g : Nat) (b : Bool) (A : Option Addr) (n k : Nat) (z : Int) : Prop := LoneZ V U g b A n k z ∧ U.frozen? ⟨g, 0, none⟩ = false ∧ U.frozen? ⟨g, 1, none⟩ = false
section
variable {V wz : World} {g : Nat} {b : Bool} {A : Option Addr} {n k : Nat} {z : Int}
theorem loneFA (h : Zn wz b A n k z) (qq : Below V.heap.size V wz) (T : TypeId) : LoneF V (wz.alloc (.cells #[.bool b, .slice A n k] T)) wz.heap.size b A n k z := ⟨loneZA h qq T, by simp [go_sem], by simp [go_sem]⟩
theorem loneFB (o0 : wz.cell? ⟨g, 0, none⟩ = some (.bool false)) (o1 : wz.cell? ⟨g, 1, none⟩ = some (.slice none 0 0)) (f0 : wz.frozen? ⟨g, 0, none⟩ = false) (f1 : wz.frozen? ⟨g, 1, none⟩ = false) (h : Zn wz b A n k z) (qq : Below V.heap.size V wz) (l : V.heap.size ≤ g) : LoneF V ((wz.setCell ⟨g, 0, none⟩ (.bool b)).setCell ⟨g, 1, none⟩ (.slice A n k)) g b A n k z := ⟨loneZB o0 o1 h qq l, by simpa [go_sem] using f0, by simpa [go_sem] using f1⟩
end



end Go.Proofs.Ytpidpebgeblenaa

/-
  Rows of bytes, blocks: what a slice value reads as, what keeps it, what is answered.
-/
namespace Go.Proofs.Ytpidpebgeblenaa
open Go.RowKit
set_option linter.unusedVariables false

/-- A block, and a code, are answered. -/
def GotBp (w : World) (k s : Int) (C : List Nat) (W : List Int) (r : Int) (e : Ending) (w' : World) : Prop :=
  ∃ A n c B m d, e = .returned (.tuple #[.agg #[.int .i64 k, .int .i64 s, .slice A n c, .slice B m d], .int .i64 r]) ∧ BR w' A n c C ∧ IR w' B m d W ∧ Below w.heap.size w w'
/-- What the first i are, one by one. -/
def anyK {α : Type} (P : α → Bool) (l : List α) (i : Nat) : Bool := (l.take i).any P
def allK {α : Type} (P : α → Bool) (l : List α) (i : Nat) : Bool := (l.take i).all P
theorem anyK_zero {α : Type} (P : α → Bool) (l : List α) : anyK P l 0 = false := by simp [anyK]
theorem allK_zero {α : Type} (P : α → Bool) (l : List α) : allK P l 0 = true := by simp [allK]
theorem take_at {α : Type} {l : List α} (d : α) {i : Nat} (h : i < l.length) : l.take (i + 1) = l.take i ++ [l[i]?.getD d] := by
  rw [List.take_add_one, List.getElem?_eq_getElem h]; rfl
theorem anyK_succ {α : Type} (P : α → Bool) {l : List α} (d : α) {i : Nat} (h : i < l.length) : anyK P l (i + 1) = (anyK P l i || P (l[i]?.getD d)) := by
  unfold anyK; rw [take_at d h, List.any_append]; simp
theorem allK_succ {α : Type} (P : α → Bool) {l : List α} (d : α) {i : Nat} (h : i < l.length) : allK P l (i + 1) = (allK P l i && P (l[i]?.getD d)) := by
  unfold allK; rw [take_at d h, List.all_append]; simp
theorem anyK_end {α : Type} (P : α → Bool) (l : List α) : anyK P l l.length = l.any P := by unfold anyK; rw [List.take_length]
theorem allK_end {α : Type} (P : α → Bool) (l : List α) : allK P l l.length = l.all P := by unfold allK; rw [List.take_length]
/-- A code of the greatest, told by what the tenth reference says of 1, and of -1. -/
def endP (top low : Nat) (sg : Bool) (c : Nat) : Bool := c == top || (sg && c == low)
theorem okC_eq {k s : Int} {C : List Nat} {sg : Bool} (hs : sg = decide (Shr k (-1) 1)) : decide (OkC k s C) = (if s = 0 then C.all (fun c => c == near10 k 0 1) else decide (0 < s) && C.any (endP (near10 k 1 1) (near10 k (-1) 1) sg)) := by
  have e : ∀ c, endP (near10 k 1 1) (near10 k (-1) 1) sg c = decide (EndC k c) := by
    intro c
    unfold endP
    rw [Bool.eq_iff_iff, Bool.or_eq_true, beq_iff_eq, Bool.and_eq_true, beq_iff_eq, hs, decide_eq_true_eq, decide_eq_true_eq]
    exact Iff.rfl
  split
  · rename_i h
    rw [Bool.eq_iff_iff, decide_eq_true_eq, List.all_eq_true]
    constructor
    · rintro (⟨_, g⟩ | ⟨g, _⟩)
      · intro c hc; rw [beq_iff_eq]; exact g c hc
      · omega
    · intro g; exact .inl ⟨h, fun c hc => beq_iff_eq.1 (g c hc)⟩
  · rename_i h
    rw [Bool.eq_iff_iff, decide_eq_true_eq, Bool.and_eq_true, decide_eq_true_eq, List.any_eq_true]
    constructor
    · rintro (⟨g, _⟩ | ⟨g, c, hc, g2⟩)
      · exact absurd g h
      · exact ⟨g, c, hc, by rw [e]; exact decide_eq_true g2⟩
    · rintro ⟨g, c, hc, g2⟩; exact .inr ⟨g, c, hc, by rw [e] at g2; exact of_decide_eq_true g2⟩
end Go.Proofs.Ytpidpebgeblenaa

/-
  Rows of integers and of bytes, blocks, two small integers that came in.
-/
namespace Go.Proofs.Ytpidpebgeblenaa
set_option maxRecDepth 100000
open Go.ChangeShapes Go.WideShapes Go.ChangeAt Go.RowKit Go.Joins

theorem ir_row {w : World} {a : Option Addr} {len cap : Nat} {zs : List Int}
    (h : (a = none ∧ len = 0 ∧ cap = 0 ∧ zs = []) ∨ ∃ x, a = some x ∧ len ≤ cap ∧ cap ≤ maxLen ∧ zs.length = cap ∧ (∀ i, i < zs.length → w.cell? (x.add i) = some (.int .i64 (zs.getD i 0))) ∧ ∀ n ∈ zs, (Lit.int .i64 n).wf = true) :
    ∃ l, IR w a len cap l ∧ len ≤ 9223372036854775807 ∧ ∀ x ∈ l, I64 x := by
  rcases h with ⟨rfl, rfl, rfl, rfl⟩ | ⟨x, rfl, hl, hm, hz, hc, hw⟩
  · exact ⟨[], IR.nil _ _ _, by omega, fun x hx => by simp at hx⟩
  · refine ⟨zs.take len, ⟨by simp; omega, hl, fun h0 => ?_⟩, by unfold maxLen at hm; omega, fun y hy => bounds_i64 (hw y (List.mem_of_mem_take hy))⟩
    obtain ⟨b, off, rfl, hcell⟩ := ints_at hc (by omega)
    refine ⟨b, off, rfl, block_lt (hcell 0 (by omega)), fun j hj => ?_⟩
    rw [hcell j (by omega), List.getElem?_take_of_lt hj]
    simp [List.getD_eq_getElem?_getD]
section
variable {H : Type} {enc : TypeId × Value → H} {W : World} {base : Nat} {held : Bool} {v : Value} {y : DataW H × List MemPlace} {n : Nat}
theorem trod_i64s (h : DataW.trod enc Try.prog W base (fun _ => true) held n 24 [v] = some y) :
    ∃ (a : Option Addr) (len cap : Nat) (l : List Int), v = .slice a len cap ∧ IR W a len cap l ∧ len ≤ 9223372036854775807 ∧ ∀ x ∈ l, I64 x := by
  rcases open_ints Try.underlying24 Try.underlying2 (by kernel_rfl) h with ⟨hcs, _⟩ | ⟨x, l, c, zs, hcs, _, hl, hm, hz, _, hcell, hwz⟩
  · injection hcs with hcs _
    subst hcs
    obtain ⟨l, hl⟩ := ir_row (w := W) (a := none) (len := 0) (cap := 0) (zs := []) (.inl ⟨rfl, rfl, rfl, rfl⟩)
    exact ⟨none, 0, 0, l, rfl, hl⟩
  · injection hcs with hcs _
    subst hcs
    obtain ⟨l', hl'⟩ := ir_row (w := W) (a := some x) (len := l) (cap := c) (zs := zs) (.inr ⟨x, rfl, hl, hm, by simpa using hz, hcell, hwz⟩)
    exact ⟨some x, l, c, l', rfl, hl'⟩
end
theorem open_i64s {H : Type} {enc : TypeId × Value → H} {W : World} {base b0 : Nat} {held : Bool} {r : Reach} {v : Value} {d : DataW H} {p : List MemPlace} (hv : Value.okWide Try.prog W r b0 24 v) (h : DataW.Trod enc Try.prog W base (fun _ => true) held 24 v d p) :
    ∃ (a : Option Addr) (len cap : Nat) (l : List Int), v = .slice a len cap ∧ IR W a len cap l ∧ len ≤ 9223372036854775807 ∧ ∀ x ∈ l, I64 x := by
  obtain ⟨a, len, cap, rfl⟩ := okWide_slice Try.underlying24 hv
  obtain ⟨fuel, hf⟩ := h
  exact trod_i64s hf
set_option maxRecDepth 100000 in
theorem open_block {H : Type} {enc : TypeId × Value → H} {W : World} {base b0 : Nat} {held : Bool} {r : Reach} {v : Value} {d : DataW H} {p : List MemPlace} (hv : Value.okWide Try.prog W r b0 34 v) (h : DataW.Trod enc Try.prog W base (fun _ => true) held 34 v d p) :
    ∃ (k s : Int) (a : Option Addr) (n c : Nat) (C : List Nat) (b : Option Addr) (m e : Nat) (L : List Int), v = .agg #[.int .i64 k, .int .i64 s, .slice a n c, .slice b m e] ∧ BR W a n c C ∧ IR W b m e L ∧ n ≤ 9223372036854775807 ∧ m ≤ 9223372036854775807 ∧ I64 s := by
  obtain ⟨v0, v1, v2, v3, y0, y1, y2, y3, n, rfl, _, _, h0, h1, h2, h3⟩ := open_agg4 Try.underlying34 (by kernel_rfl) (by kernel_rfl) hv h
  obtain ⟨k, hk, _, _⟩ := DataW.trod_int Try.underlying3 h0
  obtain ⟨s, hs, _, ws⟩ := DataW.trod_int Try.underlying2 h1
  obtain ⟨a, n, c, C, e2, hC, hn, _⟩ := trod_u8s h2
  obtain ⟨b, m, e, L, e3, hL, hm, _⟩ := trod_i64s h3
  injection hk with hk _
  injection hs with hs _
  subst hk hs e2 e3
  exact ⟨k, s, a, n, c, C, b, m, e, L, rfl, hC, hL, hn, hm, bounds_i64 ws⟩
end Go.Proofs.Ytpidpebgeblenaa

/-
  Rows of blocks: what a slice value reads as, what keeps it.
-/
namespace Go.Proofs.Ytpidpebgeblenaa
open Go.RowKit
set_option linter.unusedVariables false

/-- A block: its kind, its scale, its codes, its wide ones. -/
abbrev Bk := Int × Int × List Nat × List Int
def bk0 : Bk := (0, 0, [], [])
/-- The four cells of a block, and what its rows read as. -/
def BlkAt (w : World) (b o : Nat) (x : Bk) : Prop :=
  ∃ A n c B m d, w.cell? ⟨b, o, none⟩ = some (.int .i64 x.1) ∧ w.cell? ⟨b, o + 1, none⟩ = some (.int .i64 x.2.1) ∧ w.cell? ⟨b, o + 2, none⟩ = some (.slice A n c) ∧ w.cell? ⟨b, o + 3, none⟩ = some (.slice B m d) ∧ BR w A n c x.2.2.1 ∧ IR w B m d x.2.2.2 ∧ n ≤ 9223372036854775807 ∧ m ≤ 9223372036854775807 ∧ I64 x.2.1 ∧ ∀ z ∈ x.2.2.2, I64 z
theorem BlkAt.on {w w' : World} {b o : Nat} {x : Bk} (h : BlkAt w b o x) (hb : Below w.heap.size w w') : BlkAt w' b o x := by
  obtain ⟨A, n, c, B, m, d, h0, h1, h2, h3, hC, hW, hn, hm⟩ := h
  have hl : b < w.heap.size := by
    rcases Nat.lt_or_ge b w.heap.size with h4 | h4
    · exact h4
    · simp [World.cell?, Array.getElem?_eq_none h4] at h0
  exact ⟨A, n, c, B, m, d, cK hb h0 hl, cK hb h1 hl, cK hb h2 hl, cK hb h3 hl, hC.on hb, hW.on hb, hn, hm⟩
/-- The slice value '.slice A n c' holds the blocks L. -/
def KR (w : World) (A : Option Addr) (n c : Nat) (L : List Bk) : Prop :=
  n = L.length ∧ n ≤ c ∧ (0 < n → ∃ b off, A = some ⟨b, off, none⟩ ∧ b < w.heap.size ∧ ∀ j, j < n → BlkAt w b (off + j * 4) (L[j]?.getD bk0))
theorem KR.on {w w' : World} {A : Option Addr} {n c : Nat} {L : List Bk} (h : KR w A n c L) (hb : Below w.heap.size w w') : KR w' A n c L :=
  ⟨h.1, h.2.1, fun hn => by
    obtain ⟨b, off, e, hlt, hc⟩ := h.2.2 hn
    exact ⟨b, off, e, Nat.lt_of_lt_of_le hlt hb.size, fun j hj => (hc j hj).on hb⟩⟩
theorem KR.nil (w : World) (A : Option Addr) (c : Nat) : KR w A 0 c [] := ⟨rfl, Nat.zero_le _, fun h => absurd h (by omega)⟩
theorem KR.some {w : World} {A : Option Addr} {n c : Nat} {L : List Bk} (h : KR w A n c L) (hn : 0 < n) : ∃ b off, A = Option.some ⟨b, off, none⟩ ∧ b < w.heap.size := by
  obtain ⟨b, off, e, hlt, hc⟩ := h.2.2 hn
  exact ⟨b, off, e, hlt⟩
theorem kr_at {w : World} {b off n c j : Nat} {L : List Bk} (h : KR w (some ⟨b, off, none⟩) n c L) (hj : j < n) : BlkAt w b (off + j * 4) (L[j]?.getD bk0) := by
  obtain ⟨b', off', e, hlt, hc⟩ := h.2.2 (by omega)
  injection e with e
  injection e with e1 e2
  subst e1 e2
  exact hc j hj
end Go.Proofs.Ytpidpebgeblenaa

/-
  Keeps and Stores that came in.
-/
namespace Go.Proofs.Ytpidpebgeblenaa
set_option maxRecDepth 100000
open Go.ChangeShapes Go.WideShapes Go.ChangeAt Go.RowKit Go.Joins Go.Deep
set_option linter.unusedVariables false

section
variable {H : Type} {enc : TypeId × Value → H} {W : World} {base : Nat} {held : Bool} {y : DataW H × List MemPlace} {n : Nat}
theorem trod_blk {cs : List Value} (h : DataW.trod enc Try.prog W base (fun _ => true) held n 34 cs = some y) :
    ∃ (k s : Int) (a : Option Addr) (n c : Nat) (C : List Nat) (b : Option Addr) (m e : Nat) (L : List Int), cs = [.int .i64 k, .int .i64 s, .slice a n c, .slice b m e] ∧ BR W a n c C ∧ IR W b m e L ∧ n ≤ 9223372036854775807 ∧ m ≤ 9223372036854775807 ∧ I64 s ∧ ∀ z ∈ L, I64 z := by
  obtain ⟨y0, y1, y2, y3, n, _, hl, h0, h1, h2, h3⟩ := trod_struct4 Try.underlying34 h
  have k4 : Try.prog.cellsOf 34 = 4 := by kernel_rfl
  have ki : Try.prog.cellsOf 3 = 1 := by kernel_rfl
  have kj : Try.prog.cellsOf 2 = 1 := by kernel_rfl
  have kb : Try.prog.cellsOf 32 = 1 := by kernel_rfl
  have kl : Try.prog.cellsOf 24 = 1 := by kernel_rfl
  rw [k4] at hl
  match cs, hl with
  | [v0, v1, v2, v3], _ =>
    simp only [ki, kj, kb, kl] at h0 h1 h2 h3
    obtain ⟨k, hk, _, _⟩ := DataW.trod_int Try.underlying3 h0
    obtain ⟨s, hs, _, ws⟩ := DataW.trod_int Try.underlying2 h1
    obtain ⟨a, n, c, C, e2, hC, hn, _⟩ := trod_u8s (v := v2) h2
    obtain ⟨b, m, e, L, e3, hL, hm, hi⟩ := trod_i64s (v := v3) h3
    have hk2 : v0 = .int .i64 k := by injection hk
    have hs2 : v1 = .int .i64 s := by injection hs
    subst hk2 hs2 e2 e3
    exact ⟨k, s, a, n, c, C, b, m, e, L, rfl, hC, hL, hn, hm, bounds_i64 ws, hi⟩
theorem trod_blks {v : Value} (h : DataW.trod enc Try.prog W base (fun _ => true) held n 26 [v] = some y) :
    ∃ (A : Option Addr) (n c : Nat) (L : List Bk), v = .slice A n c ∧ KR W A n c L ∧ n ≤ 9223372036854775807 := by
  have k4 : Try.prog.cellsOf 34 = 4 := by kernel_rfl
  rcases open_slice Try.underlying26 h with ⟨hcs, _⟩ | ⟨a, len, cap, m, n, D, Pl, hcs, _, hl, hm, hmm, _, hx⟩
  · injection hcs with hcs _
    exact ⟨none, 0, 0, [], hcs, KR.nil _ _ _, by omega⟩
  · injection hcs with hcs _
    have hm2 : m = cap := by simpa using hmm
    rw [k4] at hx
    refine ⟨some a, len, cap, ?_⟩
    rcases Nat.eq_zero_or_pos len with h0 | h0
    · subst h0
      exact ⟨[], hcs, KR.nil _ _ _, by omega⟩
    · have hsp : a.spot = none := by
        obtain ⟨cs', h1, h2⟩ := hx 0 (by omega)
        obtain ⟨_, hlen, hc⟩ := World.cells?_some h1
        obtain ⟨k, s, A, n, c, C, B, m, e, L, rfl, _⟩ := trod_blk h2
        simpa [Addr.add] using World.cell?_spot (hc 0 (by omega))
      obtain ⟨b, off, spot⟩ := a
      have hsp2 : spot = none := hsp
      subst hsp2
      have cell : ∀ i, i < len → ∃ x : Bk, BlkAt W b (off + i * 4) x := fun i hi => by
        obtain ⟨cs', h1, h2⟩ := hx i (by omega)
        obtain ⟨_, hlen, hc⟩ := World.cells?_some h1
        obtain ⟨k, s, A, n, c, C, B, m, e, L, rfl, hC, hL, hn, hm3, hs, hz⟩ := trod_blk h2
        refine ⟨(k, s, C, L), A, n, c, B, m, e, ?_, ?_, ?_, ?_, hC, hL, hn, hm3, hs, hz⟩
        · have := hc 0 (by omega); rw [addr_add, addr_add] at this; exact this
        · have := hc 1 (by omega); rw [addr_add, addr_add] at this; exact this
        · have := hc 2 (by omega); rw [addr_add, addr_add] at this; exact this
        · have := hc 3 (by omega); rw [addr_add, addr_add] at this; exact this
      let f : Nat → Bk := fun i => if h : i < len then (cell i h).choose else bk0
      have hf : ∀ i, (h : i < len) → BlkAt W b (off + i * 4) (f i) := fun i h => by
        show BlkAt W b (off + i * 4) (if h : i < len then (cell i h).choose else bk0)
        rw [dif_pos h]
        exact (cell i h).choose_spec
      refine ⟨(List.range len).map f, hcs, ⟨by simp, hl, fun _ => ⟨b, off, rfl, ?_, fun j hj => ?_⟩⟩, by unfold maxLen at hm; omega⟩
      · obtain ⟨A, n, c, B, m, d, h0, _⟩ := hf 0 h0
        exact cell_blockB h0
      · rw [List.getElem?_map, List.getElem?_range hj]
        exact hf j hj
theorem trod_keep {cs : List Value} (h : DataW.trod enc Try.prog W base (fun _ => true) held n 23 cs = some y) :
    ∃ kk ks km ko : Int, cs = [.int .i64 kk, .int .i64 ks, .int .i64 km, .int .i64 ko] ∧ I64 kk ∧ I64 ks ∧ I64 km ∧ I64 ko := by
  obtain ⟨y0, y1, y2, y3, n, _, hl, h0, h1, h2, h3⟩ := trod_struct4 Try.underlying23 h
  have k4 : Try.prog.cellsOf 23 = 4 := by kernel_rfl
  have ki : Try.prog.cellsOf 3 = 1 := by kernel_rfl
  have kj : Try.prog.cellsOf 2 = 1 := by kernel_rfl
  rw [k4] at hl
  match cs, hl with
  | [v0, v1, v2, v3], _ =>
    simp only [ki, kj] at h0 h1 h2 h3
    obtain ⟨a, ha, _, wa⟩ := DataW.trod_int Try.underlying3 h0
    obtain ⟨b, hb, _, wb⟩ := DataW.trod_int Try.underlying3 h1
    obtain ⟨c, hc, _, wc⟩ := DataW.trod_int Try.underlying3 h2
    obtain ⟨d, hd, _, wd⟩ := DataW.trod_int Try.underlying2 h3
    have ha2 : v0 = .int .i64 a := by injection ha
    have hb2 : v1 = .int .i64 b := by injection hb
    have hc2 : v2 = .int .i64 c := by injection hc
    have hd2 : v3 = .int .i64 d := by injection hd
    subst ha2 hb2 hc2 hd2
    exact ⟨a, b, c, d, rfl, bounds_i64 wa, bounds_i64 wb, bounds_i64 wc, bounds_i64 wd⟩
end
theorem list_six {α : Type} {l : List α} (h : l.length = 6) : ∃ a b c d e f, l = [a, b, c, d, e, f] := by
  match l, h with
  | [a, b, c, d, e, f], _ => exact ⟨a, b, c, d, e, f, rfl⟩
set_option maxRecDepth 100000 in
theorem open_keep {H : Type} {enc : TypeId × Value → H} {W : World} {base b0 : Nat} {held : Bool} {r : Reach} {v : Value} {d : DataW H} {p : List MemPlace} (hv : Value.okWide Try.prog W r b0 23 v) (h : DataW.Trod enc Try.prog W base (fun _ => true) held 23 v d p) :
    ∃ kk ks km ko : Int, v = .agg #[.int .i64 kk, .int .i64 ks, .int .i64 km, .int .i64 ko] ∧ I64 kk ∧ I64 ks ∧ I64 km ∧ I64 ko := by
  obtain ⟨cs, rfl, hsz⟩ := okWide_struct Try.underlying23 hv
  obtain ⟨fuel, hf⟩ := h
  obtain ⟨kk, ks, km, ko, e, h1⟩ := trod_keep hf
  obtain ⟨l⟩ := cs
  have e2 : l = [.int .i64 kk, .int .i64 ks, .int .i64 km, .int .i64 ko] := e
  subst e2
  exact ⟨kk, ks, km, ko, rfl, h1⟩
set_option maxRecDepth 100000 in
theorem open_store {H : Type} {enc : TypeId × Value → H} {W : World} {base b0 : Nat} {held : Bool} {r : Reach} {v : Value} {d : DataW H} {p : List MemPlace} (hv : Value.okWide Try.prog W r b0 28 v) (h : DataW.Trod enc Try.prog W base (fun _ => true) held 28 v d p) :
    ∃ (kk ks km ko lg : Int) (A : Option Addr) (n c : Nat) (L : List Bk), v = .agg #[.int .i64 kk, .int .i64 ks, .int .i64 km, .int .i64 ko, .int .i64 lg, .slice A n c] ∧ KR W A n c L ∧ n ≤ 9223372036854775807 ∧ (I64 kk ∧ I64 ks ∧ I64 km ∧ I64 ko ∧ I64 lg) := by
  obtain ⟨cs, rfl, hsz⟩ := okWide_struct Try.underlying28 hv
  obtain ⟨fuel, hf⟩ := h
  have k6 : Try.prog.cellsOf 28 = 6 := by kernel_rfl
  have k4 : Try.prog.cellsOf 23 = 4 := by kernel_rfl
  have ki : Try.prog.cellsOf 3 = 1 := by kernel_rfl
  have kb : Try.prog.cellsOf 26 = 1 := by kernel_rfl
  obtain ⟨l⟩ := cs
  obtain ⟨c0, c1, c2, c3, c4, c5, rfl⟩ := list_six (hsz.trans k6)
  obtain ⟨y0, y1, y2, n, _, _, h0, h1, h2⟩ := trod_struct3 Try.underlying28 hf
  simp only [Value.cells, k4, ki, kb] at h0 h1 h2
  obtain ⟨kk, ks, km, ko, e, w0, w1, w2, w3⟩ := trod_keep h0
  obtain ⟨lg, hlg, _, w4⟩ := DataW.trod_int Try.underlying3 h1
  obtain ⟨A, n, c, L, e5, hK, hn⟩ := trod_blks (v := c5) h2
  have e' : [c0, c1, c2, c3] = [.int .i64 kk, .int .i64 ks, .int .i64 km, .int .i64 ko] := e
  have hlg2 : [c4] = [.int .i64 lg] := hlg
  injection e' with a0 e'
  injection e' with a1 e'
  injection e' with a2 e'
  injection e' with a3 _
  injection hlg2 with a4 _
  subst a0 a1 a2 a3 a4 e5
  exact ⟨kk, ks, km, ko, lg, A, n, c, L, rfl, hK, hn, w0, w1, w2, w3, bounds_i64 w4⟩
end Go.Proofs.Ytpidpebgeblenaa

/-
  Spans: values, boxes, what is answered.
-/
namespace Go.Proofs.Ytpidpebgeblenaa
open Go.RowKit
set_option linter.unusedVariables false
set_option linter.unusedSimpArgs false

/-- A span: both ends. -/
def St (w : World) (b : Bool) (A : Option Addr) (n c : Nat) (B : Option Addr) (m d : Nat) (v : Bool) (V : Option Addr) (r k : Nat) (U : Option Addr) (o q : Nat) (x y : Rat) : Prop := Rt w b A n c B m d x ∧ Rt w v V r k U o q y
/-- A call has answered a span; and one with a code. -/
def GotSt (w : World) (x y : Rat) (e : Ending) (w' : World) : Prop := ∃ b A n c B m d v V r k U o q, e = .returned (.agg #[.bool b, .slice A n c, .slice B m d, .bool v, .slice V r k, .slice U o q]) ∧ St w' b A n c B m d v V r k U o q x y ∧ Below w.heap.size w w'
def GotSp (w : World) (x y : Rat) (z : Int) (e : Ending) (w' : World) : Prop := ∃ b A n c B m d v V r k U o q, e = .returned (.tuple #[.agg #[.bool b, .slice A n c, .slice B m d, .bool v, .slice V r k, .slice U o q], .int .i64 z]) ∧ St w' b A n c B m d v V r k U o q x y ∧ Below w.heap.size w w'
/-- A box of six cells, none of which is a digit. -/
def Held (W : World) (g : Nat) : Prop := ∀ i, i < 6 → ∃ u, W.cell? ⟨g, i, none⟩ = some u ∧ ∀ k n, u ≠ .int k n
theorem held6 {W : World} {g : Nat} {b v : Bool} {A B V U : Option Addr} {n c m d r k o q : Nat} (h0 : W.cell? ⟨g, 0, none⟩ = some (.bool b)) (h1 : W.cell? ⟨g, 1, none⟩ = some (.slice A n c)) (h2 : W.cell? ⟨g, 2, none⟩ = some (.slice B m d)) (h3 : W.cell? ⟨g, 3, none⟩ = some (.bool v)) (h4 : W.cell? ⟨g, 4, none⟩ = some (.slice V r k)) (h5 : W.cell? ⟨g, 5, none⟩ = some (.slice U o q)) : Held W g := by
  intro i hi
  match i, hi with
  | 0, _ => exact ⟨_, h0, fun _ _ e => by cases e⟩
  | 1, _ => exact ⟨_, h1, fun _ _ e => by cases e⟩
  | 2, _ => exact ⟨_, h2, fun _ _ e => by cases e⟩
  | 3, _ => exact ⟨_, h3, fun _ _ e => by cases e⟩
  | 4, _ => exact ⟨_, h4, fun _ _ e => by cases e⟩
  | 5, _ => exact ⟨_, h5, fun _ _ e => by cases e⟩
theorem Held.set {W : World} {g j : Nat} {v : Value} (h : Held W g) (hj : j < 6) (hv : ∀ k n, v ≠ .int k n) : Held (W.setCell ⟨g, j, none⟩ v) g := by
  intro i hi
  obtain ⟨u, h1, h2⟩ := h i hi
  by_cases e : j = i
  · subst e
    exact ⟨v, World.cell?_setCell_same _ _ _ h1, hv⟩
  · exact ⟨u, (World.cell?_setCell_other _ _ _ _ (addr_ne e)).trans h1, h2⟩
theorem Num.held {W : World} {g j : Nat} {v : Value} {A : Option Addr} {n c x : Nat} (hn : Num W A n c x) (h : Held W g) (hj : j < 6) : Num (W.setCell ⟨g, j, none⟩ v) A n c x := by
  obtain ⟨u, h1, h2⟩ := h j hj
  exact hn.set_other h1 h2
/-- All six cells are written. -/
@[reducible] def putS (W : World) (g : Nat) (a b c d e f : Value) : World := (((((W.setCell ⟨g, 0, none⟩ a).setCell ⟨g, 1, none⟩ b).setCell ⟨g, 2, none⟩ c).setCell ⟨g, 3, none⟩ d).setCell ⟨g, 4, none⟩ e).setCell ⟨g, 5, none⟩ f
theorem cell_putS {w : World} {s b o : Nat} {u1 u2 u3 u4 u5 u6 : Value} (h : b ≠ s) : (putS w s u1 u2 u3 u4 u5 u6).cell? ⟨b, o, none⟩ = w.cell? ⟨b, o, none⟩ := by
  unfold putS
  iterate 6 rw [World.cell?_setCell_other (h := addr_ne' (Ne.symm h))]
theorem below_putS {C g : Nat} {V W : World} (h : Below C V W) (hg : C ≤ g) (a b c d e f : Value) : Below C V (putS W g a b c d e f) := (((((h.setCell (p := ⟨g, 0, none⟩) hg a).setCell (p := ⟨g, 1, none⟩) hg b).setCell (p := ⟨g, 2, none⟩) hg c).setCell (p := ⟨g, 3, none⟩) hg d).setCell (p := ⟨g, 4, none⟩) hg e).setCell (p := ⟨g, 5, none⟩) hg f
section
variable {W : World} {g : Nat}
theorem Num.putS {A : Option Addr} {n c x : Nat} (hn : Num W A n c x) (h : Held W g) (b v : Bool) (u1 u2 u4 u5 : Option Addr × Nat × Nat) : Num (putS W g (.bool b) (.slice u1.1 u1.2.1 u1.2.2) (.slice u2.1 u2.2.1 u2.2.2) (.bool v) (.slice u4.1 u4.2.1 u4.2.2) (.slice u5.1 u5.2.1 u5.2.2)) A n c x := by
  have k0 := h.set (j := 0) (v := .bool b) (by omega) (fun _ _ e => by cases e)
  have k1 := k0.set (j := 1) (v := .slice u1.1 u1.2.1 u1.2.2) (by omega) (fun _ _ e => by cases e)
  have k2 := k1.set (j := 2) (v := .slice u2.1 u2.2.1 u2.2.2) (by omega) (fun _ _ e => by cases e)
  have k3 := k2.set (j := 3) (v := .bool v) (by omega) (fun _ _ e => by cases e)
  have k4 := k3.set (j := 4) (v := .slice u4.1 u4.2.1 u4.2.2) (by omega) (fun _ _ e => by cases e)
  exact (((((hn.held h (by omega)).held k0 (by omega)).held k1 (by omega)).held k2 (by omega)).held k3 (by omega)).held k4 (by omega)
theorem Rt.putS {b0 : Bool} {A0 B0 : Option Addr} {n0 c0 m0 d0 : Nat} {x : Rat} (hr : Rt W b0 A0 n0 c0 B0 m0 d0 x) (h : Held W g) (b v : Bool) {A1 A2 A4 A5 : Option Addr} {n1 c1 n2 c2 n4 c4 n5 c5 : Nat} : Rt (putS W g (.bool b) (.slice A1 n1 c1) (.slice A2 n2 c2) (.bool v) (.slice A4 n4 c4) (.slice A5 n5 c5)) b0 A0 n0 c0 B0 m0 d0 x :=
  ⟨⟨hr.1.1.putS h b v (A1, n1, c1) (A2, n2, c2) (A4, n4, c4) (A5, n5, c5), hr.1.2⟩, hr.2.putS h b v (A1, n1, c1) (A2, n2, c2) (A4, n4, c4) (A5, n5, c5)⟩
end

end Go.Proofs.Ytpidpebgeblenaa

/-
  The contracts of the seventh reference: Same, Has, In.
-/
namespace Go.Proofs.Ytpidpebgeblenaa
open Go.RowKit
set_option linter.unusedVariables false
set_option linter.unusedSimpArgs false






theorem cmpQ_le {a b : Rat} : cmpQ a b ≤ 0 ↔ a ≤ b := by unfold cmpQ; grind





end Go.Proofs.Ytpidpebgeblenaa

/-
  The contracts of the seventh reference: Add.
-/
namespace Go.Proofs.Ytpidpebgeblenaa
open Go.RowKit
set_option linter.unusedVariables false
set_option linter.unusedSimpArgs false


end Go.Proofs.Ytpidpebgeblenaa

/-
  The contracts of the eighth reference: Add, Sub, Mul, Div, Scale.
-/
namespace Go.Proofs.Ytpidpebgeblenaa
open Go.RowKit
set_option linter.unusedVariables false
set_option linter.unusedSimpArgs false

theorem bak_sz8 {a : Int} (h : I64 a) {k : Nat} (hk : k ≤ 500) : Sz (bak a k) 8 := bak_sz (Nat.le_trans (len_one h.abs) (by omega)) (by omega) hk
theorem of_nought {a : Int} : ((a : Int) : Rat).num = a := rfl



theorem prod_sz {a b : Int} (ha : I64 a) (hb : I64 b) {k : Nat} (hk : k ≤ 40) : Sz (bak a k * bak b k) 15 := by
  have h1 : ∀ {z : Int}, I64 z → Sz (bak z k) 7 := fun {z} h => sz_mk (pow_ne k) (Nat.le_trans (len_one h.abs) (by omega)) (Nat.le_trans (len_one (Nat.lt_of_le_of_lt (Nat.pow_le_pow_right (by omega) hk) (by decide))) (by omega))
  exact ((h1 ha).mul (h1 hb)).le (by omega)








end Go.Proofs.Ytpidpebgeblenaa

/-
  The contracts of the eleventh reference: Few, Len; Same of rows.
-/
namespace Go.Proofs.Ytpidpebgeblenaa
set_option maxRecDepth 100000
open Go.RowKit
set_option linter.unusedVariables false
set_option linter.unusedSimpArgs false



set_option maxRecDepth 100000 in
set_option maxHeartbeats 8000000 in
theorem rsame9_len (w : World) {A B : Option Addr} {n c m d : Nat} (h : n ≠ m) :
    Calls Try.prog 19 #[.slice A n c, .slice B m d] w (GotV w (.bool false)) := by
  have e1 : ((n : Int) == (m : Int)) = false := beq_eq_false_iff_ne.2 (by omega)
  have e2 : ((n : Int) != (m : Int)) = true := by simp; omega
  have e3 : (n == m) = false := beq_eq_false_iff_ne.2 h
  have e4 : (n != m) = true := by simp; omega
  clear h
  have cc := Below.refl w.heap.size w
  go_enter Try.func19, Try.ntmps19
  go_wp2_with fail
  go_wp2_with fail
  go_ret
  exact ⟨rfl, cc⟩

set_option maxRecDepth 100000 in
set_option maxHeartbeats 8000000 in
theorem rsame9_eq {w : World} {A B : Option Addr} {n c d : Nat} {L K : List Int} (hA : IR w A n c L) (hB : IR w B n d K) (hn : n ≤ 9223372036854775807) :
    Calls Try.prog 19 #[.slice A n c, .slice B n d] w (GotV w (.bool (decide (L = K)))) := by
  have hl : n = L.length := hA.1
  have hl2 : n = K.length := hB.1
  obtain ⟨r, hr⟩ : ∃ r, decide (L = K) = r := ⟨_, rfl⟩
  rw [hr]
  have cc := Below.refl w.heap.size w
  go_enter Try.func19, Try.ntmps19
  go_wp2_with fail
  go_wp2_with fail
  go_loopw [5] (fun iv wr => ∃ i : Nat, i ≤ n ∧ iv = .int .i64 (i : Int) ∧ (∀ j, j < i → L[j]?.getD 0 = K[j]?.getD 0) ∧ Below w.heap.size w wr) (fun iv _ => n - (intOf iv).toNat)
  case atStart => exact ⟨0, by omega, rfl, fun j h => absurd h (by omega), Below.refl _ _⟩
  case round =>
    obtain ⟨i, hi, rfl, hj, hbl⟩ := hrel
    by_cases hlt : i < n
    · obtain ⟨b1, o1, rfl, hb1, hc1⟩ := (hA.on hbl).2.2 (by omega)
      obtain ⟨b2, o2, rfl, hb2, hc2⟩ := (hB.on hbl).2.2 (by omega)
      have h1 := hc1 i hlt
      have h2 := hc2 i hlt
      have k3 : IntKind.i64.wrap ((i : Int) + 1) = ((i + 1 : Nat) : Int) := by rw [IntWalk.i64_in _ (by omega)]; omega
      clear hc1 hc2
      obtain ⟨x, hx⟩ : ∃ x, L[i]?.getD 0 = x := ⟨_, rfl⟩
      obtain ⟨y, hy⟩ : ∃ y, K[i]?.getD 0 = y := ⟨_, rfl⟩
      rw [hx] at h1
      rw [hy] at h2
      by_cases hxy : x = y
      · have t1 : (x == y) = true := beq_iff_eq.2 hxy
        have t2 : (x != y) = false := by simp; exact hxy
        have HJ : Hid (∀ j, j < i + 1 → L[j]?.getD 0 = K[j]?.getD 0) := Lib.hid (fun j h => by
          rcases Nat.lt_or_ge j i with e | e
          · exact hj j e
          · have e2 : j = i := by omega
            rw [e2, hx, hy]; exact hxy)
        clear hj hx hy hl hl2 hr hxy
        go_wp2_with fail
        go_region_held3 (fun w' => w'.cell? ⟨b1, o1 + i, none⟩ = some (.int .i64 x) ∧ w'.cell? ⟨b2, o2 + i, none⟩ = some (.int .i64 y)) (exact ⟨h1, h2⟩) (fail)
        go_wp2_with fail
        go_roundw
        case rel => exact ⟨i + 1, by omega, rfl, HJ.out, below_drewN hbl 1⟩
        case measure => simp [intOf] <;> omega
      · have t1 : (x == y) = false := beq_eq_false_iff_ne.2 hxy
        have t2 : (x != y) = true := by simp; exact hxy
        have hF : r = false := by rw [← hr]; exact decide_eq_false (fun h => hxy (by rw [← hx, ← hy, h]))
        subst hF
        clear hj hx hy hl hl2 hr hxy
        go_wp2_with fail
        go_region_held3 (fun w' => w'.cell? ⟨b1, o1 + i, none⟩ = some (.int .i64 x) ∧ w'.cell? ⟨b2, o2 + i, none⟩ = some (.int .i64 y)) (exact ⟨h1, h2⟩) (fail)
        go_wp2_with fail
        go_ret
        exact ⟨rfl, below_drewN hbl 1⟩
    · obtain rfl : i = n := by omega
      have hT : r = true := by
        rw [← hr]; refine decide_eq_true (List.ext_getElem (by omega) fun j h1 h2 => ?_)
        have := hj j (by omega)
        rwa [List.getElem?_eq_getElem h1, List.getElem?_eq_getElem h2] at this
      subst hT
      clear hj hl hl2 hr
      go_wp2_with fail
      go_ret
      exact ⟨rfl, hbl⟩

theorem rsame9_any {w : World} {A B : Option Addr} {n c m d : Nat} {L K : List Int} (hA : IR w A n c L) (hB : IR w B m d K) (hn : n ≤ 9223372036854775807) : Calls Try.prog 19 #[.slice A n c, .slice B m d] w (GotV w (.bool (decide (L = K)))) := by
  by_cases h : n = m
  · subst h; exact rsame9_eq hA hB hn
  · rw [decide_eq_false (fun e => h (by rw [hA.1, hB.1, e]))]; exact rsame9_len w h

end Go.Proofs.Ytpidpebgeblenaa

/-
  The contracts of the eleventh reference: Greatest, Load.
-/
namespace Go.Proofs.Ytpidpebgeblenaa
open Go.RowKit
set_option linter.unusedVariables false
set_option linter.unusedSimpArgs false

/-- The greatest of three, behind a name. -/
def mxT (a b : Int) : Int := max (max a b) (-b)
theorem mxT_run {P : Program} (w : World) (ts : Array TypeId) (t : TypeId) (x y z : Int) (h : z = -y) : (Builtin.max_ ts t #[.int .i64 x, .int .i64 y, .int .i64 z]).run P w = .ok (.int .i64 (mxT x y)) w := by
  rw [run_max_int3, h]
  congr 2
  unfold mxT
  split <;> split <;> omega
theorem map_take {k s : Int} {C : List Nat} {i : Nat} (h : i < C.length) : (C.take (i + 1)).map (ld k s) = (C.take i).map (ld k s) ++ [ld k s (C[i]?.getD 0)] := by
  rw [take_at 0 h, List.map_append]; rfl

attribute [local go_sem ↓] mxT_run




end Go.Proofs.Ytpidpebgeblenaa

/-
  What the landed block's calls of the library answer: one byte counted, found; rows cloned, compared.
-/
namespace Go.Proofs.Ytpidpebgeblenaa
set_option maxRecDepth 100000
open Go.RowKit
set_option linter.unusedVariables false
set_option linter.unusedSimpArgs false

/-- The bytes of a row as integers. -/
def ints8 (C : List Nat) : List Int := C.map fun (x : Nat) => (x : Int)
theorem ints8_len (C : List Nat) : (ints8 C).length = C.length := List.length_map _
theorem br_ints {w : World} {b off n c : Nat} {C : List Nat} (h : BR w (some ⟨b, off, none⟩) n c C) : ∀ i, i < n → w.cell? ⟨b, off + i, none⟩ = some (.int .u8 ((ints8 C).getD i 0)) := by
  intro i hi
  rw [h.cell hi]
  have hl : i < C.length := by rw [← h.1]; exact hi
  unfold ints8
  rw [List.getD_eq_getElem?_getD, List.getElem?_map, List.getElem?_eq_getElem hl]
  rfl
theorem ofNat8 {x y : Nat} (hx : x < 256) (hy : y < 256) : (UInt8.ofNat x = UInt8.ofNat y) ↔ x = y := by
  constructor
  · intro h
    have := congrArg UInt8.toNat h
    rw [UInt8.toNat_ofNat', UInt8.toNat_ofNat'] at this
    omega
  · rintro rfl; rfl
/-- The place of a byte; how often it stands there. -/
def ixB (C : List Nat) (c : Nat) : Int := Lib.indexByte (Lib.bytesOf (ints8 C)) (c : Int).toNat.toUInt8
def ctB (C : List Nat) (c : Nat) : Nat := Lib.countByte (Lib.bytesOf (ints8 C)) (c : Int).toNat.toUInt8
theorem bytesOf_ints8 (x : Nat) (C : List Nat) : Lib.bytesOf (ints8 (x :: C)) = UInt8.ofNat x :: Lib.bytesOf (ints8 C) := by simp [Lib.bytesOf, ints8]
theorem ixB_mem {C : List Nat} {c : Nat} (hC : ∀ x ∈ C, x < 256) (hc : c < 256) : 0 ≤ ixB C c ↔ c ∈ C := by
  unfold ixB
  have e : (c : Int).toNat.toUInt8 = UInt8.ofNat c := by simp
  rw [e]
  induction C with
  | nil => simp [Lib.bytesOf, ints8, Lib.indexByte]
  | cons x C ih =>
    have ih := ih (fun y hy => hC y (List.mem_cons_of_mem _ hy))
    have hx := hC x (List.mem_cons_self ..)
    have hg := Lib.indexByte_ge (Lib.bytesOf (ints8 C)) (UInt8.ofNat c)
    rw [bytesOf_ints8]
    unfold Lib.indexByte
    by_cases h : x = c
    · subst h; simp
    · have h1 : (UInt8.ofNat x == UInt8.ofNat c) = false := beq_eq_false_iff_ne.2 (fun e => h ((ofNat8 hx hc).1 e))
      rw [h1, List.mem_cons]
      simp only [Bool.false_eq_true, if_false]
      generalize Lib.indexByte (Lib.bytesOf (ints8 C)) (UInt8.ofNat c) = z at *
      by_cases h2 : z = -1
      · subst h2
        have h3 : ¬ c ∈ C := fun e => by have := ih.2 e; omega
        simp only [beq_self_eq_true, if_true]
        exact ⟨fun e => by omega, fun e => (by rcases e with e | e; exact absurd e.symm h; exact absurd e h3)⟩
      · have h3 : (z == -1) = false := beq_eq_false_iff_ne.2 h2
        rw [h3]
        simp only [Bool.false_eq_true, if_false]
        exact ⟨fun e => .inr (ih.1 (by omega)), fun e => (by rcases e with e | e; exact absurd e.symm h; have := ih.2 e; omega)⟩
theorem ixB_ge (C : List Nat) (c : Nat) : -1 ≤ ixB C c := Lib.indexByte_ge _ _
theorem ctB_le (C : List Nat) (c : Nat) : ctB C c ≤ C.length := by
  unfold ctB Lib.countByte
  refine Nat.le_trans List.count_le_length ?_
  simp [Lib.bytesOf, ints8]
theorem ctB_all {C : List Nat} {c : Nat} (hC : ∀ x ∈ C, x < 256) (hc : c < 256) : ctB C c = C.length ↔ ∀ x ∈ C, x = c := by
  have e : (c : Int).toNat.toUInt8 = UInt8.ofNat c := by simp
  have hl : (Lib.bytesOf (ints8 C)).length = C.length := by simp [Lib.bytesOf, ints8]
  unfold ctB Lib.countByte
  rw [e, ← hl, List.count_eq_length]
  constructor
  · intro h x hx
    have hm : UInt8.ofNat x ∈ Lib.bytesOf (ints8 C) := by
      unfold Lib.bytesOf ints8
      rw [List.map_map]
      exact List.mem_map.2 ⟨x, hx, by simp⟩
    exact ((ofNat8 hc (hC x hx)).1 (h _ hm)).symm
  · intro h y hy
    unfold Lib.bytesOf ints8 at hy
    rw [List.map_map] at hy
    obtain ⟨x, hx, rfl⟩ := List.mem_map.1 hy
    rw [h x hx]
    simp
/-- The model's entry for the count of a byte, at a slice whose cells are known. -/
theorem run_countRow {P : Program} (w : World) (b off n c : Nat) (xs : List Int) (hx : xs.length = n) (hc : ∀ i, i < n → w.cell? ⟨b, off + i, none⟩ = some (.int .u8 (xs.getD i 0))) (cv : Int) :
    (Extern.BytealgCount.count #[.slice (some ⟨b, off, none⟩) n c, .int .u8 cv]).run P w = .ok (.int .i64 (Lib.countByte (Lib.bytesOf xs) cv.toNat.toUInt8)) w := by
  have hl := Lib.run_loadBytesX (P := P) w xs ⟨b, off, none⟩ .empty (fun j x hj => by
    have hjl : j < xs.length := (List.getElem?_eq_some_iff.1 hj).1
    rw [addr_add, hc j (by omega), List.getD_eq_getElem?_getD, hj]
    rfl)
  rw [hx] at hl
  have hs := Lib.run_countString (P := P) ⟨(Lib.bytesOf xs).toArray⟩ cv w
  have he : (⟨ByteArray.empty.data ++ (Lib.bytesOf xs).toArray⟩ : ByteArray) = ⟨(Lib.bytesOf xs).toArray⟩ := by
    apply ByteArray.ext
    show (#[] : Array UInt8) ++ (Lib.bytesOf xs).toArray = (Lib.bytesOf xs).toArray
    simp
  rw [he] at hl
  change Sem.run P (do
    let b ← Extern.Bytes.bytesOf (.slice (some ⟨b, off, none⟩) n c)
    let d ← Extern.Bytes.asByte (.int .u8 cv)
    pure (goInt (b.foldl (fun n x => if x == d then n + 1 else n) (0 : Nat)))) w = _
  change Sem.run P (do
    let b ← Extern.Bytes.bytesOf (.string ⟨(Lib.bytesOf xs).toArray⟩)
    let d ← Extern.Bytes.asByte (.int .u8 cv)
    pure (goInt (b.foldl (fun n x => if x == d then n + 1 else n) (0 : Nat)))) w = _ at hs
  simp only [Extern.Bytes.bytesOf, Sem.run_bind, Sem.run_pure, hl, Result.andThen] at hs ⊢
  simpa using hs
theorem run_countNone {P : Program} (w : World) (l c : Nat) (cv : Int) :
    (Extern.BytealgCount.count #[.slice none l c, .int .u8 cv]).run P w = .ok (.int .i64 0) w := by
  have hs := Lib.run_countString (P := P) .empty cv w
  exact hs
/-- No byte at an address: none is read. -/
theorem run_countZero {P : Program} (w : World) (a : Addr) (c : Nat) (cv : Int) :
    (Extern.BytealgCount.count #[.slice (some a) 0 c, .int .u8 cv]).run P w = .ok (.int .i64 0) w := by
  have hs := Lib.run_countString (P := P) .empty cv w
  have hl := Lib.run_loadBytesX (P := P) w [] a .empty (fun j x hj => by simp at hj)
  change Sem.run P (do
    let b ← Extern.Bytes.bytesOf (.slice (some a) 0 c)
    let d ← Extern.Bytes.asByte (.int .u8 cv)
    pure (goInt (b.foldl (fun n x => if x == d then n + 1 else n) (0 : Nat)))) w = _
  change Sem.run P (do
    let b ← Extern.Bytes.bytesOf (.string .empty)
    let d ← Extern.Bytes.asByte (.int .u8 cv)
    pure (goInt (b.foldl (fun n x => if x == d then n + 1 else n) (0 : Nat)))) w = _ at hs
  exact hs
theorem run_indexZero {P : Program} (w : World) (a : Addr) (c : Nat) (cv : Int) :
    (Extern.BytealgIndexByte.indexByte #[.slice (some a) 0 c, .int .u8 cv]).run P w = .ok (.int .i64 (-1)) w := by
  have hs := Lib.run_indexByteString (P := P) .empty cv w
  exact hs
set_option maxRecDepth 1000000 in
set_option maxHeartbeats 8000000 in
theorem bcount_N {w : World} {A : Option Addr} {n c d : Nat} {C : List Nat} (hC : BR w A n c C) {g y : Nat} (h2 : w.cell? ⟨g, 0, none⟩ = some (.int .u8 (y : Int))) (y6 : (y : Int) < 256) :
    Calls Try.prog 63 #[.slice A n c, .slice (some ⟨g, 0, none⟩) 1 d] w (GotV w (.int .i64 ((ctB C y : Nat) : Int))) := by
  have hr : (Extern.BytealgCount.count #[.slice A n c, .int .u8 (y : Int)]).run Try.prog w = .ok (.int .i64 ((ctB C y : Nat) : Int)) w := by
    rcases Nat.eq_zero_or_pos n with hn | hn
    · have hC0 : C = [] := List.eq_nil_of_length_eq_zero (by rw [← hC.1]; exact hn)
      subst hn; subst hC0
      rcases A with _ | a
      · exact run_countNone w 0 c _
      · exact run_countZero w a c _
    · obtain ⟨b, off, rfl, _⟩ := hC.some hn
      exact run_countRow w b off n c (ints8 C) (by rw [ints8_len, ← hC.1]) (br_ints hC) _
  have cc := Below.refl w.heap.size w
  generalize ctB C y = z at *
  clear hC
  go_enter Try.func63, Try.ntmps63
  go_wp2_with fail
  rw [run_callFunc_extern Try.func74 (by kernel_rfl) (by kernel_rfl) (by kernel_rfl) (e := Extern.BytealgCount.count) (by kernel_rfl), hr]
  simp only [Result.andThen]
  rw [Oper.upon_value]
  go_wp2_with fail
  go_ret
  exact ⟨rfl, cc⟩
set_option maxRecDepth 1000000 in
set_option maxHeartbeats 8000000 in
theorem bindex_N {w : World} {A : Option Addr} {n c : Nat} {C : List Nat} (hC : BR w A n c C) (y : Nat) (y6 : (y : Int) < 256) :
    Calls Try.prog 65 #[.slice A n c, .int .u8 (y : Int)] w (GotV w (.int .i64 (ixB C y))) := by
  have hr : (Extern.BytealgIndexByte.indexByte #[.slice A n c, .int .u8 (y : Int)]).run Try.prog w = .ok (.int .i64 (ixB C y)) w := by
    rcases Nat.eq_zero_or_pos n with hn | hn
    · have hC0 : C = [] := List.eq_nil_of_length_eq_zero (by rw [← hC.1]; exact hn)
      subst hn; subst hC0
      rcases A with _ | a
      · exact Lib.run_indexByteNil w 0 c _
      · exact run_indexZero w a c _
    · obtain ⟨b, off, rfl, _⟩ := hC.some hn
      exact Lib.run_indexByteSlice w b off n c (ints8 C) (by rw [ints8_len, ← hC.1]) (br_ints hC) _
  have cc := Below.refl w.heap.size w
  generalize ixB C y = z at *
  clear hC
  go_enter Try.func65, Try.ntmps65
  go_wp2_with fail
  rw [run_callFunc_extern Try.func76 (by kernel_rfl) (by kernel_rfl) (by kernel_rfl) (e := Extern.BytealgIndexByte.indexByte) (by kernel_rfl), hr]
  simp only [Result.andThen]
  rw [Oper.upon_value]
  go_wp2_with fail
  go_ret
  exact ⟨rfl, cc⟩
end Go.Proofs.Ytpidpebgeblenaa

/-
  The landed book: what its iterator tells (middles, and the function value that it answers).
-/
namespace Go.Proofs.Ytpidpebgeblenaa
set_option maxRecDepth 100000
open Go.RowKit Go.Shelf
set_option linter.unusedVariables false
set_option linter.unusedSimpArgs false

attribute [local go_sem] Oper.semAt_some

/-- A number that the iterator tells. -/
abbrev Mid := { x : Nat // x ≤ 400000000000 }
def mkM (x : Nat) : Mid := ⟨min x 400000000000, Nat.min_le_right _ _⟩
theorem mkM_val {x : Nat} (h : x ≤ 400000000000) : (mkM x).1 = x := Nat.min_eq_left h
/-- The first m numbers of decade i; the first i decades. -/
def toldk (n i m : Nat) : List Mid := (List.range m).map fun j => mkM (p9 n i j)
def told (s : Bool) (i : Nat) : List Mid := (List.range i).flatMap fun r => toldk (many9 s r) r (many9 s r)
theorem toldk_succ (n i m : Nat) : toldk n i (m + 1) = toldk n i m ++ [mkM (p9 n i m)] := by unfold toldk; rw [List.range_succ, List.map_append]; rfl
theorem toldk_zero (n i : Nat) : toldk n i 0 = [] := rfl
theorem toldk_len (n i m : Nat) : (toldk n i m).length = m := by unfold toldk; simp
theorem told_succ (s : Bool) (k : Nat) : told s (k + 1) = told s k ++ toldk (many9 s k) k (many9 s k) := by unfold told; rw [List.range_succ, List.flatMap_append]; simp
theorem told_zero (s : Bool) : told s 0 = [] := rfl
/-- How many it tells. -/
def N9 (s : Bool) : Nat := if s then 127 else 254
theorem told_room (s : Bool) {i : Nat} (hi : i ≤ 6) : (told s i).length + many9 s i ≤ N9 s := by
  have h : ∀ s : Bool, ∀ i : Fin 7, (told s i.1).length + many9 s i.1 ≤ N9 s := by decide +kernel
  exact h s ⟨i, by omega⟩
theorem many9_succ (s : Bool) (i : Nat) : many9 s i * 2 = many9 s (i + 1) := by unfold many9; cases s <;> simp [Nat.pow_succ]

/-- middles: its parameter lies in a box; the function value captures the box. -/
theorem middles_any (p : Int) (w : World) :
    Calls Try.prog 67 #[.int .i64 p] w fun e w' => e = .returned (.func (.func 77) #[] #[.pointer (some ⟨w.heap.size, 0, none⟩)]) ∧ w' = w.alloc (.cells #[.int .i64 p] 2) := by
  go_enter Try.func67, Try.ntmps67
  go_wp2
  go_ret
  exact ⟨rfl, rfl⟩

set_option maxRecDepth 100000 in
set_option maxHeartbeats 2000000 in
theorem mids_in (l Bq : Nat) (s : Bool) (J Jx : List Mid → World → Prop)
    (hY : ∀ pre x W, J pre W → pre.length < N9 s → YieldAt Fence.wide 8 Try.prog l #[.int .i64 (x.1 : Int)] W fun e W' =>
      (e = .returned (.bool true) ∧ J (pre ++ [x]) W' ∧ True) ∨ (e = .returned (.bool false) ∧ Jx (pre ++ [x]) W'))
    (W : World) (hq : Boxed W Bq 2 (.int .i64 ((many9 s 0 : Nat) : Int))) (h0 : J [] W) :
    CallsIn Fence.wide 9 Try.prog 77 #[.func (.yield l) #[] #[], .pointer (some ⟨Bq, 0, none⟩)] W fun e W' => (∃ v, e = .returned v) ∧
      ((∃ ys, ys = told s 7 ∧ J ys W') ∨ (∃ pre, True ∧ Jx pre W')) := by
  have hmo : Try.prog.follows .mixedOrders = true := by kernel_rfl
  have hq' := hq.cell
  obtain ⟨n0, en0⟩ : ∃ n0, many9 s 0 = n0 := ⟨_, rfl⟩
  rw [en0] at hq'
  have EN := Lib.hid en0
  clear en0 hq
  refine callsIn_of_wp Try.func77 rfl trivial ?_ rfl
  simp only [Try.ntmps77, List.size_toArray, List.length_cons, List.length_nil, Nat.reduceAdd, Nat.reduceSub, Array.replicate_succ, Array.replicate_zero, List.push_toArray, List.append_toArray, List.nil_append, List.cons_append]
  gi_wp2
  clear hq'
  gi_loopw [3, 4, 7] (fun nv tv iv wr => ∃ i : Nat, i ≤ 7 ∧ iv = .int .i64 (i : Int) ∧ nv = .int .i64 ((many9 s i : Nat) : Int) ∧ tv = .int .i64 ((10 ^ i : Nat) : Int) ∧ J (told s i) wr) (fun _ _ iv _ => 7 - (intOf iv).toNat)
  case atStart => exact ⟨0, by omega, rfl, by rw [EN.out], rfl, h0⟩
  case round =>
    clear h0
    obtain ⟨i, hi7, rfl, rfl, rfl, hJ0⟩ := hrel
    by_cases hlt : i < 7
    · have i6 : i ≤ 6 := by omega
      have hd7 : decide ((i : Int) < 7) = true := decide_eq_true (by omega)
      obtain ⟨n1, n128⟩ := many9_le s i6
      have hroom := told_room s i6
      have hsn := many9_succ s i
      have hts := told_succ s i
      have t6 : 10 ^ i ≤ 10 ^ 6 := Nat.pow_le_pow_right (by omega) i6
      have htn : 10 ^ i * 10 = 10 ^ (i + 1) := (Nat.pow_succ 10 i).symm
      have hp : ∀ j, j < many9 s i → (2 * many9 s i + 9 * (2 * j + 1)) * (128 / many9 s i) ≤ 400000 ∧ p9 (many9 s i) i j ≤ 400000000000 ∧ p9 (many9 s i) i j = (2 * many9 s i + 9 * (2 * j + 1)) * (128 / many9 s i) * 10 ^ i := fun j hj => ⟨(p9_le n1 n128 i6 hj).1, (p9_le n1 n128 i6 hj).2.2, rfl⟩
      obtain ⟨n, en⟩ : ∃ n, many9 s i = n := ⟨_, rfl⟩
      obtain ⟨ten, et⟩ : ∃ ten, 10 ^ i = ten := ⟨_, rfl⟩
      have hn2 : IntKind.i64.wrap ((n : Int) * 2) = ((n * 2 : Nat) : Int) := by rw [IntWalk.i64_in _ (by omega)]; omega
      have ht2 : IntKind.i64.wrap ((ten : Int) * 10) = ((ten * 10 : Nat) : Int) := by rw [IntWalk.i64_in _ (by omega)]; omega
      obtain ⟨n', en'⟩ : ∃ n', n * 2 = n' := ⟨_, rfl⟩
      obtain ⟨ten', et'⟩ : ∃ ten', ten * 10 = ten' := ⟨_, rfl⟩
      rw [en] at hroom hsn hts hp n1 n128 ⊢
      rw [et] at t6 htn hp ⊢
      rw [en'] at hn2 hsn
      rw [et'] at ht2 htn
      have q1 : 128 / n ≤ 128 := Nat.div_le_self _ _
      have hqv : ((128 : Int)).tdiv (n : Int) = ((128 / n : Nat) : Int) := by rw [Int.tdiv_eq_ediv_of_nonneg (by omega)]; simp
      have hqv' : ((128 : Int)) / (n : Int) = ((128 / n : Nat) : Int) := by simp
      obtain ⟨q, eq⟩ : ∃ q, 128 / n = q := ⟨_, rfl⟩
      rw [eq] at hp q1 hqv hqv'
      have nn : ¬ n = 0 := by omega
      have nb : ((n : Int) == 0) = false := by simp; omega
      have kq : IntKind.i64.wrap (q : Int) = (q : Int) := IntWalk.i64_in _ (by omega)
      obtain ⟨a, ea⟩ : ∃ a, 2 * n = a := ⟨_, rfl⟩
      have k1 : IntKind.i64.wrap ((2 : Int) * (n : Int)) = (a : Int) := by rw [IntWalk.i64_in _ (by omega)]; omega
      have EA := Lib.hid ea
      have HT6 := Lib.hid t6
      have HSN := Lib.hid hsn
      have HTS := Lib.hid hts
      have HTN := Lib.hid htn
      have HP := Lib.hid hp
      have HR := Lib.hid hroom
      clear en et en' et' eq hsn hts htn hp hroom ea t6
      gi_wp2
      gi_loopw [5, 10] (fun _ jv wr => ∃ j : Nat, j ≤ n ∧ jv = .int .i64 (j : Int) ∧ J (told s i ++ toldk n i j) wr) (fun _ jv _ => n - (intOf jv).toNat)
      case atStart => exact ⟨0, by omega, rfl, by rw [toldk_zero, List.append_nil]; exact hJ0⟩
      case round =>
        clear hJ0
        obtain ⟨j, hjn, rfl, hJj⟩ := hrel
        by_cases hj : j < n
        · obtain ⟨b1, b3, ep⟩ := HP.out j hj
          have hM := mkM_val b3
          obtain ⟨c, ec⟩ : ∃ c, 2 * j = c := ⟨_, rfl⟩
          obtain ⟨d, ed⟩ : ∃ d, c + 1 = d := ⟨_, rfl⟩
          obtain ⟨o, eo⟩ : ∃ o, 9 * d = o := ⟨_, rfl⟩
          have ea := EA.out
          rw [ea, ec, ed, eo] at b1 ep
          obtain ⟨u, eu⟩ : ∃ u, a + o = u := ⟨_, rfl⟩
          have ul : u ≤ 2570 := by omega
          rw [eu] at b1 ep
          obtain ⟨v, ev⟩ : ∃ v, u * q = v := ⟨_, rfl⟩
          rw [ev] at b1 ep
          obtain ⟨x, ex⟩ : ∃ x, p9 n i j = x := ⟨_, rfl⟩
          have hks := toldk_succ n i j
          rw [ex] at b3 ep hM hks
          have k2 : IntKind.i64.wrap ((2 : Int) * (j : Int)) = (c : Int) := by rw [IntWalk.i64_in _ (by omega)]; omega
          have k3 : IntKind.i64.wrap ((c : Int) + 1) = (d : Int) := by rw [IntWalk.i64_in _ (by omega)]; omega
          have k4 : IntKind.i64.wrap ((9 : Int) * (d : Int)) = (o : Int) := by rw [IntWalk.i64_in _ (by omega)]; omega
          have k5 : IntKind.i64.wrap ((a : Int) + (o : Int)) = (u : Int) := by rw [IntWalk.i64_in _ (by omega)]; omega
          have KV : IntKind.i64.wrap ((u : Int) * (q : Int)) = (v : Int) := by rw [← Int.natCast_mul, ev]; exact IntWalk.i64_in _ (by omega)
          have KX : IntKind.i64.wrap ((v : Int) * (ten : Int)) = (x : Int) := by rw [← Int.natCast_mul, ← ep]; exact IntWalk.i64_in _ (by omega)
          obtain ⟨M, eM⟩ : ∃ M, mkM x = M := ⟨_, rfl⟩
          rw [eM] at hM hks
          have hlen : (told s i ++ toldk n i j).length < N9 s := by rw [List.length_append, toldk_len]; have := HR.out; omega
          obtain ⟨fn, tmps, assign, body, hy, hR⟩ := hY _ M wr hJj hlen
          rw [hM] at hy
          have hR' : RoundIn Fence.wide 8 Try.prog l fn tmps assign body wr fun e W' => ∃ bv : Bool, e = .returned (.bool bv) ∧ Hid ((bv = true ∧ J (told s i ++ toldk n i (j + 1)) W') ∨ (bv = false ∧ ∃ pre, Jx pre W')) := hR.mono fun e W' h => by
            rw [hks, ← List.append_assoc]
            rcases h with ⟨rfl, h1, _⟩ | ⟨rfl, h1⟩
            · exact ⟨true, rfl, .inl ⟨rfl, h1⟩⟩
            · exact ⟨false, rfl, .inr ⟨rfl, _, h1⟩⟩
          clear hR hks eM hM ec ed eo ea eu ev ex b1 b3 ep hlen
          gi_wp2_with (refine hR'.mono ?_; rintro e W3 ⟨bv, rfl, hpost⟩)
          · have hb : bv = false := by cases bv with | false => rfl | true => exact absurd ‹(!true) = true› (by decide)
            subst hb
            rcases hpost.out with ⟨h, _⟩ | ⟨_, pre3, hJx3⟩
            · cases h
            · refine bodyPost_ret (results_none rfl _ _ _) rfl ?_
              exact ⟨⟨_, rfl⟩, .inr ⟨_, trivial, hJx3⟩⟩
          · have hb : bv = true := by cases bv with | true => rfl | false => exact absurd ‹(!false) = false› (by decide)
            subst hb
            rcases hpost.out with ⟨_, hJ3⟩ | ⟨h, _⟩
            · go_roundw
              case rel => exact ⟨j + 1, by omega, by go_num, hJ3⟩
              case measure => simp [intOf]; omega
            · cases h
        · obtain rfl : j = n := by omega
          gi_wp2
          go_roundw
          case rel => exact ⟨i + 1, by omega, by go_num, by rw [← HSN.out], by rw [← HTN.out], by rw [HTS.out]; exact hJj⟩
          case measure => simp [intOf]; omega
    · obtain rfl : i = 7 := by omega
      gi_wp2
      go_end0
      exact ⟨⟨_, rfl⟩, .inl ⟨_, rfl, hJ0⟩⟩
/-- The iterator's contract, as a loop over it wants it. -/
theorem mids_stops (Bq : Nat) (s : Bool) (w : World) (hq : Boxed w Bq 2 (.int .i64 ((many9 s 0 : Nat) : Int))) :
    SeqStopsK Fence.wide 9 Try.prog 77 #[.pointer (some ⟨Bq, 0, none⟩)] (fun x : Mid => #[Value.int .i64 (x.1 : Int)])
      (fun _ _ => True) (fun ys => ys = told s 7) (fun _ => True) (N9 s) w := fun l J Jx W hW hJa _ hY h0 =>
  mids_in l Bq s J Jx hY W ((hW.block Bq hq.lt).trans hq) h0
end Go.Proofs.Ytpidpebgeblenaa
