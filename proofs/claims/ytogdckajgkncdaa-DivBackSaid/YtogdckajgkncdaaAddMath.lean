/-
  Sums digit by digit: what nat.Add reckons, and that it is the sum.
-/
import Derived.Test.YtogdckajgkncdaaPairs
namespace Go.Proofs.Ytogdckajgkncdaa

def addStep (s : List Nat × Nat) (x : Pair) : List Nat × Nat := (s.1 ++ [sumLo x.1.1 x.1.2 s.2], sumHi x.1.1 x.1.2 s.2)
def addS (l : List Pair) : List Nat × Nat := l.foldl addStep ([], 0)
/-- The digits so far, and the carry. -/
def addD (l : List Pair) : List Nat := (addS l).1
def addC (l : List Pair) : Nat := (addS l).2
theorem addS_snoc (l : List Pair) (x : Pair) : addS (l ++ [x]) = addStep (addS l) x := by simp [addS]
theorem addD_snoc (l : List Pair) (x : Pair) : addD (l ++ [x]) = addD l ++ [sumLo x.1.1 x.1.2 (addC l)] := by unfold addD addC; rw [addS_snoc]; rfl
theorem addC_snoc (l : List Pair) (x : Pair) : addC (l ++ [x]) = sumHi x.1.1 x.1.2 (addC l) := by unfold addC; rw [addS_snoc]; rfl
theorem addD_nil : addD [] = [] := rfl
theorem addC_nil : addC [] = 0 := rfl
/-- An induction from the list's end. -/
theorem snoc_ind {α : Type} {P : List α → Prop} (h0 : P []) (h1 : ∀ l x, P l → P (l ++ [x])) (l : List α) : P l := by
  have : ∀ r : List α, P r.reverse := fun r => by
    induction r with
    | nil => exact h0
    | cons x r ih => rw [List.reverse_cons]; exact h1 _ _ ih
  have h := this l.reverse
  rwa [List.reverse_reverse] at h
theorem addC_le (l : List Pair) : addC l ≤ 1 :=
  snoc_ind (P := fun l => addC l ≤ 1) (by simp [addC_nil]) (fun l x ih => by rw [addC_snoc]; exact sumHi_le x.2.1 x.2.2 ih) l
theorem addD_length (l : List Pair) : (addD l).length = l.length :=
  snoc_ind (P := fun l => (addD l).length = l.length) (by simp [addD_nil]) (fun l x ih => by rw [addD_snoc]; simp [ih]) l
theorem addD_dig (l : List Pair) : Dig (addD l) :=
  snoc_ind (P := fun l => Dig (addD l)) (by rw [addD_nil]; exact Dig.nil) (fun l x ih => by rw [addD_snoc]; exact ih.snoc (sumLo_lt _ _ _)) l

theorem addS_upto {la lb : List Nat} (ha : Dig la) (hb : Dig lb) (k : Nat) :
    val (addD (upto ha hb k)) + B64 ^ k * addC (upto ha hb k) = val (la.take k) + val (lb.take k) := by
  induction k with
  | zero => simp [upto_zero, addD_nil, addC_nil, val_nil]
  | succ k ih =>
    rw [upto_succ, addD_snoc, addC_snoc, val_snoc, addD_length, upto_length, val_take_succ, val_take_succ]
    have h := sum_split (pairAt ha hb k).1.1 (pairAt ha hb k).1.2 (addC (upto ha hb k))
    rw [Nat.pow_succ, Nat.mul_assoc]
    have h2 : B64 ^ k * sumLo (pairAt ha hb k).1.1 (pairAt ha hb k).1.2 (addC (upto ha hb k)) + B64 ^ k * (B64 * sumHi (pairAt ha hb k).1.1 (pairAt ha hb k).1.2 (addC (upto ha hb k))) = B64 ^ k * (la[k]?.getD 0) + B64 ^ k * (lb[k]?.getD 0) + B64 ^ k * addC (upto ha hb k) := by
      rw [← Nat.mul_add, h, Nat.mul_add, Nat.mul_add]; rfl
    omega

/-- Without a carry the digits are the sum's, if the two lists were the numbers' own. -/
theorem add_done0 (x y : Nat) (h : addC (upto (limbs_dig x) (limbs_dig y) (max (limbs x).length (limbs y).length)) = 0) :
    addD (upto (limbs_dig x) (limbs_dig y) (max (limbs x).length (limbs y).length)) = limbs (x + y) := by
  have hv := addS_upto (limbs_dig x) (limbs_dig y) (max (limbs x).length (limbs y).length)
  rw [h, List.take_of_length_le (by omega), List.take_of_length_le (by omega), val_limbs, val_limbs, Nat.mul_zero, Nat.add_zero] at hv
  rw [← hv]
  refine eq_limbs (addD_dig _) fun h0 => ?_
  rw [hv, addD_length, upto_length]
  rw [addD_length, upto_length] at h0
  rcases Nat.le_total (limbs x).length (limbs y).length with h1 | h1
  · rw [Nat.max_eq_right h1] at h0 ⊢
    have := limbs_ge h0
    omega
  · rw [Nat.max_eq_left h1] at h0 ⊢
    have := limbs_ge h0
    omega

/-- With one, it is the last digit. -/
theorem add_done1 (x y : Nat) (h : addC (upto (limbs_dig x) (limbs_dig y) (max (limbs x).length (limbs y).length)) ≠ 0) :
    addD (upto (limbs_dig x) (limbs_dig y) (max (limbs x).length (limbs y).length)) ++ [addC (upto (limbs_dig x) (limbs_dig y) (max (limbs x).length (limbs y).length))] = limbs (x + y) := by
  have hv := addS_upto (limbs_dig x) (limbs_dig y) (max (limbs x).length (limbs y).length)
  have hc := addC_le (upto (limbs_dig x) (limbs_dig y) (max (limbs x).length (limbs y).length))
  rw [List.take_of_length_le (by omega), List.take_of_length_le (by omega), val_limbs, val_limbs] at hv
  have hl : (addD (upto (limbs_dig x) (limbs_dig y) (max (limbs x).length (limbs y).length))).length = max (limbs x).length (limbs y).length := by rw [addD_length, upto_length]
  have hv2 := val_snoc (addD (upto (limbs_dig x) (limbs_dig y) (max (limbs x).length (limbs y).length))) (addC (upto (limbs_dig x) (limbs_dig y) (max (limbs x).length (limbs y).length)))
  rw [hl, hv] at hv2
  rw [← hv2]
  refine eq_limbs ((addD_dig _).snoc (by have := B64_gt; omega)) fun _ => ?_
  rw [hv2, ← hv, List.length_append, hl]
  have h1 : addC (upto (limbs_dig x) (limbs_dig y) (max (limbs x).length (limbs y).length)) = 1 := by omega
  rw [h1]
  simp

end Go.Proofs.Ytogdckajgkncdaa
