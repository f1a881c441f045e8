/-
  The contract of nat.Sub.
-/
import Derived.Test.YtogdckajgkncdaaShare
namespace Go.Proofs.Ytogdckajgkncdaa
open Go.RowKit Go.Shelf

attribute [local go_sem] Oper.semAt_some
attribute [local go_sem ↓] mx_run

def subStep (s : List Nat × Nat) (x : Pair) : List Nat × Nat := (s.1 ++ [subLo x.1.1 x.1.2 s.2], subHi x.1.1 x.1.2 s.2)
def subS (l : List Pair) : List Nat × Nat := l.foldl subStep ([], 0)
/-- The digits so far, and the borrow. -/
def subD (l : List Pair) : List Nat := (subS l).1
def subC (l : List Pair) : Nat := (subS l).2
theorem subS_snoc (l : List Pair) (x : Pair) : subS (l ++ [x]) = subStep (subS l) x := by simp [subS]
theorem subD_snoc (l : List Pair) (x : Pair) : subD (l ++ [x]) = subD l ++ [subLo x.1.1 x.1.2 (subC l)] := by unfold subD subC; rw [subS_snoc]; rfl
theorem subC_snoc (l : List Pair) (x : Pair) : subC (l ++ [x]) = subHi x.1.1 x.1.2 (subC l) := by unfold subC; rw [subS_snoc]; rfl
theorem subD_nil : subD [] = [] := rfl
theorem subC_nil : subC [] = 0 := rfl
theorem subC_le (l : List Pair) : subC l ≤ 1 :=
  snoc_ind (P := fun l => subC l ≤ 1) (by simp [subC_nil]) (fun l x ih => by rw [subC_snoc]; exact subHi_le _ _ _) l
theorem subD_length (l : List Pair) : (subD l).length = l.length :=
  snoc_ind (P := fun l => (subD l).length = l.length) (by simp [subD_nil]) (fun l x ih => by rw [subD_snoc]; simp [ih]) l
theorem subD_dig (l : List Pair) : Dig (subD l) :=
  snoc_ind (P := fun l => Dig (subD l)) (by rw [subD_nil]; exact Dig.nil) (fun l x ih => by rw [subD_snoc]; exact ih.snoc (subLo_lt _ _ _)) l

theorem subS_upto {la lb : List Nat} (ha : Dig la) (hb : Dig lb) (k : Nat) :
    val (subD (upto ha hb k)) + val (lb.take k) = val (la.take k) + B64 ^ k * subC (upto ha hb k) := by
  induction k with
  | zero => simp [upto_zero, subD_nil, subC_nil, val_nil]
  | succ k ih =>
    rw [upto_succ, subD_snoc, subC_snoc, val_snoc, subD_length, upto_length, val_take_succ, val_take_succ]
    have h := sub_split (pairAt ha hb k).2.1 (pairAt ha hb k).2.2 (subC_le (upto ha hb k))
    rw [Nat.pow_succ, Nat.mul_assoc]
    have h2 : B64 ^ k * subLo (pairAt ha hb k).1.1 (pairAt ha hb k).1.2 (subC (upto ha hb k)) + B64 ^ k * (lb[k]?.getD 0) + B64 ^ k * subC (upto ha hb k) = B64 ^ k * (la[k]?.getD 0) + B64 ^ k * (B64 * subHi (pairAt ha hb k).1.1 (pairAt ha hb k).1.2 (subC (upto ha hb k))) := by
      rw [← Nat.mul_add, ← Nat.mul_add, ← Nat.mul_add]; exact congrArg _ h
    omega

theorem sub_done0 (x y : Nat) (h : subC (upto (limbs_dig x) (limbs_dig y) (max (limbs x).length (limbs y).length)) = 0) :
    y ≤ x ∧ val (subD (upto (limbs_dig x) (limbs_dig y) (max (limbs x).length (limbs y).length))) = x - y := by
  have hv := subS_upto (limbs_dig x) (limbs_dig y) (max (limbs x).length (limbs y).length)
  rw [h, List.take_of_length_le (by omega), List.take_of_length_le (by omega), val_limbs, val_limbs, Nat.mul_zero, Nat.add_zero] at hv
  omega

theorem sub_done1 (x y : Nat) (h : subC (upto (limbs_dig x) (limbs_dig y) (max (limbs x).length (limbs y).length)) ≠ 0) : x < y := by
  have hv := subS_upto (limbs_dig x) (limbs_dig y) (max (limbs x).length (limbs y).length)
  have hc := subC_le (upto (limbs_dig x) (limbs_dig y) (max (limbs x).length (limbs y).length))
  have h1 : subC (upto (limbs_dig x) (limbs_dig y) (max (limbs x).length (limbs y).length)) = 1 := by omega
  rw [h1, List.take_of_length_le (by omega), List.take_of_length_le (by omega), val_limbs, val_limbs, Nat.mul_one] at hv
  have hl := val_lt (subD_dig (upto (limbs_dig x) (limbs_dig y) (max (limbs x).length (limbs y).length)))
  rw [subD_length, upto_length] at hl
  omega

/-- What nat.Sub answers: the difference and no error; or nothing and ErrRange. -/
def SubPost (w : World) (x y : Nat) (v : Value) (r : Int) : Prop := (y ≤ x ∧ r = 0 ∧ IsN w v (x - y)) ∨ (x < y ∧ r = 2 ∧ v = .slice none 0 0)

end Go.Proofs.Ytogdckajgkncdaa
