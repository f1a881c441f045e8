/-
  Plain arithmetic for the proofs about package nat: the digits of a natural number to the base 2 to the power of 64. Nothing of the program is used here.
-/
namespace Go.Proofs.Ytogdckajgkncdaa

/-- 2 to the power of 64, behind a name. -/
def B64 : Nat := 18446744073709551616
theorem B64_pos : 0 < B64 := by unfold B64; omega
theorem B64_gt : 1 < B64 := by unfold B64; omega

/-- The number of a list of digits, the lowest first. -/
def val : List Nat → Nat
  | [] => 0
  | x :: xs => x + B64 * val xs

/-- The digits of a number, the lowest first, without noughts at the end. -/
def limbs (n : Nat) : List Nat := if n = 0 then [] else n % B64 :: limbs (n / B64)
termination_by n
decreasing_by exact Nat.div_lt_self (by omega) B64_gt

/-- All digits are digits. -/
def Dig (l : List Nat) : Prop := ∀ x ∈ l, x < B64
/-- The last digit is not nought. -/
def canon (l : List Nat) : Bool := l.getLastD 1 != 0

theorem limbs_zero : limbs 0 = [] := by rw [limbs]; simp
theorem limbs_pos {n : Nat} (h : n ≠ 0) : limbs n = n % B64 :: limbs (n / B64) := by rw [limbs]; simp [h]
theorem val_nil : val [] = 0 := rfl
theorem val_cons (x : Nat) (xs : List Nat) : val (x :: xs) = x + B64 * val xs := rfl

theorem val_limbs (n : Nat) : val (limbs n) = n := by
  induction n using Nat.strongRecOn with
  | _ n ih =>
    by_cases h : n = 0
    · subst h; rw [limbs_zero]; rfl
    · rw [limbs_pos h, val_cons, ih _ (Nat.div_lt_self (by omega) B64_gt)]
      exact Nat.mod_add_div n B64

theorem limbs_dig (n : Nat) : Dig (limbs n) := by
  induction n using Nat.strongRecOn with
  | _ n ih =>
    by_cases h : n = 0
    · subst h; rw [limbs_zero]; intro x hx; cases hx
    · rw [limbs_pos h]
      intro x hx
      rcases List.mem_cons.1 hx with rfl | hx
      · exact Nat.mod_lt _ B64_pos
      · exact ih _ (Nat.div_lt_self (by omega) B64_gt) x hx

theorem Dig.tail {x : Nat} {xs : List Nat} (h : Dig (x :: xs)) : Dig xs := fun y hy => h y (List.mem_cons_of_mem _ hy)
theorem Dig.head {x : Nat} {xs : List Nat} (h : Dig (x :: xs)) : x < B64 := h x List.mem_cons_self
theorem Dig.nil : Dig [] := fun _ h => by cases h
theorem Dig.cons {x : Nat} {xs : List Nat} (hx : x < B64) (h : Dig xs) : Dig (x :: xs) := fun y hy => by
  rcases List.mem_cons.1 hy with rfl | hy
  · exact hx
  · exact h y hy
theorem Dig.snoc {x : Nat} {xs : List Nat} (h : Dig xs) (hx : x < B64) : Dig (xs ++ [x]) := fun y hy => by
  rcases List.mem_append.1 hy with hy | hy
  · exact h y hy
  · simp at hy; subst hy; exact hx
theorem Dig.get {l : List Nat} (h : Dig l) (j : Nat) : l[j]?.getD 0 < B64 := by
  by_cases hj : j < l.length
  · simp [hj]; exact h _ (List.getElem_mem hj)
  · rw [List.getElem?_eq_none (by omega)]; exact B64_pos
theorem Dig.take {l : List Nat} (h : Dig l) (k : Nat) : Dig (l.take k) := fun x hx => h x (List.mem_of_mem_take hx)

theorem canon_cons {x : Nat} {xs : List Nat} (h : xs ≠ []) : canon (x :: xs) = canon xs := by
  unfold canon
  cases xs with
  | nil => exact absurd rfl h
  | cons y ys => simp [List.getLastD]

theorem val_eq_zero {l : List Nat} (hc : canon l = true) (h : val l = 0) : l = [] := by
  induction l with
  | nil => rfl
  | cons x xs ih =>
    rw [val_cons] at h
    have hx : x = 0 := by omega
    have hv : val xs = 0 := by
      have h1 : B64 * val xs = 0 := by omega
      rcases Nat.mul_eq_zero.1 h1 with h2 | h2
      · have := B64_pos; omega
      · exact h2
    by_cases he : xs = []
    · subst he; subst hx; simp [canon] at hc
    · rw [canon_cons he] at hc
      exact absurd (ih hc hv) he

theorem limbs_val {l : List Nat} (hd : Dig l) (hc : canon l = true) : limbs (val l) = l := by
  induction l with
  | nil => exact limbs_zero
  | cons x xs ih =>
    have hne : val (x :: xs) ≠ 0 := fun h => by have := val_eq_zero hc h; cases this
    have hx := hd.head
    rw [limbs_pos hne, val_cons]
    have h1 : (x + B64 * val xs) % B64 = x := by rw [Nat.add_mul_mod_self_left]; exact Nat.mod_eq_of_lt hx
    have h2 : (x + B64 * val xs) / B64 = val xs := by
      rw [Nat.add_mul_div_left _ _ B64_pos, Nat.div_eq_of_lt hx]; omega
    rw [h1, h2]
    by_cases he : xs = []
    · subst he; rw [val_nil, limbs_zero]
    · rw [canon_cons he] at hc
      rw [ih hd.tail hc]

theorem limbs_canon (n : Nat) : canon (limbs n) = true := by
  induction n using Nat.strongRecOn with
  | _ n ih =>
    by_cases h : n = 0
    · subst h; rw [limbs_zero]; rfl
    · rw [limbs_pos h]
      by_cases he : limbs (n / B64) = []
      · have hz : n / B64 = 0 := by
          have := val_limbs (n / B64); rw [he] at this; exact this.symm
        have hlt : n < B64 := by
          rcases Nat.lt_or_ge n B64 with h1 | h1
          · exact h1
          · have := Nat.div_pos h1 B64_pos; omega
        rw [he, Nat.mod_eq_of_lt hlt]
        simp [canon, h]
      · rw [canon_cons he]
        exact ih _ (Nat.div_lt_self (by omega) B64_gt)

theorem limbs_inj {a b : Nat} (h : limbs a = limbs b) : a = b := by
  rw [← val_limbs a, h, val_limbs]

theorem val_lt {l : List Nat} (hd : Dig l) : val l < B64 ^ l.length := by
  induction l with
  | nil => simp [val_nil]
  | cons x xs ih =>
    rw [val_cons, List.length_cons, Nat.pow_succ, Nat.mul_comm (B64 ^ xs.length)]
    have h1 := ih hd.tail
    have h2 := hd.head
    calc x + B64 * val xs < B64 + B64 * val xs := by omega
      _ = B64 * (val xs + 1) := by rw [Nat.mul_add, Nat.mul_one]; omega
      _ ≤ B64 * B64 ^ xs.length := Nat.mul_le_mul_left _ h1

theorem val_snoc (l : List Nat) (x : Nat) : val (l ++ [x]) = val l + B64 ^ l.length * x := by
  induction l with
  | nil => simp [val_cons, val_nil]
  | cons y ys ih =>
    rw [List.cons_append, val_cons, ih, val_cons, List.length_cons, Nat.pow_succ, Nat.mul_add]
    rw [← Nat.mul_assoc, Nat.mul_comm B64 (B64 ^ ys.length)]
    omega

theorem val_take_succ (l : List Nat) (k : Nat) : val (l.take (k + 1)) = val (l.take k) + B64 ^ k * l[k]?.getD 0 := by
  by_cases hk : k < l.length
  · rw [List.take_succ_eq_append_getElem hk, val_snoc, List.length_take, Nat.min_eq_left (by omega)]
    simp [hk]
  · rw [List.take_of_length_le (by omega), List.take_of_length_le (by omega), List.getElem?_eq_none (by omega)]
    simp

theorem limbs_length_le {n k : Nat} (h : n < B64 ^ k) : (limbs n).length ≤ k := by
  induction k generalizing n with
  | zero => simp at h; subst h; rw [limbs_zero]; simp
  | succ k ih =>
    by_cases hn : n = 0
    · subst hn; rw [limbs_zero]; simp
    · rw [limbs_pos hn, List.length_cons]
      have : n / B64 < B64 ^ k := by
        rw [Nat.div_lt_iff_lt_mul B64_pos, ← Nat.pow_succ]; exact h
      have := ih this
      omega

theorem lt_of_limbs_length {n k : Nat} (h : (limbs n).length ≤ k) : n < B64 ^ k := by
  have h1 := val_lt (limbs_dig n)
  rw [val_limbs] at h1
  exact Nat.lt_of_lt_of_le h1 (Nat.pow_le_pow_right B64_pos h)

theorem limbs_lt_iff {n k : Nat} : (limbs n).length ≤ k ↔ n < B64 ^ k := ⟨lt_of_limbs_length, limbs_length_le⟩

theorem limbs_length_add {a b k : Nat} (ha : (limbs a).length ≤ k) (hb : (limbs b).length ≤ k) : (limbs (a + b)).length ≤ k + 1 := by
  rw [limbs_lt_iff] at *
  rw [Nat.pow_succ]
  have := B64_gt
  calc a + b < B64 ^ k + B64 ^ k := by omega
    _ = B64 ^ k * 2 := by omega
    _ ≤ B64 ^ k * B64 := Nat.mul_le_mul_left _ (by omega)

theorem limbs_length_mul {a b k m : Nat} (ha : (limbs a).length ≤ k) (hb : (limbs b).length ≤ m) : (limbs (a * b)).length ≤ k + m := by
  rw [limbs_lt_iff] at *
  rw [Nat.pow_add]
  exact Nat.mul_lt_mul_of_lt_of_le ha (Nat.le_of_lt hb) (Nat.pow_pos B64_pos)

theorem limbs_ne_nil {n : Nat} (h : n ≠ 0) : 0 < (limbs n).length := by rw [limbs_pos h]; simp
theorem limbs_ge {n : Nat} (h : 0 < (limbs n).length) : B64 ^ ((limbs n).length - 1) ≤ n := by
  rcases Nat.lt_or_ge n (B64 ^ ((limbs n).length - 1)) with h1 | h1
  · have := limbs_length_le h1; omega
  · exact h1
/-- Digits whose number is great enough for their length are the number's own. -/
theorem eq_limbs {l : List Nat} (hd : Dig l) (h : 0 < l.length → B64 ^ (l.length - 1) ≤ val l) : l = limbs (val l) := by
  refine (limbs_val hd ?_).symm
  rcases Nat.eq_zero_or_pos l.length with h0 | h0
  · rw [List.eq_nil_of_length_eq_zero h0]; rfl
  · have hl : l ≠ [] := fun e => by rw [e] at h0; simp at h0
    have e := List.dropLast_concat_getLast hl
    have h1 := h h0
    have hlen : l.dropLast.length = l.length - 1 := List.length_dropLast
    have hv : val l.dropLast < B64 ^ (l.length - 1) := by
      rw [← hlen]; exact val_lt fun x hx => hd x (List.dropLast_subset _ hx)
    have hne : l.getLast hl ≠ 0 := fun hz => by
      have h2 : val l = val l.dropLast := by
        have h3 := val_snoc l.dropLast (l.getLast hl)
        rw [e, hz, Nat.mul_zero, Nat.add_zero] at h3
        exact h3
      omega
    unfold canon
    rw [List.getLastD_eq_getLast?, List.getLast?_eq_some_getLast hl]
    simpa using hne

/-- The lower and the upper half of a sum with a carry. -/
def sumLo (x y c : Nat) : Nat := (x + y + c) % B64
def sumHi (x y c : Nat) : Nat := (x + y + c) / B64
theorem sum_split (x y c : Nat) : sumLo x y c + B64 * sumHi x y c = x + y + c := Nat.mod_add_div _ _
theorem sumLo_lt (x y c : Nat) : sumLo x y c < B64 := Nat.mod_lt _ B64_pos
theorem sumHi_le {x y c : Nat} (hx : x < B64) (hy : y < B64) (hc : c ≤ 1) : sumHi x y c ≤ 1 := by
  unfold sumHi
  have : (x + y + c) / B64 < 2 := (Nat.div_lt_iff_lt_mul B64_pos).2 (by omega)
  omega
/-- The lower half of a difference with a borrow, and the borrow. -/
def subLo (x y b : Nat) : Nat := (x + B64 - y - b) % B64
def subHi (x y b : Nat) : Nat := if x < y + b then 1 else 0
theorem subLo_lt (x y b : Nat) : subLo x y b < B64 := Nat.mod_lt _ B64_pos
theorem subHi_le (x y b : Nat) : subHi x y b ≤ 1 := by unfold subHi; split <;> omega
theorem sub_split {x y b : Nat} (hx : x < B64) (hy : y < B64) (hb : b ≤ 1) : subLo x y b + y + b = x + B64 * subHi x y b := by
  unfold subLo subHi
  split
  · have h1 : x + B64 - y - b < B64 := by omega
    rw [Nat.mod_eq_of_lt h1]; omega
  · have h1 : x + B64 - y - b = (x - y - b) + B64 := by omega
    rw [h1, Nat.add_mod_right, Nat.mod_eq_of_lt (by omega)]; omega

theorem limbs_length_mono {a b : Nat} (h : a ≤ b) : (limbs a).length ≤ (limbs b).length :=
  limbs_length_le (Nat.lt_of_le_of_lt h (lt_of_limbs_length (Nat.le_refl _)))

end Go.Proofs.Ytogdckajgkncdaa
