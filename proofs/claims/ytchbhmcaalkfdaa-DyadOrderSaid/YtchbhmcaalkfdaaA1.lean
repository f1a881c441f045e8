/-
  Several texts in one: Math, MathB, MathH, MathD, MathQ, MathK, MathG.
-/

/-
  Plain arithmetic for the proofs about package nat: the digits of a natural number to the base 2 to the power of 64. Nothing of the program is used here.
-/
namespace Go.Proofs.Ytchbhmcaalkfdaa

/-- 2 to the power of 64, behind a name. -/
def B64 : Nat := 18446744073709551616
theorem B64_pos : 0 < B64 := by unfold B64; omega
theorem B64_gt : 1 < B64 := by unfold B64; omega

/-- The number of a list of digits, the lowest first. -/
def val : List Nat → Nat
  | [] => 0
  | x :: xs => x + B64 * val xs

/-- The digits of a number, the lowest first, without noughts at the end. -/
def limbs (n : Nat) : List Nat := if n = 0 then [] else n % B64 :: limbs (n / B64)
termination_by n
decreasing_by exact Nat.div_lt_self (by omega) B64_gt

/-- All digits are digits. -/
def Dig (l : List Nat) : Prop := ∀ x ∈ l, x < B64
/-- The last digit is not nought. -/
def canon (l : List Nat) : Bool := l.getLastD 1 != 0

theorem limbs_zero : limbs 0 = [] := by rw [limbs]; simp
theorem limbs_pos {n : Nat} (h : n ≠ 0) : limbs n = n % B64 :: limbs (n / B64) := by rw [limbs]; simp [h]
theorem val_nil : val [] = 0 := rfl
theorem val_cons (x : Nat) (xs : List Nat) : val (x :: xs) = x + B64 * val xs := rfl

theorem val_limbs (n : Nat) : val (limbs n) = n := by
  induction n using Nat.strongRecOn with
  | _ n ih =>
    by_cases h : n = 0
    · subst h; rw [limbs_zero]; rfl
    · rw [limbs_pos h, val_cons, ih _ (Nat.div_lt_self (by omega) B64_gt)]
      exact Nat.mod_add_div n B64

theorem limbs_dig (n : Nat) : Dig (limbs n) := by
  induction n using Nat.strongRecOn with
  | _ n ih =>
    by_cases h : n = 0
    · subst h; rw [limbs_zero]; intro x hx; cases hx
    · rw [limbs_pos h]
      intro x hx
      rcases List.mem_cons.1 hx with rfl | hx
      · exact Nat.mod_lt _ B64_pos
      · exact ih _ (Nat.div_lt_self (by omega) B64_gt) x hx

theorem Dig.tail {x : Nat} {xs : List Nat} (h : Dig (x :: xs)) : Dig xs := fun y hy => h y (List.mem_cons_of_mem _ hy)
theorem Dig.head {x : Nat} {xs : List Nat} (h : Dig (x :: xs)) : x < B64 := h x List.mem_cons_self
theorem Dig.nil : Dig [] := fun _ h => by cases h
theorem Dig.cons {x : Nat} {xs : List Nat} (hx : x < B64) (h : Dig xs) : Dig (x :: xs) := fun y hy => by
  rcases List.mem_cons.1 hy with rfl | hy
  · exact hx
  · exact h y hy
theorem Dig.snoc {x : Nat} {xs : List Nat} (h : Dig xs) (hx : x < B64) : Dig (xs ++ [x]) := fun y hy => by
  rcases List.mem_append.1 hy with hy | hy
  · exact h y hy
  · simp at hy; subst hy; exact hx
theorem Dig.get {l : List Nat} (h : Dig l) (j : Nat) : l[j]?.getD 0 < B64 := by
  by_cases hj : j < l.length
  · simp [hj]; exact h _ (List.getElem_mem hj)
  · rw [List.getElem?_eq_none (by omega)]; exact B64_pos
theorem Dig.take {l : List Nat} (h : Dig l) (k : Nat) : Dig (l.take k) := fun x hx => h x (List.mem_of_mem_take hx)

theorem canon_cons {x : Nat} {xs : List Nat} (h : xs ≠ []) : canon (x :: xs) = canon xs := by
  unfold canon
  cases xs with
  | nil => exact absurd rfl h
  | cons y ys => simp [List.getLastD]

theorem val_eq_zero {l : List Nat} (hc : canon l = true) (h : val l = 0) : l = [] := by
  induction l with
  | nil => rfl
  | cons x xs ih =>
    rw [val_cons] at h
    have hx : x = 0 := by omega
    have hv : val xs = 0 := by
      have h1 : B64 * val xs = 0 := by omega
      rcases Nat.mul_eq_zero.1 h1 with h2 | h2
      · have := B64_pos; omega
      · exact h2
    by_cases he : xs = []
    · subst he; subst hx; simp [canon] at hc
    · rw [canon_cons he] at hc
      exact absurd (ih hc hv) he

theorem limbs_val {l : List Nat} (hd : Dig l) (hc : canon l = true) : limbs (val l) = l := by
  induction l with
  | nil => exact limbs_zero
  | cons x xs ih =>
    have hne : val (x :: xs) ≠ 0 := fun h => by have := val_eq_zero hc h; cases this
    have hx := hd.head
    rw [limbs_pos hne, val_cons]
    have h1 : (x + B64 * val xs) % B64 = x := by rw [Nat.add_mul_mod_self_left]; exact Nat.mod_eq_of_lt hx
    have h2 : (x + B64 * val xs) / B64 = val xs := by
      rw [Nat.add_mul_div_left _ _ B64_pos, Nat.div_eq_of_lt hx]; omega
    rw [h1, h2]
    by_cases he : xs = []
    · subst he; rw [val_nil, limbs_zero]
    · rw [canon_cons he] at hc
      rw [ih hd.tail hc]

theorem limbs_canon (n : Nat) : canon (limbs n) = true := by
  induction n using Nat.strongRecOn with
  | _ n ih =>
    by_cases h : n = 0
    · subst h; rw [limbs_zero]; rfl
    · rw [limbs_pos h]
      by_cases he : limbs (n / B64) = []
      · have hz : n / B64 = 0 := by
          have := val_limbs (n / B64); rw [he] at this; exact this.symm
        have hlt : n < B64 := by
          rcases Nat.lt_or_ge n B64 with h1 | h1
          · exact h1
          · have := Nat.div_pos h1 B64_pos; omega
        rw [he, Nat.mod_eq_of_lt hlt]
        simp [canon, h]
      · rw [canon_cons he]
        exact ih _ (Nat.div_lt_self (by omega) B64_gt)

theorem limbs_inj {a b : Nat} (h : limbs a = limbs b) : a = b := by
  rw [← val_limbs a, h, val_limbs]

theorem val_lt {l : List Nat} (hd : Dig l) : val l < B64 ^ l.length := by
  induction l with
  | nil => simp [val_nil]
  | cons x xs ih =>
    rw [val_cons, List.length_cons, Nat.pow_succ, Nat.mul_comm (B64 ^ xs.length)]
    have h1 := ih hd.tail
    have h2 := hd.head
    calc x + B64 * val xs < B64 + B64 * val xs := by omega
      _ = B64 * (val xs + 1) := by rw [Nat.mul_add, Nat.mul_one]; omega
      _ ≤ B64 * B64 ^ xs.length := Nat.mul_le_mul_left _ h1

theorem val_snoc (l : List Nat) (x : Nat) : val (l ++ [x]) = val l + B64 ^ l.length * x := by
  induction l with
  | nil => simp [val_cons, val_nil]
  | cons y ys ih =>
    rw [List.cons_append, val_cons, ih, val_cons, List.length_cons, Nat.pow_succ, Nat.mul_add]
    rw [← Nat.mul_assoc, Nat.mul_comm B64 (B64 ^ ys.length)]
    omega

theorem val_take_succ (l : List Nat) (k : Nat) : val (l.take (k + 1)) = val (l.take k) + B64 ^ k * l[k]?.getD 0 := by
  by_cases hk : k < l.length
  · rw [List.take_succ_eq_append_getElem hk, val_snoc, List.length_take, Nat.min_eq_left (by omega)]
    simp [hk]
  · rw [List.take_of_length_le (by omega), List.take_of_length_le (by omega), List.getElem?_eq_none (by omega)]
    simp

theorem limbs_length_le {n k : Nat} (h : n < B64 ^ k) : (limbs n).length ≤ k := by
  induction k generalizing n with
  | zero => simp at h; subst h; rw [limbs_zero]; simp
  | succ k ih =>
    by_cases hn : n = 0
    · subst hn; rw [limbs_zero]; simp
    · rw [limbs_pos hn, List.length_cons]
      have : n / B64 < B64 ^ k := by
        rw [Nat.div_lt_iff_lt_mul B64_pos, ← Nat.pow_succ]; exact h
      have := ih this
      omega

theorem lt_of_limbs_length {n k : Nat} (h : (limbs n).length ≤ k) : n < B64 ^ k := by
  have h1 := val_lt (limbs_dig n)
  rw [val_limbs] at h1
  exact Nat.lt_of_lt_of_le h1 (Nat.pow_le_pow_right B64_pos h)

theorem limbs_lt_iff {n k : Nat} : (limbs n).length ≤ k ↔ n < B64 ^ k := ⟨lt_of_limbs_length, limbs_length_le⟩

theorem limbs_length_add {a b k : Nat} (ha : (limbs a).length ≤ k) (hb : (limbs b).length ≤ k) : (limbs (a + b)).length ≤ k + 1 := by
  rw [limbs_lt_iff] at *
  rw [Nat.pow_succ]
  have := B64_gt
  calc a + b < B64 ^ k + B64 ^ k := by omega
    _ = B64 ^ k * 2 := by omega
    _ ≤ B64 ^ k * B64 := Nat.mul_le_mul_left _ (by omega)

theorem limbs_length_mul {a b k m : Nat} (ha : (limbs a).length ≤ k) (hb : (limbs b).length ≤ m) : (limbs (a * b)).length ≤ k + m := by
  rw [limbs_lt_iff] at *
  rw [Nat.pow_add]
  exact Nat.mul_lt_mul_of_lt_of_le ha (Nat.le_of_lt hb) (Nat.pow_pos B64_pos)

theorem limbs_ne_nil {n : Nat} (h : n ≠ 0) : 0 < (limbs n).length := by rw [limbs_pos h]; simp
theorem limbs_ge {n : Nat} (h : 0 < (limbs n).length) : B64 ^ ((limbs n).length - 1) ≤ n := by
  rcases Nat.lt_or_ge n (B64 ^ ((limbs n).length - 1)) with h1 | h1
  · have := limbs_length_le h1; omega
  · exact h1
/-- Digits whose number is great enough for their length are the number's own. -/
theorem eq_limbs {l : List Nat} (hd : Dig l) (h : 0 < l.length → B64 ^ (l.length - 1) ≤ val l) : l = limbs (val l) := by
  refine (limbs_val hd ?_).symm
  rcases Nat.eq_zero_or_pos l.length with h0 | h0
  · rw [List.eq_nil_of_length_eq_zero h0]; rfl
  · have hl : l ≠ [] := fun e => by rw [e] at h0; simp at h0
    have e := List.dropLast_concat_getLast hl
    have h1 := h h0
    have hlen : l.dropLast.length = l.length - 1 := List.length_dropLast
    have hv : val l.dropLast < B64 ^ (l.length - 1) := by
      rw [← hlen]; exact val_lt fun x hx => hd x (List.dropLast_subset _ hx)
    have hne : l.getLast hl ≠ 0 := fun hz => by
      have h2 : val l = val l.dropLast := by
        have h3 := val_snoc l.dropLast (l.getLast hl)
        rw [e, hz, Nat.mul_zero, Nat.add_zero] at h3
        exact h3
      omega
    unfold canon
    rw [List.getLastD_eq_getLast?, List.getLast?_eq_some_getLast hl]
    simpa using hne

/-- The lower and the upper half of a sum with a carry. -/
def sumLo (x y c : Nat) : Nat := (x + y + c) % B64
def sumHi (x y c : Nat) : Nat := (x + y + c) / B64
theorem sum_split (x y c : Nat) : sumLo x y c + B64 * sumHi x y c = x + y + c := Nat.mod_add_div _ _
theorem sumLo_lt (x y c : Nat) : sumLo x y c < B64 := Nat.mod_lt _ B64_pos
theorem sumHi_le {x y c : Nat} (hx : x < B64) (hy : y < B64) (hc : c ≤ 1) : sumHi x y c ≤ 1 := by
  unfold sumHi
  have : (x + y + c) / B64 < 2 := (Nat.div_lt_iff_lt_mul B64_pos).2 (by omega)
  omega
/-- The lower half of a difference with a borrow, and the borrow. -/
def subLo (x y b : Nat) : Nat := (x + B64 - y - b) % B64
def subHi (x y b : Nat) : Nat := if x < y + b then 1 else 0
theorem subLo_lt (x y b : Nat) : subLo x y b < B64 := Nat.mod_lt _ B64_pos
theorem subHi_le (x y b : Nat) : subHi x y b ≤ 1 := by unfold subHi; split <;> omega
theorem sub_split {x y b : Nat} (hx : x < B64) (hy : y < B64) (hb : b ≤ 1) : subLo x y b + y + b = x + B64 * subHi x y b := by
  unfold subLo subHi
  split
  · have h1 : x + B64 - y - b < B64 := by omega
    rw [Nat.mod_eq_of_lt h1]; omega
  · have h1 : x + B64 - y - b = (x - y - b) + B64 := by omega
    rw [h1, Nat.add_mod_right, Nat.mod_eq_of_lt (by omega)]; omega

theorem limbs_length_mono {a b : Nat} (h : a ≤ b) : (limbs a).length ≤ (limbs b).length :=
  limbs_length_le (Nat.lt_of_le_of_lt h (lt_of_limbs_length (Nat.le_refl _)))

end Go.Proofs.Ytchbhmcaalkfdaa

/-
  Plain arithmetic: products of digits.
-/
namespace Go.Proofs.Ytchbhmcaalkfdaa

/-- The two halves of a product of digits. -/
def mulLo (x y : Nat) : Nat := x * y % B64
def mulHi (x y : Nat) : Nat := x * y / B64
theorem mulLo_lt (x y : Nat) : mulLo x y < B64 := Nat.mod_lt _ B64_pos
/-- A product of digits, a digit and a carry, in two halves. -/
def macLo (x y q c : Nat) : Nat := (x * y + q + c) % B64
def macHi (x y q c : Nat) : Nat := (x * y + q + c) / B64
theorem macLo_lt (x y q c : Nat) : macLo x y q c < B64 := Nat.mod_lt _ B64_pos
theorem mac_split (x y q c : Nat) : macLo x y q c + B64 * macHi x y q c = x * y + q + c := Nat.mod_add_div _ _
theorem macHi_lt {x y q c : Nat} (hx : x < B64) (hy : y < B64) (hq : q < B64) (hc : c < B64) : macHi x y q c < B64 := by
  unfold macHi
  rw [Nat.div_lt_iff_lt_mul B64_pos]
  have h1 : x * y ≤ (B64 - 1) * (B64 - 1) := Nat.mul_le_mul (by omega) (by omega)
  have h2 : (B64 - 1) * (B64 - 1) + (B64 - 1) + (B64 - 1) < B64 * B64 := by unfold B64; omega
  omega
theorem macLo_eq (x y q c : Nat) : sumLo (sumLo (mulLo x y) q 0) c 0 = macLo x y q c := by
  unfold sumLo mulLo macLo
  rw [Nat.add_zero, Nat.add_zero, Nat.mod_add_mod]
  rw [Nat.add_assoc, Nat.mod_add_mod, ← Nat.add_assoc]
theorem macHi_eq (x y q c : Nat) : mulHi x y + sumHi (mulLo x y) q 0 + sumHi (sumLo (mulLo x y) q 0) c 0 = macHi x y q c := by
  have h1 := sum_split (mulLo x y) q 0
  have h2 := sum_split (sumLo (mulLo x y) q 0) c 0
  have h3 : mulLo x y + B64 * mulHi x y = x * y := Nat.mod_add_div _ _
  have h4 := mac_split x y q c
  rw [← macLo_eq] at h4
  have h5 : B64 * (mulHi x y + sumHi (mulLo x y) q 0 + sumHi (sumLo (mulLo x y) q 0) c 0) = B64 * macHi x y q c := by
    rw [Nat.mul_add, Nat.mul_add]; omega
  exact Nat.eq_of_mul_eq_mul_left B64_pos h5

theorem val_set {l : List Nat} {k : Nat} (hk : k < l.length) (d : Nat) : val (l.set k d) + B64 ^ k * l[k]?.getD 0 = val l + B64 ^ k * d := by
  induction l generalizing k with
  | nil => simp at hk
  | cons x xs ih =>
    cases k with
    | zero => simp [val_cons]; omega
    | succ k =>
      have h := ih (k := k) (by simpa using hk)
      rw [List.set_cons_succ, val_cons, val_cons, List.getElem?_cons_succ, Nat.pow_succ, Nat.mul_comm (B64 ^ k) B64, Nat.mul_assoc, Nat.mul_assoc]
      have h2 : B64 * (val (xs.set k d) + B64 ^ k * xs[k]?.getD 0) = B64 * (val xs + B64 ^ k * d) := by rw [h]
      rw [Nat.mul_add, Nat.mul_add] at h2
      omega

theorem Dig.set {l : List Nat} (h : Dig l) (k : Nat) {d : Nat} (hd : d < B64) : Dig (l.set k d) := fun x hx => by
  rcases List.mem_or_eq_of_mem_set hx with h1 | h1
  · exact h x h1
  · rw [h1]; exact hd

end Go.Proofs.Ytchbhmcaalkfdaa

/-
  Plain arithmetic: digits to the base 2 to the power of 32, as the reference reckons.
-/
namespace Go.Proofs.Ytchbhmcaalkfdaa

/-- 2 to the power of 32, behind a name. -/
def H32 : Nat := 4294967296
theorem H32_pos : 0 < H32 := by unfold H32; omega
theorem H32_gt : 1 < H32 := by unfold H32; omega
theorem H32_sq : H32 * H32 = B64 := rfl
theorem H32_lt : H32 < B64 := by unfold H32 B64; omega

/-- The number of figures of 32 bits, the lowest first. -/
def valH : List Nat → Nat
  | [] => 0
  | x :: xs => x + H32 * valH xs
def DigH (l : List Nat) : Prop := ∀ x ∈ l, x < H32

theorem valH_nil : valH [] = 0 := rfl
theorem valH_cons (x : Nat) (xs : List Nat) : valH (x :: xs) = x + H32 * valH xs := rfl
theorem DigH.nil : DigH [] := fun _ h => by cases h
theorem DigH.dig {l : List Nat} (h : DigH l) : Dig l := fun x hx => Nat.lt_trans (h x hx) H32_lt
theorem DigH.snoc {x : Nat} {xs : List Nat} (h : DigH xs) (hx : x < H32) : DigH (xs ++ [x]) := fun y hy => by
  rcases List.mem_append.1 hy with hy | hy
  · exact h y hy
  · simp at hy; subst hy; exact hx
theorem DigH.get {l : List Nat} (h : DigH l) (j : Nat) : l[j]?.getD 0 < H32 := by
  by_cases hj : j < l.length
  · simp [hj]; exact h _ (List.getElem_mem hj)
  · rw [List.getElem?_eq_none (by omega)]; exact H32_pos
theorem DigH.set {l : List Nat} (h : DigH l) (k : Nat) {d : Nat} (hd : d < H32) : DigH (l.set k d) := fun x hx => by
  rcases List.mem_or_eq_of_mem_set hx with h1 | h1
  · exact h x h1
  · rw [h1]; exact hd

theorem valH_lt {l : List Nat} (hd : DigH l) : valH l < H32 ^ l.length := by
  induction l with
  | nil => simp [valH_nil]
  | cons x xs ih =>
    rw [valH_cons, List.length_cons, Nat.pow_succ, Nat.mul_comm (H32 ^ xs.length)]
    have h1 := ih fun y hy => hd y (List.mem_cons_of_mem _ hy)
    have h2 := hd x List.mem_cons_self
    have h3 : H32 * (valH xs + 1) ≤ H32 * H32 ^ xs.length := Nat.mul_le_mul_left _ h1
    rw [Nat.mul_add, Nat.mul_one] at h3
    omega

theorem valH_snoc (l : List Nat) (x : Nat) : valH (l ++ [x]) = valH l + H32 ^ l.length * x := by
  induction l with
  | nil => simp [valH_cons, valH_nil]
  | cons y ys ih =>
    rw [List.cons_append, valH_cons, ih, valH_cons, List.length_cons, Nat.pow_succ, Nat.mul_add]
    rw [← Nat.mul_assoc, Nat.mul_comm H32 (H32 ^ ys.length)]
    omega

theorem valH_take_succ (l : List Nat) (k : Nat) : valH (l.take (k + 1)) = valH (l.take k) + H32 ^ k * l[k]?.getD 0 := by
  by_cases hk : k < l.length
  · rw [List.take_succ_eq_append_getElem hk, valH_snoc, List.length_take, Nat.min_eq_left (by omega)]
    simp [hk]
  · rw [List.take_of_length_le (by omega), List.take_of_length_le (by omega), List.getElem?_eq_none (by omega)]
    simp

theorem valH_take_lt {l : List Nat} (h : DigH l) (k : Nat) : valH (l.take k) < H32 ^ k :=
  Nat.lt_of_lt_of_le (valH_lt fun x hx => h x (List.mem_of_mem_take hx)) (Nat.pow_le_pow_right H32_pos (List.length_take_le _ _))

theorem valH_set {l : List Nat} {k : Nat} (hk : k < l.length) (d : Nat) : valH (l.set k d) + H32 ^ k * l[k]?.getD 0 = valH l + H32 ^ k * d := by
  induction l generalizing k with
  | nil => simp at hk
  | cons x xs ih =>
    cases k with
    | zero => simp [valH_cons]; omega
    | succ k =>
      have h := ih (k := k) (by simpa using hk)
      rw [List.set_cons_succ, valH_cons, valH_cons, List.getElem?_cons_succ, Nat.pow_succ, Nat.mul_comm (H32 ^ k) H32, Nat.mul_assoc, Nat.mul_assoc]
      have h2 : H32 * (valH (xs.set k d) + H32 ^ k * xs[k]?.getD 0) = H32 * (valH xs + H32 ^ k * d) := by rw [h]
      rw [Nat.mul_add, Nat.mul_add] at h2
      omega

theorem valH_zeros (n : Nat) : valH (List.replicate n 0) = 0 := by
  induction n with
  | zero => rfl
  | succ n ih => rw [List.replicate_succ, valH_cons, ih]; simp
theorem digH_zeros (n : Nat) : DigH (List.replicate n 0) := fun x hx => by rw [(List.mem_replicate.1 hx).2]; exact H32_pos

/-- The lower and the upper half of a digit. -/
def loH (x : Nat) : Nat := x % H32
def hiH (x : Nat) : Nat := x / H32
theorem loH_lt (x : Nat) : loH x < H32 := Nat.mod_lt _ H32_pos
theorem hiH_lt {x : Nat} (h : x < B64) : hiH x < H32 := by unfold hiH; rw [Nat.div_lt_iff_lt_mul H32_pos, H32_sq]; exact h
theorem half_split (x : Nat) : loH x + H32 * hiH x = x := Nat.mod_add_div _ _

/-- A number's figures. -/
def halvesL : List Nat → List Nat
  | [] => []
  | x :: xs => loH x :: hiH x :: halvesL xs
theorem halvesL_length (l : List Nat) : (halvesL l).length = 2 * l.length := by
  induction l with
  | nil => rfl
  | cons x xs ih => simp only [halvesL, List.length_cons, ih]; omega
theorem halvesL_snoc (l : List Nat) (x : Nat) : halvesL (l ++ [x]) = halvesL l ++ [loH x, hiH x] := by
  induction l with
  | nil => rfl
  | cons y ys ih => simp only [List.cons_append, halvesL, ih]
theorem halvesL_dig {l : List Nat} (h : Dig l) : DigH (halvesL l) := by
  induction l with
  | nil => exact DigH.nil
  | cons x xs ih =>
    intro y hy
    simp only [halvesL, List.mem_cons] at hy
    rcases hy with rfl | rfl | hy
    · exact loH_lt _
    · exact hiH_lt h.head
    · exact ih h.tail y hy
theorem halvesL_val (l : List Nat) : valH (halvesL l) = val l := by
  induction l with
  | nil => rfl
  | cons x xs ih =>
    simp only [halvesL, valH_cons, val_cons, ih]
    have := half_split x
    have e : H32 * (hiH x + H32 * val xs) = H32 * hiH x + B64 * val xs := by rw [Nat.mul_add, ← Nat.mul_assoc, H32_sq]
    omega

/-- Two figures as a digit. -/
def join (a b : Nat) : Nat := a + b * H32
theorem join_lt {a b : Nat} (ha : a < H32) (hb : b < H32) : join a b < B64 := by
  unfold join
  have : (b + 1) * H32 ≤ H32 * H32 := Nat.mul_le_mul_right _ hb
  rw [H32_sq, Nat.add_mul, Nat.one_mul] at this
  omega

/-- Digits of the first 2k figures. -/
def joinL (l : List Nat) (k : Nat) : List Nat := (List.range k).map fun j => join (l[2 * j]?.getD 0) (l[2 * j + 1]?.getD 0)
theorem joinL_length (l : List Nat) (k : Nat) : (joinL l k).length = k := by simp [joinL]
theorem joinL_succ (l : List Nat) (k : Nat) : joinL l (k + 1) = joinL l k ++ [join (l[2 * k]?.getD 0) (l[2 * k + 1]?.getD 0)] := by simp [joinL, List.range_succ]
theorem joinL_dig {l : List Nat} (h : DigH l) (k : Nat) : Dig (joinL l k) := fun x hx => by
  obtain ⟨j, _, rfl⟩ := List.mem_map.1 hx
  exact join_lt (h.get _) (h.get _)
theorem joinL_val (l : List Nat) (k : Nat) : val (joinL l k) = valH (l.take (2 * k)) := by
  induction k with
  | zero => simp [joinL, val_nil, valH_nil]
  | succ k ih =>
    rw [joinL_succ, val_snoc, joinL_length, ih, show 2 * (k + 1) = 2 * k + 1 + 1 by omega, valH_take_succ, valH_take_succ]
    have e : B64 ^ k = H32 ^ (2 * k) := by rw [← H32_sq, Nat.pow_mul, Nat.pow_two]
    rw [e, join, Nat.mul_add, Nat.pow_succ]
    have : H32 ^ (2 * k) * (l[2 * k + 1]?.getD 0 * H32) = H32 ^ (2 * k) * H32 * l[2 * k + 1]?.getD 0 := by ac_rfl
    omega

/-- Three figures' sum, in two parts. -/
theorem div_le_one {x y c : Nat} (hx : x < H32) (hy : y < H32) (hc : c ≤ 1) : hiH (x + y + c) ≤ 1 := by
  unfold hiH
  have : (x + y + c) / H32 < 2 := (Nat.div_lt_iff_lt_mul H32_pos).2 (by omega)
  omega

end Go.Proofs.Ytchbhmcaalkfdaa

/-
  Plain arithmetic: digits by division, powers of 2, binary figures.
-/
namespace Go.Proofs.Ytchbhmcaalkfdaa

/-- A number's digit at a place, by division. -/
def dig (y j : Nat) : Nat := y / B64 ^ j % B64
theorem dig_lt (y j : Nat) : dig y j < B64 := Nat.mod_lt _ B64_pos
theorem limbs_get (x j : Nat) : (limbs x)[j]?.getD 0 = dig x j := by
  induction j generalizing x with
  | zero =>
    unfold dig
    rw [Nat.pow_zero, Nat.div_one]
    by_cases h : x = 0
    · subst h; rw [limbs_zero]; simp
    · rw [limbs_pos h]; simp
  | succ j ih =>
    by_cases h : x = 0
    · subst h; rw [limbs_zero]; simp [dig]
    · rw [limbs_pos h, List.getElem?_cons_succ, ih]
      unfold dig
      rw [Nat.div_div_eq_div_mul, Nat.pow_succ, Nat.mul_comm B64]
/-- The first k digits. -/
def digs (y k : Nat) : List Nat := (List.range k).map (dig y)
theorem digs_length (y k : Nat) : (digs y k).length = k := by simp [digs]
theorem digs_succ (y k : Nat) : digs y (k + 1) = digs y k ++ [dig y k] := by simp [digs, List.range_succ]
theorem digs_dig (y k : Nat) : Dig (digs y k) := fun x hx => by
  obtain ⟨j, _, rfl⟩ := List.mem_map.1 hx
  exact dig_lt _ _
theorem digs_get {y k j : Nat} (h : j < k) : (digs y k)[j]?.getD 0 = dig y j := by simp [digs, h]
theorem digs_val (y k : Nat) : val (digs y k) = y % B64 ^ k := by
  induction k with
  | zero => simp [digs, val_nil, Nat.mod_one]
  | succ k ih =>
    rw [digs_succ, val_snoc, digs_length, ih, dig, Nat.pow_succ, Nat.mod_mul]
theorem digs_all {y k : Nat} (h : y < B64 ^ k) : val (digs y k) = y := by rw [digs_val, Nat.mod_eq_of_lt h]

theorem B64_two : B64 = 2 ^ 64 := rfl
theorem B64_pow2 (j : Nat) : B64 ^ j = 2 ^ (64 * j) := by rw [B64_two, Nat.pow_mul]

/-- 2 to a power, behind a name. -/
def pw (k : Nat) : Nat := 2 ^ k
theorem pw_zero : pw 0 = 1 := rfl
theorem pw_succ (k : Nat) : pw (k + 1) = pw k * 2 := Nat.pow_succ ..
theorem pw_pos (k : Nat) : 0 < pw k := Nat.pow_pos (by omega)
theorem pw_lt {k : Nat} (h : k < 64) : pw k < B64 := by rw [B64_two]; exact (Nat.pow_lt_pow_iff_right (by omega)).2 h
theorem pw_limbs (n : Nat) : (List.replicate (n / 64 + 1) 0).set (n / 64) (pw (n % 64)) = limbs (2 ^ n) := by
  have hz : ∀ m, val (List.replicate m 0) = 0 := fun m => by
    induction m with
    | zero => rfl
    | succ m ih => rw [List.replicate_succ, val_cons, ih]; simp
  have h1 := val_set (l := List.replicate (n / 64 + 1) 0) (k := n / 64) (by simp) (pw (n % 64))
  have h0 : (List.replicate (n / 64 + 1) 0)[n / 64]?.getD 0 = 0 := by simp
  rw [h0, hz, Nat.mul_zero, Nat.add_zero, Nat.zero_add] at h1
  have h2 : B64 ^ (n / 64) * pw (n % 64) = 2 ^ n := by
    rw [B64_pow2, pw, ← Nat.pow_add]
    congr 1
    omega
  rw [h2] at h1
  rw [← h1]
  refine eq_limbs (Dig.set (fun x hx => by rw [(List.mem_replicate.1 hx).2]; exact B64_pos) _ (pw_lt (Nat.mod_lt _ (by omega)))) fun _ => ?_
  rw [List.length_set, List.length_replicate, Nat.add_sub_cancel, h1, ← h2]
  exact Nat.le_mul_of_pos_right _ (pw_pos _)

/-- A binary figure. -/
def bitN (x i : Nat) : Nat := x / 2 ^ i % 2
theorem bitN_lt (x i : Nat) : bitN x i < 2 := Nat.mod_lt _ (by omega)
theorem bitN_dig (x i : Nat) : dig x (i / 64) / 2 ^ (i % 64) % 2 = bitN x i := by
  have h : ∀ y s : Nat, s < 64 → y % B64 / 2 ^ s % 2 = y / 2 ^ s % 2 := fun y s hs => by
    have e : B64 = 2 ^ s * 2 ^ (64 - s) := by rw [B64_two, ← Nat.pow_add]; congr 1; omega
    rw [e, Nat.mod_mul_right_div_self]
    obtain ⟨r, hr⟩ : ∃ r, 64 - s = r + 1 := ⟨64 - s - 1, by omega⟩
    rw [hr, Nat.pow_succ, Nat.mul_comm]
    exact Nat.mod_mul_right_mod _ _ _
  unfold dig bitN
  rw [h _ _ (Nat.mod_lt _ (by omega)), B64_pow2, Nat.div_div_eq_div_mul, ← Nat.pow_add]
  congr 3
  omega

/-- Two digits, shifted down by k places, the lower digit. -/
def sh2 (x y k : Nat) : Nat := (x + B64 * y) / 2 ^ k % B64
theorem sh2_lt (x y k : Nat) : sh2 x y k < B64 := Nat.mod_lt _ B64_pos
theorem sh2_zero {x : Nat} (hx : x < B64) (y : Nat) : sh2 x y 0 = x := by
  unfold sh2
  rw [Nat.pow_zero, Nat.div_one, Nat.add_mul_mod_self_left, Nat.mod_eq_of_lt hx]
theorem sh2_succ {x : Nat} (hx : x < B64) (y k : Nat) : sh2 x y k / 2 + y / 2 ^ k % 2 * 9223372036854775808 = sh2 x y (k + 1) := by
  have h1 : (x + B64 * y) / 2 ^ k / B64 = y / 2 ^ k := by
    rw [Nat.div_div_eq_div_mul, Nat.mul_comm (2 ^ k) B64, ← Nat.div_div_eq_div_mul, Nat.add_mul_div_left _ _ B64_pos, Nat.div_eq_of_lt hx, Nat.zero_add]
  have h2 : sh2 x y (k + 1) = (x + B64 * y) / 2 ^ k / 2 % B64 := by unfold sh2; rw [Nat.pow_succ, ← Nat.div_div_eq_div_mul]
  rw [h2]
  unfold sh2
  rw [← h1]
  generalize (x + B64 * y) / 2 ^ k = u
  unfold B64
  omega

theorem sh2_dig (x i s : Nat) (hs : s < 64) : sh2 (dig x i) (dig x (i + 1)) s = x / B64 ^ i / 2 ^ s % B64 := by
  have h1 : dig x i + B64 * dig x (i + 1) = x / B64 ^ i % (B64 * B64) := by
    unfold dig
    rw [Nat.mod_mul, Nat.pow_succ, Nat.div_div_eq_div_mul]
  unfold sh2
  rw [h1]
  generalize x / B64 ^ i = m
  have e : B64 * B64 = 2 ^ s * (B64 * 2 ^ (64 - s)) := by
    have e2 : 2 ^ s * 2 ^ (64 - s) = B64 := by rw [B64_two, ← Nat.pow_add]; congr 1; omega
    calc B64 * B64 = B64 * (2 ^ s * 2 ^ (64 - s)) := by rw [e2]
      _ = 2 ^ s * (B64 * 2 ^ (64 - s)) := by ac_rfl
  rw [e, Nat.mod_mul_right_div_self]
  exact Nat.mod_mul_right_mod _ _ _

/-- A digit of what is shifted down. -/
theorem shr_dig (x n j : Nat) : sh2 (dig x (n / 64 + j)) (dig x (n / 64 + j + 1)) (n % 64) = dig (x / 2 ^ n) j := by
  rw [sh2_dig _ _ _ (Nat.mod_lt _ (by omega))]
  unfold dig
  congr 1
  rw [B64_pow2, B64_pow2, Nat.div_div_eq_div_mul, Nat.div_div_eq_div_mul, ← Nat.pow_add, ← Nat.pow_add]
  congr 2
  omega

theorem shr_lt {x n k : Nat} (h : x < B64 ^ k) : x / 2 ^ n < B64 ^ (k - n / 64) := by
  rcases Nat.lt_or_ge (n / 64) k with h1 | h1
  · rw [Nat.div_lt_iff_lt_mul (Nat.pow_pos (by omega))]
    refine Nat.lt_of_lt_of_le h ?_
    have e : B64 ^ k = B64 ^ (k - n / 64) * B64 ^ (n / 64) := by rw [← Nat.pow_add]; congr 1; omega
    rw [e]
    refine Nat.mul_le_mul_left _ ?_
    rw [B64_pow2]
    exact Nat.pow_le_pow_right (by omega) (by omega)
  · have h2 : x < 2 ^ n := by
      refine Nat.lt_of_lt_of_le h ?_
      rw [B64_pow2]
      exact Nat.pow_le_pow_right (by omega) (by omega)
    rw [Nat.div_eq_of_lt h2]
    exact Nat.pow_pos B64_pos

end Go.Proofs.Ytchbhmcaalkfdaa

/-
  Plain arithmetic: a division bit by bit.
-/
namespace Go.Proofs.Ytchbhmcaalkfdaa

/-- Of a quotient F: what digit t holds when all binary figures from m on are known. -/
def qd (F m t : Nat) : Nat := F / 2 ^ (max m (64 * t)) % 2 ^ (64 * (t + 1) - max m (64 * t))
theorem qd_lt (F m t : Nat) : qd F m t < B64 := by
  unfold qd
  refine Nat.lt_of_lt_of_le (Nat.mod_lt _ (Nat.pow_pos (by omega))) ?_
  rw [B64_two]
  exact Nat.pow_le_pow_right (by omega) (by omega)
theorem qd_none {F m : Nat} (h : F < 2 ^ m) (t : Nat) : qd F m t = 0 := by
  unfold qd
  have : F < 2 ^ (max m (64 * t)) := Nat.lt_of_lt_of_le h (Nat.pow_le_pow_right (by omega) (by omega))
  rw [Nat.div_eq_of_lt this, Nat.zero_mod]
theorem qd_done (F t : Nat) : qd F 0 t = dig F t := by
  unfold qd dig
  have e1 : max 0 (64 * t) = 64 * t := by omega
  have e2 : 64 * (t + 1) - 64 * t = 64 := by omega
  rw [e1, e2, B64_pow2]
  rfl
theorem qd_other {F i t : Nat} (h : t ≠ i / 64) : qd F i t = qd F (i + 1) t := by
  unfold qd
  rcases Nat.lt_or_ge t (i / 64) with h1 | h1
  · have e1 : 64 * (t + 1) - max i (64 * t) = 0 := by omega
    have e2 : 64 * (t + 1) - max (i + 1) (64 * t) = 0 := by omega
    rw [e1, e2, Nat.pow_zero, Nat.mod_one, Nat.mod_one]
  · have e1 : max i (64 * t) = 64 * t := by omega
    have e2 : max (i + 1) (64 * t) = 64 * t := by omega
    rw [e1, e2]
theorem qd_same (F i : Nat) : qd F i (i / 64) = 2 * qd F (i + 1) (i / 64) + bitN F i := by
  unfold qd bitN
  have e1 : max i (64 * (i / 64)) = i := by omega
  have e2 : max (i + 1) (64 * (i / 64)) = i + 1 := by omega
  obtain ⟨e, he⟩ : ∃ e, 64 * (i / 64 + 1) - i = e + 1 := ⟨64 * (i / 64 + 1) - i - 1, by omega⟩
  have he2 : 64 * (i / 64 + 1) - (i + 1) = e := by omega
  rw [e1, e2, he, he2, Nat.pow_succ 2 i, ← Nat.div_div_eq_div_mul, Nat.pow_succ, Nat.mul_comm (2 ^ e) 2, Nat.mod_mul]
  omega
theorem qd_room (F i : Nat) : 2 * qd F (i + 1) (i / 64) + 1 < B64 := by
  have h : qd F (i + 1) (i / 64) < 2 ^ 63 := by
    unfold qd
    refine Nat.lt_of_lt_of_le (Nat.mod_lt _ (Nat.pow_pos (by omega))) ?_
    exact Nat.pow_le_pow_right (by omega) (by omega)
  unfold B64
  omega

/-- The digits of a quotient when all binary figures from m on are known. -/
def qlist (F m n : Nat) : List Nat := (List.range n).map (qd F m)
theorem qlist_length (F m n : Nat) : (qlist F m n).length = n := by simp [qlist]
theorem qlist_dig (F m n : Nat) : Dig (qlist F m n) := fun x hx => by
  obtain ⟨j, _, rfl⟩ := List.mem_map.1 hx
  exact qd_lt _ _ _
theorem qlist_get {F m n t : Nat} (h : t < n) : (qlist F m n)[t]?.getD 0 = qd F m t := by simp [qlist, h]
theorem qlist_none {F m : Nat} (h : F < 2 ^ m) (n : Nat) : qlist F m n = List.replicate n 0 := by
  apply List.ext_getElem
  · simp [qlist]
  · intro i h1 h2
    simp [qlist, qd_none h]
theorem qlist_done (F n : Nat) : qlist F 0 n = digs F n := by
  unfold qlist digs
  congr 1
  funext t
  exact qd_done F t
theorem qlist_set (F i n : Nat) : (qlist F (i + 1) n).set (i / 64) (qd F i (i / 64)) = qlist F i n := by
  apply List.ext_getElem
  · simp [qlist]
  · intro j h1 h2
    rw [List.getElem_set]
    by_cases h : i / 64 = j
    · simp [h, qlist]
    · rw [if_neg h]
      simp only [qlist, List.getElem_map, List.getElem_range]
      exact (qd_other (fun e => h e.symm)).symm

/-- One binary figure of a division. -/
theorem div_step {x y : Nat} (hy : 0 < y) (i : Nat) :
    (x / 2 ^ i) % y = (if y ≤ 2 * (x / 2 ^ (i + 1) % y) + bitN x i then 2 * (x / 2 ^ (i + 1) % y) + bitN x i - y else 2 * (x / 2 ^ (i + 1) % y) + bitN x i) ∧
    bitN (x / y) i = (if y ≤ 2 * (x / 2 ^ (i + 1) % y) + bitN x i then 1 else 0) := by
  have h1 : x / 2 ^ i = 2 * (x / 2 ^ (i + 1)) + bitN x i := by
    unfold bitN
    rw [Nat.pow_succ, ← Nat.div_div_eq_div_mul]
    omega
  have hb := bitN_lt x i
  have h2 := Nat.div_add_mod (x / 2 ^ (i + 1)) y
  have hr := Nat.mod_lt (x / 2 ^ (i + 1)) hy
  have h3 : x / y / 2 ^ i = x / 2 ^ i / y := by rw [Nat.div_div_eq_div_mul, Nat.div_div_eq_div_mul, Nat.mul_comm]
  have h4 : bitN (x / y) i = x / 2 ^ i / y % 2 := by unfold bitN; rw [h3]
  rw [h4, h1]
  generalize x / 2 ^ (i + 1) % y = r at *
  generalize x / 2 ^ (i + 1) / y = q at *
  generalize x / 2 ^ (i + 1) = u at *
  generalize bitN x i = b at *
  subst h2
  have e : 2 * (y * q + r) + b = (2 * r + b) + y * (2 * q) := by
    have : y * (2 * q) = 2 * (y * q) := by ac_rfl
    omega
  rw [e, Nat.add_mul_mod_self_left, Nat.add_mul_div_left _ _ hy]
  split
  · rename_i h
    have e1 : (2 * r + b) % y = 2 * r + b - y := by rw [Nat.mod_eq_sub_mod h, Nat.mod_eq_of_lt (by omega)]
    have e2 : (2 * r + b) / y = 1 := by
      rw [Nat.div_eq_sub_div hy h, Nat.div_eq_of_lt (by omega)]
    rw [e1, e2]
    exact ⟨rfl, by omega⟩
  · rename_i h
    have e1 : (2 * r + b) % y = 2 * r + b := Nat.mod_eq_of_lt (by omega)
    have e2 : (2 * r + b) / y = 0 := Nat.div_eq_of_lt (by omega)
    rw [e1, e2]
    exact ⟨rfl, by omega⟩

end Go.Proofs.Ytchbhmcaalkfdaa

/-
  Plain arithmetic of long division: digits shifted within rows, products taken off rows, guesses.
-/
namespace Go.Proofs.Ytchbhmcaalkfdaa

/-- A digit shifted up, what stays and what goes over. -/
def shlD (x s : Nat) : Nat := x * 2 ^ s % B64
def shrD (x s : Nat) : Nat := x / 2 ^ (64 - s)
theorem B64_parts {s : Nat} (hs : s ≤ 64) : 2 ^ s * 2 ^ (64 - s) = B64 := by
  rw [B64_two, ← Nat.pow_add]
  congr 1
  omega
theorem shlD_mul (x : Nat) {s : Nat} (hs : s ≤ 64) : shlD x s = 2 ^ s * (x % 2 ^ (64 - s)) := by
  unfold shlD
  rw [← B64_parts hs, Nat.mul_comm x, Nat.mul_mod_mul_left]
theorem sh_split (x : Nat) {s : Nat} (hs : s ≤ 64) : shlD x s + B64 * shrD x s = x * 2 ^ s := by
  rw [shlD_mul x hs, ← B64_parts hs, Nat.mul_assoc, ← Nat.mul_add]
  unfold shrD
  rw [Nat.mod_add_div, Nat.mul_comm]
theorem shlD_add_lt (x : Nat) {s c : Nat} (hs : s ≤ 64) (hc : c < 2 ^ s) : shlD x s + c < B64 := by
  rw [shlD_mul x hs, ← B64_parts hs]
  have h1 : x % 2 ^ (64 - s) + 1 ≤ 2 ^ (64 - s) := Nat.mod_lt _ (Nat.pow_pos (by omega))
  have h2 : 2 ^ s * (x % 2 ^ (64 - s) + 1) ≤ 2 ^ s * 2 ^ (64 - s) := Nat.mul_le_mul_left _ h1
  rw [Nat.mul_add, Nat.mul_one] at h2
  omega
theorem shrD_lt {x s : Nat} (hx : x < B64) (hs : s ≤ 64) : shrD x s < 2 ^ s := by
  unfold shrD
  rw [Nat.div_lt_iff_lt_mul (Nat.pow_pos (by omega)), B64_parts hs]
  exact hx

/-- What has been reckoned of a row shifted up when k digits are done. -/
def RaisedAt (l R : List Nat) (k s c : Nat) : Prop := Dig R ∧ R.length = k ∧ c < 2 ^ s ∧ val R + B64 ^ k * c = val (l.take k) * 2 ^ s
theorem RaisedAt.start (l : List Nat) (s : Nat) : RaisedAt l [] 0 s 0 := ⟨Dig.nil, rfl, Nat.pow_pos (by omega), by simp [val_nil]⟩
theorem RaisedAt.step {l R : List Nat} {k s c : Nat} (h : RaisedAt l R k s c) (hl : Dig l) (hs : s ≤ 64) : RaisedAt l (R ++ [shlD (l[k]?.getD 0) s + c]) (k + 1) s (shrD (l[k]?.getD 0) s) := by
  obtain ⟨h1, h2, h3, h4⟩ := h
  refine ⟨h1.snoc (shlD_add_lt _ hs h3), by simp [h2], shrD_lt (hl.get k) hs, ?_⟩
  rw [val_snoc, h2, val_take_succ, Nat.add_mul, ← h4, Nat.pow_succ]
  have h5 := sh_split (l[k]?.getD 0) hs
  generalize l[k]?.getD 0 = x at *
  have h6 : B64 ^ k * (shlD x s + B64 * shrD x s) = B64 ^ k * (x * 2 ^ s) := by rw [h5]
  rw [Nat.mul_add, ← Nat.mul_assoc, ← Nat.mul_assoc] at h6
  rw [Nat.mul_add]
  omega
theorem RaisedAt.done {l R : List Nat} {k s c : Nat} (h : RaisedAt l R k s c) (hk : k = l.length) (hs : s ≤ 64) : Dig (R ++ [c]) ∧ (R ++ [c]).length = l.length + 1 ∧ val (R ++ [c]) = val l * 2 ^ s := by
  obtain ⟨h1, h2, h3, h4⟩ := h
  have h5 : c < B64 := Nat.lt_of_lt_of_le h3 (by rw [B64_two]; exact Nat.pow_le_pow_right (by omega) hs)
  refine ⟨h1.snoc h5, by simp [h2, hk], ?_⟩
  rw [val_snoc, h2, h4, List.take_of_length_le (by omega)]

theorem get_dig {l : List Nat} (hl : Dig l) (j : Nat) : l[j]?.getD 0 = dig (val l) j := by
  induction j generalizing l with
  | zero =>
    cases l with
    | nil => simp [dig, val_nil]
    | cons x xs => unfold dig; rw [Nat.pow_zero, Nat.div_one, val_cons, Nat.add_mul_mod_self_left, Nat.mod_eq_of_lt hl.head]; rfl
  | succ j ih =>
    cases l with
    | nil => simp [dig, val_nil]
    | cons x xs =>
      rw [List.getElem?_cons_succ, ih hl.tail]
      unfold dig
      rw [val_cons, Nat.pow_succ, Nat.mul_comm _ B64, ← Nat.div_div_eq_div_mul, Nat.add_mul_div_left _ _ B64_pos, Nat.div_eq_of_lt hl.head, Nat.zero_add]

/-- A digit shifted down, with what comes from the one above. -/
theorem low_dig {x : Nat} (hx : x < B64) (y : Nat) {s : Nat} (hs : s ≤ 64) : x / 2 ^ s + shlD y (64 - s) = sh2 x y s := by
  unfold sh2 shlD
  have e : B64 * y = 2 ^ s * (2 ^ (64 - s) * y) := by rw [← Nat.mul_assoc, B64_parts hs]
  rw [e, Nat.add_mul_div_left _ _ (Nat.pow_pos (by omega)), Nat.mul_comm y]
  have h1 : x / 2 ^ s < 2 ^ (64 - s) := by
    rw [Nat.div_lt_iff_lt_mul (Nat.pow_pos (by omega)), Nat.mul_comm, B64_parts hs]; exact hx
  have h2 : 2 ^ (64 - s) * y % B64 = 2 ^ (64 - s) * (y % 2 ^ s) := by rw [← B64_parts hs, Nat.mul_comm (2 ^ s), Nat.mul_mod_mul_left]
  have h3 : y % 2 ^ s + 1 ≤ 2 ^ s := Nat.mod_lt _ (Nat.pow_pos (by omega))
  have h4 : 2 ^ (64 - s) * (y % 2 ^ s + 1) ≤ 2 ^ (64 - s) * 2 ^ s := Nat.mul_le_mul_left _ h3
  rw [Nat.mul_comm (2 ^ (64 - s)) (2 ^ s), B64_parts hs, Nat.mul_add, Nat.mul_one] at h4
  have h5 : (x / 2 ^ s + 2 ^ (64 - s) * y) % B64 = (x / 2 ^ s + 2 ^ (64 - s) * (y % 2 ^ s)) % B64 := by
    rw [Nat.add_mod, h2, ← Nat.add_mod_mod, Nat.mod_add_mod, ← h2, Nat.mod_mod, h2]
  rw [h5, h2]
  generalize 2 ^ (64 - s) * (y % 2 ^ s) = z at *
  exact (Nat.mod_eq_of_lt (by omega)).symm
theorem low_row {l : List Nat} (hl : Dig l) {s : Nat} (hs : s < 64) (k : Nat) : l[k]?.getD 0 / 2 ^ s + shlD (l[k + 1]?.getD 0) (64 - s) = dig (val l / 2 ^ s) k := by
  rw [low_dig (hl.get k) _ (by omega), get_dig hl, get_dig hl]
  have := shr_dig (val l) s k
  rw [Nat.div_eq_of_lt hs, Nat.zero_add, Nat.mod_eq_of_lt hs] at this
  exact this
theorem low_done {l : List Nat} (hl : Dig l) (s : Nat) : val (digs (val l / 2 ^ s) l.length) = val l / 2 ^ s :=
  digs_all (Nat.lt_of_le_of_lt (Nat.div_le_self _ _) (val_lt hl))

/-- What has been reckoned when x times the first k digits of l is taken off P. -/
def LessAt (P Q : List Nat) (k x : Nat) (l : List Nat) (c : Nat) : Prop :=
  Dig Q ∧ Q.length = P.length ∧ c < B64 ∧ (∀ j, k ≤ j → Q[j]?.getD 0 = P[j]?.getD 0) ∧ val Q + x * val (l.take k) = val P + B64 ^ k * c
theorem LessAt.start {P : List Nat} (h : Dig P) (x : Nat) (l : List Nat) : LessAt P P 0 x l 0 :=
  ⟨h, rfl, B64_pos, fun _ _ => rfl, by simp [val_nil]⟩
/-- What is owed to the next digit. -/
def owed (x y q c : Nat) : Nat := mulHi y x + sumHi (mulLo y x) c 0 + subHi q (sumLo (mulLo y x) c 0) 0
/-- The digit that is left. -/
def lessD (x y q c : Nat) : Nat := subLo q (sumLo (mulLo y x) c 0) 0
theorem lessD_lt (x y q c : Nat) : lessD x y q c < B64 := subLo_lt _ _ _
theorem owed_split {x y q c : Nat} (hq : q < B64) : lessD x y q c + (y * x + c) = q + B64 * owed x y q c := by
  have h1 := sum_split (mulLo y x) c 0
  have h2 : mulLo y x + B64 * mulHi y x = y * x := Nat.mod_add_div _ _
  have h3 := sub_split hq (sumLo_lt (mulLo y x) c 0) (Nat.zero_le 1)
  unfold lessD owed
  rw [Nat.mul_add, Nat.mul_add]
  omega
theorem owed_lt {x y q c : Nat} (hx : x < B64) (hy : y < B64) (hc : c < B64) : mulHi y x + sumHi (mulLo y x) c 0 < B64 ∧ owed x y q c < B64 := by
  have h1 := sum_split (mulLo y x) c 0
  have h2 : mulLo y x + B64 * mulHi y x = y * x := Nat.mod_add_div _ _
  have h4 : y * x ≤ (B64 - 1) * (B64 - 1) := Nat.mul_le_mul (by omega) (by omega)
  have h5 : B64 * (mulHi y x + sumHi (mulLo y x) c 0) + sumLo (mulLo y x) c 0 ≤ B64 * (B64 - 1) := by
    have e : (B64 - 1) * (B64 - 1) + (B64 - 1) = B64 * (B64 - 1) := by unfold B64; omega
    rw [Nat.mul_add]
    omega
  unfold owed
  have hb := subHi_le q (sumLo (mulLo y x) c 0) 0
  have hz : sumLo (mulLo y x) c 0 = 0 → subHi q (sumLo (mulLo y x) c 0) 0 = 0 := fun h => by unfold subHi; rw [h]; simp
  generalize mulHi y x + sumHi (mulLo y x) c 0 = a at *
  generalize subHi q (sumLo (mulLo y x) c 0) 0 = b at *
  generalize sumLo (mulLo y x) c 0 = d at *
  unfold B64 at *
  omega
theorem LessAt.step {P Q l : List Nat} {k x c : Nat} (h : LessAt P Q k x l c) (hx : x < B64) (hl : Dig l) (hk : k < P.length) :
    LessAt P (Q.set k (lessD x (l[k]?.getD 0) (Q[k]?.getD 0) c)) (k + 1) x l (owed x (l[k]?.getD 0) (Q[k]?.getD 0) c) := by
  obtain ⟨hd, hlen, hc, hsame, hv⟩ := h
  refine ⟨hd.set _ (lessD_lt _ _ _ _), by rw [List.length_set, hlen], (owed_lt hx (hl.get k) hc).2, fun j hj => ?_, ?_⟩
  · rw [List.getElem?_set_ne (by omega)]; exact hsame j (by omega)
  · have hs := val_set (l := Q) (k := k) (by omega) (lessD x (l[k]?.getD 0) (Q[k]?.getD 0) c)
    have hm := owed_split (x := x) (y := l[k]?.getD 0) (c := c) (hd.get k)
    rw [val_take_succ, Nat.pow_succ, Nat.mul_assoc]
    generalize lessD x (l[k]?.getD 0) (Q[k]?.getD 0) c = d at *
    generalize owed x (l[k]?.getD 0) (Q[k]?.getD 0) c = o at *
    generalize Q[k]?.getD 0 = q at *
    generalize l[k]?.getD 0 = y at *
    have h1 : B64 ^ k * d + (B64 ^ k * (y * x) + B64 ^ k * c) = B64 ^ k * q + B64 ^ k * (B64 * o) := by
      rw [← Nat.mul_add, ← Nat.mul_add, hm, Nat.mul_add]
    have h2 : x * (val (l.take k) + B64 ^ k * y) = x * val (l.take k) + B64 ^ k * (y * x) := by
      rw [Nat.mul_add]
      have : x * (B64 ^ k * y) = B64 ^ k * (y * x) := by ac_rfl
      rw [this]
    rw [h2]
    omega
theorem LessAt.done {P Q l : List Nat} {x c : Nat} (h : LessAt P Q l.length x l c) (hk : P.length = l.length + 1) :
    Dig (Q.set l.length (subLo (Q[l.length]?.getD 0) c 0)) ∧ (Q.set l.length (subLo (Q[l.length]?.getD 0) c 0)).length = l.length + 1 ∧ val (Q.set l.length (subLo (Q[l.length]?.getD 0) c 0)) + x * val l = val P + B64 ^ (l.length + 1) * subHi (Q[l.length]?.getD 0) c 0 := by
  obtain ⟨hd, hlen, hc, hsame, hv⟩ := h
  refine ⟨hd.set _ (subLo_lt _ _ _), by rw [List.length_set, hlen, hk], ?_⟩
  have hs := val_set (l := Q) (k := l.length) (by omega) (subLo (Q[l.length]?.getD 0) c 0)
  have hm := sub_split (hd.get l.length) hc (Nat.zero_le 1)
  rw [List.take_of_length_le (Nat.le_refl _)] at hv
  generalize subLo (Q[l.length]?.getD 0) c 0 = d at *
  generalize subHi (Q[l.length]?.getD 0) c 0 = b at *
  generalize Q[l.length]?.getD 0 = q at *
  rw [Nat.pow_succ, Nat.mul_assoc]
  have h1 : B64 ^ l.length * d + B64 ^ l.length * c = B64 ^ l.length * q + B64 ^ l.length * (B64 * b) := by
    rw [← Nat.mul_add, ← Nat.mul_add]; congr 1
  omega

/-- What has been reckoned when the first k digits of l are added to P. -/
def BackAt (P Q : List Nat) (k : Nat) (l : List Nat) (c : Nat) : Prop :=
  Dig Q ∧ Q.length = P.length ∧ c ≤ 1 ∧ val Q + B64 ^ k * c = val P + val (l.take k)
theorem BackAt.start {P : List Nat} (h : Dig P) (l : List Nat) : BackAt P P 0 l 0 := ⟨h, rfl, by omega, by simp [val_nil]⟩
theorem BackAt.step {P Q l : List Nat} {k c : Nat} (h : BackAt P Q k l c) (hl : Dig l) (hk : k < P.length) :
    BackAt P (Q.set k (sumLo (Q[k]?.getD 0) (l[k]?.getD 0) c)) (k + 1) l (sumHi (Q[k]?.getD 0) (l[k]?.getD 0) c) := by
  obtain ⟨hd, hlen, hc, hv⟩ := h
  refine ⟨hd.set _ (sumLo_lt _ _ _), by rw [List.length_set, hlen], sumHi_le (hd.get k) (hl.get k) hc, ?_⟩
  have hs := val_set (l := Q) (k := k) (by omega) (sumLo (Q[k]?.getD 0) (l[k]?.getD 0) c)
  have hm := sum_split (Q[k]?.getD 0) (l[k]?.getD 0) c
  rw [val_take_succ, Nat.pow_succ, Nat.mul_assoc]
  generalize sumLo (Q[k]?.getD 0) (l[k]?.getD 0) c = d at *
  generalize sumHi (Q[k]?.getD 0) (l[k]?.getD 0) c = o at *
  generalize Q[k]?.getD 0 = q at *
  generalize l[k]?.getD 0 = y at *
  have h1 : B64 ^ k * d + B64 ^ k * (B64 * o) = B64 ^ k * q + B64 ^ k * y + B64 ^ k * c := by
    rw [← Nat.mul_add, hm, Nat.mul_add, Nat.mul_add]
  omega
theorem BackAt.done {P Q l : List Nat} {c : Nat} (h : BackAt P Q l.length l c) (hk : P.length = l.length + 1) :
    Dig (Q.set l.length (sumLo (Q[l.length]?.getD 0) c 0)) ∧ (Q.set l.length (sumLo (Q[l.length]?.getD 0) c 0)).length = l.length + 1 ∧ ∃ b, val (Q.set l.length (sumLo (Q[l.length]?.getD 0) c 0)) + B64 ^ (l.length + 1) * b = val P + val l := by
  obtain ⟨hd, hlen, hc, hv⟩ := h
  refine ⟨hd.set _ (sumLo_lt _ _ _), by rw [List.length_set, hlen, hk], sumHi (Q[l.length]?.getD 0) c 0, ?_⟩
  have hs := val_set (l := Q) (k := l.length) (by omega) (sumLo (Q[l.length]?.getD 0) c 0)
  have hm := sum_split (Q[l.length]?.getD 0) c 0
  rw [List.take_of_length_le (Nat.le_refl _)] at hv
  generalize sumLo (Q[l.length]?.getD 0) c 0 = d at *
  generalize sumHi (Q[l.length]?.getD 0) c 0 = b at *
  generalize Q[l.length]?.getD 0 = q at *
  rw [Nat.pow_succ, Nat.mul_assoc]
  have h1 : B64 ^ l.length * d + B64 ^ l.length * (B64 * b) = B64 ^ l.length * q + B64 ^ l.length * c := by
    rw [← Nat.mul_add, ← Nat.mul_add]; congr 1
  omega

/-- A guess is good: it is how often D goes into R, or one more. -/
def Good (R D t : Nat) : Prop := R < (t + 1) * D ∧ t * D ≤ R + D ∧ t < B64

/-- Nothing was borrowed: the guess is right. -/
theorem good_zero {R D t v : Nat} (h : Good R D t) (hv : v + t * D = R) : R / D = t ∧ R % D = v := by
  obtain ⟨h1, h2, _⟩ := h
  rw [Nat.add_mul, Nat.one_mul] at h1
  have hlt : v < D := by omega
  have e : R = v + D * t := by rw [Nat.mul_comm D]; omega
  have hD : 0 < D := by omega
  rw [e, Nat.add_mul_div_left _ _ hD, Nat.div_eq_of_lt hlt, Nat.add_mul_mod_self_left, Nat.mod_eq_of_lt hlt]
  omega
/-- Something was: it is one less. -/
theorem good_one {R D t v u M b : Nat} (h : Good R D t) (hv : v + t * D = R + M) (hvM : v < M) (hD : D ≤ M) (hu : u + M * b = v + D) (huM : u < M) : t ≠ 0 ∧ R / D = t - 1 ∧ R % D = u := by
  obtain ⟨h1, h2, _⟩ := h
  have ht : t ≠ 0 := fun e => by subst e; omega
  obtain ⟨t', rfl⟩ : ∃ t', t = t' + 1 := ⟨t - 1, by omega⟩
  rw [Nat.add_sub_cancel]
  rw [Nat.add_mul, Nat.one_mul] at hv h2
  have hb : b = 1 := by
    rcases Nat.lt_or_ge b 1 with h3 | h3
    · have : b = 0 := by omega
      subst this; omega
    · rcases Nat.lt_or_ge 1 b with h4 | h4
      · have : M * 2 ≤ M * b := Nat.mul_le_mul_left _ h4
        omega
      · omega
  subst hb
  have hlt : u < D := by omega
  have e : R = u + D * t' := by rw [Nat.mul_comm D]; omega
  have hD0 : 0 < D := by omega
  refine ⟨ht, ?_⟩
  rw [e, Nat.add_mul_div_left _ _ hD0, Nat.div_eq_of_lt hlt, Nat.add_mul_mod_self_left, Nat.mod_eq_of_lt hlt]
  omega

end Go.Proofs.Ytchbhmcaalkfdaa

/-
  Plain arithmetic of a division's guesses: of digits (the program's), and of halves of a digit (the library's).
-/
namespace Go.Proofs.Ytchbhmcaalkfdaa

/-- What a guess sees: the two top digits of R and of D; P: what the places below the top one hold. -/
structure Seen (R D P u v1 v2 d1 r : Nat) : Prop where
  hD : D = v1 * P + d1
  hR : R = u * P + r
  hd : d1 < P
  hr : r < P
  lo : v2 * P ≤ B64 * d1
  hi : B64 * d1 < (v2 + 1) * P
  top : B64 ≤ 2 * v1
  v1lt : v1 < B64
  v2lt : v2 < B64

theorem Seen.first {R D P u v1 v2 d1 r t h : Nat} (S : Seen R D P u v1 v2 d1 r) (e : t * v1 + h = u) (hh : h < v1) : R < (t + 1) * D := by
  have h1 : R < (u + 1) * P := by rw [S.hR, Nat.add_mul]; have := S.hr; omega
  have h2 : (u + 1) * P ≤ (t + 1) * v1 * P := Nat.mul_le_mul_right _ (by rw [Nat.add_mul]; omega)
  have h3 : (t + 1) * (v1 * P) ≤ (t + 1) * D := Nat.mul_le_mul_left _ (by rw [S.hD]; omega)
  rw [← Nat.mul_assoc] at h3
  omega
theorem Seen.less {R D P u v1 v2 d1 r t h : Nat} (S : Seen R D P u v1 v2 d1 r) (e : t * v1 + h = u) (hc : (h + 1) * B64 ≤ t * v2) : R < t * D := by
  have h1 : R < (u + 1) * P := by rw [S.hR, Nat.add_mul]; have := S.hr; omega
  have h2 : t * (v2 * P) ≤ t * (B64 * d1) := Nat.mul_le_mul_left _ S.lo
  have h3 : (h + 1) * B64 * P ≤ t * v2 * P := Nat.mul_le_mul_right _ hc
  have h4 : (h + 1) * P ≤ t * d1 := by
    refine Nat.le_of_mul_le_mul_left (c := B64) ?_ B64_pos
    calc B64 * ((h + 1) * P) = (h + 1) * B64 * P := by ac_rfl
      _ ≤ t * v2 * P := h3
      _ = t * (v2 * P) := by ac_rfl
      _ ≤ t * (B64 * d1) := h2
      _ = B64 * (t * d1) := by ac_rfl
  have h5 : t * D = t * v1 * P + t * d1 := by rw [S.hD, Nat.mul_add, Nat.mul_assoc]
  have h6 : (u + 1) * P = t * v1 * P + (h + 1) * P := by rw [← Nat.add_mul]; congr 1; omega
  omega
theorem Seen.done {R D P u v1 v2 d1 r t h : Nat} (S : Seen R D P u v1 v2 d1 r) (e : t * v1 + h = u) (ht : t < B64) (hc : t * v2 < (h + 1) * B64) : t * D ≤ R + D := by
  have h5 : t * D = t * v1 * P + t * d1 := by rw [S.hD, Nat.mul_add, Nat.mul_assoc]
  have h1 : t * (B64 * d1) ≤ t * ((v2 + 1) * P) := Nat.mul_le_mul_left _ (Nat.le_of_lt S.hi)
  have h2 : t * v2 + t ≤ (h + 2) * B64 := by rw [Nat.add_mul] at hc ⊢; omega
  have h3 : t * d1 ≤ (h + 2) * P := by
    refine Nat.le_of_mul_le_mul_left (c := B64) ?_ B64_pos
    calc B64 * (t * d1) = t * (B64 * d1) := by ac_rfl
      _ ≤ t * ((v2 + 1) * P) := h1
      _ = (t * v2 + t) * P := by rw [← Nat.mul_assoc, Nat.mul_add, Nat.mul_one]
      _ ≤ (h + 2) * B64 * P := Nat.mul_le_mul_right _ h2
      _ = B64 * ((h + 2) * P) := by ac_rfl
  have h6 : u * P = t * v1 * P + h * P := by rw [← Nat.add_mul]; congr 1; omega
  have h7 : 2 * P ≤ v1 * P := Nat.mul_le_mul_right _ (by have := S.top; have := B64_gt; unfold B64 at *; omega)
  have h8 : (h + 2) * P = h * P + 2 * P := Nat.add_mul ..
  have h9 := S.hR
  have h10 := S.hD
  omega
theorem Seen.great {R D P u v1 v2 d1 r : Nat} (S : Seen R D P u v1 v2 d1 r) (hu : v1 * B64 ≤ u) (hlt : R < B64 * D) : Good R D (B64 - 1) := by
  have e : B64 - 1 + 1 = B64 := by have := B64_pos; omega
  refine ⟨by rw [e]; exact hlt, ?_, by have := B64_pos; omega⟩
  obtain ⟨b, hb⟩ : ∃ b, B64 = b + 2 := ⟨B64 - 2, by unfold B64; omega⟩
  have h1 : b * D ≤ R := by
    have h2 : b * D ≤ b * ((v1 + 1) * P) := Nat.mul_le_mul_left _ (by rw [S.hD, Nat.add_mul]; have := S.hd; omega)
    have h3 : b * (v1 + 1) ≤ v1 * B64 := by
      have := S.top
      rw [hb] at this ⊢
      rw [Nat.mul_add, Nat.mul_add, Nat.mul_comm v1 b]
      omega
    have h4 : b * (v1 + 1) * P ≤ u * P := Nat.mul_le_mul_right _ (Nat.le_trans h3 hu)
    rw [← Nat.mul_assoc] at h2
    have := S.hR
    omega
  rw [hb, show b + 2 - 1 = b + 1 by omega, Nat.add_mul, Nat.one_mul]
  omega

theorem mulHi_le_iff {a b h : Nat} : mulHi a b ≤ h ↔ a * b < (h + 1) * B64 := by
  unfold mulHi
  rw [← Nat.lt_succ_iff, Nat.div_lt_iff_lt_mul B64_pos]



/-- One half of the library's division: u is less than y, d is a half. -/
structure Half (u y y1 y0 d q r : Nat) : Prop where
  hy : y = y1 * H32 + y0
  h0 : y0 < H32
  h1 : y1 < H32
  top : H32 ≤ 2 * y1
  hu : u < y
  hd : d < H32
  hq : q * y1 + r = u
  hlt : u * H32 + d < (q + 1) * y

theorem Half.start {u y y1 y0 d : Nat} (hy : y = y1 * H32 + y0) (h0 : y0 < H32) (h1 : y1 < H32) (top : H32 ≤ 2 * y1) (hu : u < y) (hd : d < H32) : Half u y y1 y0 d (u / y1) (u % y1) := by
  have hy1 : 0 < y1 := by unfold H32 at top; omega
  have e : u / y1 * y1 + u % y1 = u := by rw [Nat.mul_comm]; exact Nat.div_add_mod u y1
  refine ⟨hy, h0, h1, top, hu, hd, e, ?_⟩
  have h2 := Nat.mod_lt u hy1
  have h3 : u + 1 ≤ (u / y1 + 1) * y1 := by rw [Nat.add_mul]; omega
  have h4 : (u + 1) * H32 ≤ (u / y1 + 1) * y1 * H32 := Nat.mul_le_mul_right _ h3
  have h5 : (u / y1 + 1) * (y1 * H32) ≤ (u / y1 + 1) * y := Nat.mul_le_mul_left _ (by omega)
  rw [← Nat.mul_assoc] at h5
  rw [Nat.add_mul, Nat.one_mul] at h4
  omega
theorem Half.r_lt {u y1 : Nat} (top : H32 ≤ 2 * y1) : u % y1 < y1 := Nat.mod_lt _ (by unfold H32 at top; omega)
/-- The test of the library's loop, read as numbers. -/
def tooBig (q y0 r d : Nat) : Prop := H32 ≤ q ∨ H32 * r + d < q * y0
theorem Half.pos {u y y1 y0 d q r : Nat} (h : Half u y y1 y0 d q r) (ht : tooBig q y0 r d) : u * H32 + d < q * y ∧ 0 < q := by
  have e : q * y = q * y1 * H32 + q * y0 := by rw [h.hy, Nat.mul_add, Nat.mul_assoc]
  have h2 : u * H32 = q * y1 * H32 + r * H32 := by rw [← Nat.add_mul, h.hq]
  have hlt : u * H32 + d < q * y := by
    rcases ht with ht | ht
    · have h3 : H32 * y ≤ q * y := Nat.mul_le_mul_right _ ht
      have h4 : (u + 1) * H32 ≤ y * H32 := Nat.mul_le_mul_right _ h.hu
      rw [Nat.add_mul, Nat.one_mul] at h4
      have := h.hd
      rw [Nat.mul_comm] at h3
      omega
    · rw [Nat.mul_comm H32] at ht
      omega
  refine ⟨hlt, ?_⟩
  rcases Nat.eq_zero_or_pos q with h3 | h3
  · subst h3; omega
  · exact h3
theorem Half.step {u y y1 y0 d q r : Nat} (h : Half u y y1 y0 d q r) (ht : tooBig q y0 r d) : Half u y y1 y0 d (q - 1) (r + y1) := by
  obtain ⟨h1, h2⟩ := h.pos ht
  refine ⟨h.hy, h.h0, h.h1, h.top, h.hu, h.hd, ?_, by rw [Nat.sub_add_cancel h2]; exact h1⟩
  have := h.hq
  obtain ⟨p, rfl⟩ : ∃ p, q = p + 1 := ⟨q - 1, by omega⟩
  rw [Nat.add_sub_cancel]
  rw [Nat.add_mul] at this
  omega
/-- It ends either way with the quotient. -/
theorem Half.fin {u y y1 y0 d q r : Nat} (h : Half u y y1 y0 d q r) (ht : H32 ≤ r ∨ ¬ tooBig q y0 r d) : q = (u * H32 + d) / y ∧ q < H32 := by
  have e : q * y = q * y1 * H32 + q * y0 := by rw [h.hy, Nat.mul_add, Nat.mul_assoc]
  have h2 : u * H32 = q * y1 * H32 + r * H32 := by rw [← Nat.add_mul, h.hq]
  have h0 := h.h0
  have key : q * y ≤ u * H32 + d ∧ q < H32 := by
    rcases ht with ht | ht
    · have hq : q < H32 := by
        rcases Nat.lt_or_ge q H32 with h3 | h3
        · exact h3
        · have h4 : H32 * y1 ≤ q * y1 := Nat.mul_le_mul_right _ h3
          have := h.hq
          have := h.hu
          have h5 := h.hy
          rw [Nat.mul_comm] at h5
          omega
      refine ⟨?_, hq⟩
      have h3 : q * y0 ≤ H32 * H32 := Nat.mul_le_mul (by omega) (by omega)
      have h4 : H32 * H32 ≤ r * H32 := Nat.mul_le_mul_right _ ht
      omega
    · unfold tooBig at ht
      have h3 : ¬ H32 ≤ q := fun k => ht (.inl k)
      have h4 : ¬ H32 * r + d < q * y0 := fun k => ht (.inr k)
      rw [Nat.mul_comm H32] at h4
      omega
  refine ⟨?_, key.2⟩
  have hlt := h.hlt
  have hy0 : 0 < y := by have := h.hu; omega
  refine (Nat.div_eq_of_lt_le ?_ ?_).symm
  · exact key.1
  · exact hlt
theorem Half.q_le {u y y1 y0 d q r : Nat} (h : Half u y y1 y0 d q r) : q ≤ 2 * H32 := by
  rcases Nat.lt_or_ge (2 * H32) q with h3 | h3
  · have h4 : 2 * H32 * y1 ≤ q * y1 := Nat.mul_le_mul_right _ (by omega)
    have := h.hq
    have := h.hu
    have h5 := h.hy
    have h6 : y1 * H32 * 2 = 2 * H32 * y1 := by ac_rfl
    have := h.h0
    have h7 : H32 ≤ y1 * H32 := Nat.le_mul_of_pos_left _ (by have := h.top; unfold H32 at this; omega)
    omega
  · exact h3

/-- Both halves together. -/
theorem both_halves {hi l1 l0 y q1 u q0 : Nat} (hy : 0 < y) (e1 : q1 = (hi * H32 + l1) / y) (eu : u = (hi * H32 + l1) % y) (e0 : q0 = (u * H32 + l0) / y) :
    q1 * H32 + q0 = (hi * B64 + (l1 * H32 + l0)) / y ∧ (u * H32 + l0) % y = (hi * B64 + (l1 * H32 + l0)) % y := by
  have h1 : hi * H32 + l1 = u + y * q1 := by rw [e1, eu]; exact (Nat.mod_add_div _ _).symm
  have h2 : hi * B64 + (l1 * H32 + l0) = (u * H32 + l0) + y * (q1 * H32) := by
    have : (hi * H32 + l1) * H32 = (u + y * q1) * H32 := by rw [h1]
    rw [Nat.add_mul, Nat.add_mul, Nat.mul_assoc, Nat.mul_assoc, H32_sq] at this
    omega
  rw [h2, Nat.add_mul_div_left _ _ hy, Nat.add_mul_mod_self_left, e0]
  exact ⟨by omega, rfl⟩

end Go.Proofs.Ytchbhmcaalkfdaa
