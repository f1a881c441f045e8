/-
  Plain arithmetic: digits to the base 2 to the power of 32, as the reference reckons.
-/
import Derived.Test.YtogdckajgkncdaaMathB
namespace Go.Proofs.Ytogdckajgkncdaa

/-- 2 to the power of 32, behind a name. -/
def H32 : Nat := 4294967296
theorem H32_pos : 0 < H32 := by unfold H32; omega
theorem H32_gt : 1 < H32 := by unfold H32; omega
theorem H32_sq : H32 * H32 = B64 := rfl
theorem H32_lt : H32 < B64 := by unfold H32 B64; omega

/-- The number of figures of 32 bits, the lowest first. -/
def valH : List Nat → Nat
  | [] => 0
  | x :: xs => x + H32 * valH xs
def DigH (l : List Nat) : Prop := ∀ x ∈ l, x < H32

theorem valH_nil : valH [] = 0 := rfl
theorem valH_cons (x : Nat) (xs : List Nat) : valH (x :: xs) = x + H32 * valH xs := rfl
theorem DigH.nil : DigH [] := fun _ h => by cases h
theorem DigH.dig {l : List Nat} (h : DigH l) : Dig l := fun x hx => Nat.lt_trans (h x hx) H32_lt
theorem DigH.snoc {x : Nat} {xs : List Nat} (h : DigH xs) (hx : x < H32) : DigH (xs ++ [x]) := fun y hy => by
  rcases List.mem_append.1 hy with hy | hy
  · exact h y hy
  · simp at hy; subst hy; exact hx
theorem DigH.get {l : List Nat} (h : DigH l) (j : Nat) : l[j]?.getD 0 < H32 := by
  by_cases hj : j < l.length
  · simp [hj]; exact h _ (List.getElem_mem hj)
  · rw [List.getElem?_eq_none (by omega)]; exact H32_pos
theorem DigH.set {l : List Nat} (h : DigH l) (k : Nat) {d : Nat} (hd : d < H32) : DigH (l.set k d) := fun x hx => by
  rcases List.mem_or_eq_of_mem_set hx with h1 | h1
  · exact h x h1
  · rw [h1]; exact hd

theorem valH_lt {l : List Nat} (hd : DigH l) : valH l < H32 ^ l.length := by
  induction l with
  | nil => simp [valH_nil]
  | cons x xs ih =>
    rw [valH_cons, List.length_cons, Nat.pow_succ, Nat.mul_comm (H32 ^ xs.length)]
    have h1 := ih fun y hy => hd y (List.mem_cons_of_mem _ hy)
    have h2 := hd x List.mem_cons_self
    have h3 : H32 * (valH xs + 1) ≤ H32 * H32 ^ xs.length := Nat.mul_le_mul_left _ h1
    rw [Nat.mul_add, Nat.mul_one] at h3
    omega

theorem valH_snoc (l : List Nat) (x : Nat) : valH (l ++ [x]) = valH l + H32 ^ l.length * x := by
  induction l with
  | nil => simp [valH_cons, valH_nil]
  | cons y ys ih =>
    rw [List.cons_append, valH_cons, ih, valH_cons, List.length_cons, Nat.pow_succ, Nat.mul_add]
    rw [← Nat.mul_assoc, Nat.mul_comm H32 (H32 ^ ys.length)]
    omega

theorem valH_take_succ (l : List Nat) (k : Nat) : valH (l.take (k + 1)) = valH (l.take k) + H32 ^ k * l[k]?.getD 0 := by
  by_cases hk : k < l.length
  · rw [List.take_succ_eq_append_getElem hk, valH_snoc, List.length_take, Nat.min_eq_left (by omega)]
    simp [hk]
  · rw [List.take_of_length_le (by omega), List.take_of_length_le (by omega), List.getElem?_eq_none (by omega)]
    simp

theorem valH_take_lt {l : List Nat} (h : DigH l) (k : Nat) : valH (l.take k) < H32 ^ k :=
  Nat.lt_of_lt_of_le (valH_lt fun x hx => h x (List.mem_of_mem_take hx)) (Nat.pow_le_pow_right H32_pos (List.length_take_le _ _))

theorem valH_set {l : List Nat} {k : Nat} (hk : k < l.length) (d : Nat) : valH (l.set k d) + H32 ^ k * l[k]?.getD 0 = valH l + H32 ^ k * d := by
  induction l generalizing k with
  | nil => simp at hk
  | cons x xs ih =>
    cases k with
    | zero => simp [valH_cons]; omega
    | succ k =>
      have h := ih (k := k) (by simpa using hk)
      rw [List.set_cons_succ, valH_cons, valH_cons, List.getElem?_cons_succ, Nat.pow_succ, Nat.mul_comm (H32 ^ k) H32, Nat.mul_assoc, Nat.mul_assoc]
      have h2 : H32 * (valH (xs.set k d) + H32 ^ k * xs[k]?.getD 0) = H32 * (valH xs + H32 ^ k * d) := by rw [h]
      rw [Nat.mul_add, Nat.mul_add] at h2
      omega

theorem valH_zeros (n : Nat) : valH (List.replicate n 0) = 0 := by
  induction n with
  | zero => rfl
  | succ n ih => rw [List.replicate_succ, valH_cons, ih]; simp
theorem digH_zeros (n : Nat) : DigH (List.replicate n 0) := fun x hx => by rw [(List.mem_replicate.1 hx).2]; exact H32_pos

/-- The lower and the upper half of a digit. -/
def loH (x : Nat) : Nat := x % H32
def hiH (x : Nat) : Nat := x / H32
theorem loH_lt (x : Nat) : loH x < H32 := Nat.mod_lt _ H32_pos
theorem hiH_lt {x : Nat} (h : x < B64) : hiH x < H32 := by unfold hiH; rw [Nat.div_lt_iff_lt_mul H32_pos, H32_sq]; exact h
theorem half_split (x : Nat) : loH x + H32 * hiH x = x := Nat.mod_add_div _ _

/-- A number's figures. -/
def halvesL : List Nat → List Nat
  | [] => []
  | x :: xs => loH x :: hiH x :: halvesL xs
theorem halvesL_length (l : List Nat) : (halvesL l).length = 2 * l.length := by
  induction l with
  | nil => rfl
  | cons x xs ih => simp only [halvesL, List.length_cons, ih]; omega
theorem halvesL_snoc (l : List Nat) (x : Nat) : halvesL (l ++ [x]) = halvesL l ++ [loH x, hiH x] := by
  induction l with
  | nil => rfl
  | cons y ys ih => simp only [List.cons_append, halvesL, ih]
theorem halvesL_dig {l : List Nat} (h : Dig l) : DigH (halvesL l) := by
  induction l with
  | nil => exact DigH.nil
  | cons x xs ih =>
    intro y hy
    simp only [halvesL, List.mem_cons] at hy
    rcases hy with rfl | rfl | hy
    · exact loH_lt _
    · exact hiH_lt h.head
    · exact ih h.tail y hy
theorem halvesL_val (l : List Nat) : valH (halvesL l) = val l := by
  induction l with
  | nil => rfl
  | cons x xs ih =>
    simp only [halvesL, valH_cons, val_cons, ih]
    have := half_split x
    have e : H32 * (hiH x + H32 * val xs) = H32 * hiH x + B64 * val xs := by rw [Nat.mul_add, ← Nat.mul_assoc, H32_sq]
    omega

/-- Two figures as a digit. -/
def join (a b : Nat) : Nat := a + b * H32
theorem join_lt {a b : Nat} (ha : a < H32) (hb : b < H32) : join a b < B64 := by
  unfold join
  have : (b + 1) * H32 ≤ H32 * H32 := Nat.mul_le_mul_right _ hb
  rw [H32_sq, Nat.add_mul, Nat.one_mul] at this
  omega

/-- Digits of the first 2k figures. -/
def joinL (l : List Nat) (k : Nat) : List Nat := (List.range k).map fun j => join (l[2 * j]?.getD 0) (l[2 * j + 1]?.getD 0)
theorem joinL_length (l : List Nat) (k : Nat) : (joinL l k).length = k := by simp [joinL]
theorem joinL_succ (l : List Nat) (k : Nat) : joinL l (k + 1) = joinL l k ++ [join (l[2 * k]?.getD 0) (l[2 * k + 1]?.getD 0)] := by simp [joinL, List.range_succ]
theorem joinL_dig {l : List Nat} (h : DigH l) (k : Nat) : Dig (joinL l k) := fun x hx => by
  obtain ⟨j, _, rfl⟩ := List.mem_map.1 hx
  exact join_lt (h.get _) (h.get _)
theorem joinL_val (l : List Nat) (k : Nat) : val (joinL l k) = valH (l.take (2 * k)) := by
  induction k with
  | zero => simp [joinL, val_nil, valH_nil]
  | succ k ih =>
    rw [joinL_succ, val_snoc, joinL_length, ih, show 2 * (k + 1) = 2 * k + 1 + 1 by omega, valH_take_succ, valH_take_succ]
    have e : B64 ^ k = H32 ^ (2 * k) := by rw [← H32_sq, Nat.pow_mul, Nat.pow_two]
    rw [e, join, Nat.mul_add, Nat.pow_succ]
    have : H32 ^ (2 * k) * (l[2 * k + 1]?.getD 0 * H32) = H32 ^ (2 * k) * H32 * l[2 * k + 1]?.getD 0 := by ac_rfl
    omega

/-- Three figures' sum, in two parts. -/
theorem div_le_one {x y c : Nat} (hx : x < H32) (hy : y < H32) (hc : c ≤ 1) : hiH (x + y + c) ≤ 1 := by
  unfold hiH
  have : (x + y + c) / H32 < 2 := (Nat.div_lt_iff_lt_mul H32_pos).2 (by omega)
  omega

end Go.Proofs.Ytogdckajgkncdaa
