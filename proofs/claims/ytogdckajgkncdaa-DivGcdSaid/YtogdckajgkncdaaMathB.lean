/-
  Plain arithmetic: products of digits.
-/
import Derived.Test.YtogdckajgkncdaaMath
namespace Go.Proofs.Ytogdckajgkncdaa

/-- The two halves of a product of digits. -/
def mulLo (x y : Nat) : Nat := x * y % B64
def mulHi (x y : Nat) : Nat := x * y / B64
theorem mulLo_lt (x y : Nat) : mulLo x y < B64 := Nat.mod_lt _ B64_pos
/-- A product of digits, a digit and a carry, in two halves. -/
def macLo (x y q c : Nat) : Nat := (x * y + q + c) % B64
def macHi (x y q c : Nat) : Nat := (x * y + q + c) / B64
theorem macLo_lt (x y q c : Nat) : macLo x y q c < B64 := Nat.mod_lt _ B64_pos
theorem mac_split (x y q c : Nat) : macLo x y q c + B64 * macHi x y q c = x * y + q + c := Nat.mod_add_div _ _
theorem macHi_lt {x y q c : Nat} (hx : x < B64) (hy : y < B64) (hq : q < B64) (hc : c < B64) : macHi x y q c < B64 := by
  unfold macHi
  rw [Nat.div_lt_iff_lt_mul B64_pos]
  have h1 : x * y ≤ (B64 - 1) * (B64 - 1) := Nat.mul_le_mul (by omega) (by omega)
  have h2 : (B64 - 1) * (B64 - 1) + (B64 - 1) + (B64 - 1) < B64 * B64 := by unfold B64; omega
  omega
theorem macLo_eq (x y q c : Nat) : sumLo (sumLo (mulLo x y) q 0) c 0 = macLo x y q c := by
  unfold sumLo mulLo macLo
  rw [Nat.add_zero, Nat.add_zero, Nat.mod_add_mod]
  rw [Nat.add_assoc, Nat.mod_add_mod, ← Nat.add_assoc]
theorem macHi_eq (x y q c : Nat) : mulHi x y + sumHi (mulLo x y) q 0 + sumHi (sumLo (mulLo x y) q 0) c 0 = macHi x y q c := by
  have h1 := sum_split (mulLo x y) q 0
  have h2 := sum_split (sumLo (mulLo x y) q 0) c 0
  have h3 : mulLo x y + B64 * mulHi x y = x * y := Nat.mod_add_div _ _
  have h4 := mac_split x y q c
  rw [← macLo_eq] at h4
  have h5 : B64 * (mulHi x y + sumHi (mulLo x y) q 0 + sumHi (sumLo (mulLo x y) q 0) c 0) = B64 * macHi x y q c := by
    rw [Nat.mul_add, Nat.mul_add]; omega
  exact Nat.eq_of_mul_eq_mul_left B64_pos h5

theorem val_set {l : List Nat} {k : Nat} (hk : k < l.length) (d : Nat) : val (l.set k d) + B64 ^ k * l[k]?.getD 0 = val l + B64 ^ k * d := by
  induction l generalizing k with
  | nil => simp at hk
  | cons x xs ih =>
    cases k with
    | zero => simp [val_cons]; omega
    | succ k =>
      have h := ih (k := k) (by simpa using hk)
      rw [List.set_cons_succ, val_cons, val_cons, List.getElem?_cons_succ, Nat.pow_succ, Nat.mul_comm (B64 ^ k) B64, Nat.mul_assoc, Nat.mul_assoc]
      have h2 : B64 * (val (xs.set k d) + B64 ^ k * xs[k]?.getD 0) = B64 * (val xs + B64 ^ k * d) := by rw [h]
      rw [Nat.mul_add, Nat.mul_add] at h2
      omega

theorem Dig.set {l : List Nat} (h : Dig l) (k : Nat) {d : Nat} (hd : d < B64) : Dig (l.set k d) := fun x hx => by
  rcases List.mem_or_eq_of_mem_set hx with h1 | h1
  · exact h x h1
  · rw [h1]; exact hd

end Go.Proofs.Ytogdckajgkncdaa
