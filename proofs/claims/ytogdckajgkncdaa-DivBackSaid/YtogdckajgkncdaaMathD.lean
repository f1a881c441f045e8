/-
  Plain arithmetic: digits by division, powers of 2, binary figures.
-/
import Derived.Test.YtogdckajgkncdaaMathH
namespace Go.Proofs.Ytogdckajgkncdaa

/-- A number's digit at a place, by division. -/
def dig (y j : Nat) : Nat := y / B64 ^ j % B64
theorem dig_lt (y j : Nat) : dig y j < B64 := Nat.mod_lt _ B64_pos
theorem limbs_get (x j : Nat) : (limbs x)[j]?.getD 0 = dig x j := by
  induction j generalizing x with
  | zero =>
    unfold dig
    rw [Nat.pow_zero, Nat.div_one]
    by_cases h : x = 0
    · subst h; rw [limbs_zero]; simp
    · rw [limbs_pos h]; simp
  | succ j ih =>
    by_cases h : x = 0
    · subst h; rw [limbs_zero]; simp [dig]
    · rw [limbs_pos h, List.getElem?_cons_succ, ih]
      unfold dig
      rw [Nat.div_div_eq_div_mul, Nat.pow_succ, Nat.mul_comm B64]
/-- The first k digits. -/
def digs (y k : Nat) : List Nat := (List.range k).map (dig y)
theorem digs_length (y k : Nat) : (digs y k).length = k := by simp [digs]
theorem digs_succ (y k : Nat) : digs y (k + 1) = digs y k ++ [dig y k] := by simp [digs, List.range_succ]
theorem digs_dig (y k : Nat) : Dig (digs y k) := fun x hx => by
  obtain ⟨j, _, rfl⟩ := List.mem_map.1 hx
  exact dig_lt _ _
theorem digs_get {y k j : Nat} (h : j < k) : (digs y k)[j]?.getD 0 = dig y j := by simp [digs, h]
theorem digs_val (y k : Nat) : val (digs y k) = y % B64 ^ k := by
  induction k with
  | zero => simp [digs, val_nil, Nat.mod_one]
  | succ k ih =>
    rw [digs_succ, val_snoc, digs_length, ih, dig, Nat.pow_succ, Nat.mod_mul]
theorem digs_all {y k : Nat} (h : y < B64 ^ k) : val (digs y k) = y := by rw [digs_val, Nat.mod_eq_of_lt h]

theorem B64_two : B64 = 2 ^ 64 := rfl
theorem B64_pow2 (j : Nat) : B64 ^ j = 2 ^ (64 * j) := by rw [B64_two, Nat.pow_mul]

/-- 2 to a power, behind a name. -/
def pw (k : Nat) : Nat := 2 ^ k
theorem pw_zero : pw 0 = 1 := rfl
theorem pw_succ (k : Nat) : pw (k + 1) = pw k * 2 := Nat.pow_succ ..
theorem pw_pos (k : Nat) : 0 < pw k := Nat.pow_pos (by omega)
theorem pw_lt {k : Nat} (h : k < 64) : pw k < B64 := by rw [B64_two]; exact (Nat.pow_lt_pow_iff_right (by omega)).2 h
theorem pw_limbs (n : Nat) : (List.replicate (n / 64 + 1) 0).set (n / 64) (pw (n % 64)) = limbs (2 ^ n) := by
  have hz : ∀ m, val (List.replicate m 0) = 0 := fun m => by
    induction m with
    | zero => rfl
    | succ m ih => rw [List.replicate_succ, val_cons, ih]; simp
  have h1 := val_set (l := List.replicate (n / 64 + 1) 0) (k := n / 64) (by simp) (pw (n % 64))
  have h0 : (List.replicate (n / 64 + 1) 0)[n / 64]?.getD 0 = 0 := by simp
  rw [h0, hz, Nat.mul_zero, Nat.add_zero, Nat.zero_add] at h1
  have h2 : B64 ^ (n / 64) * pw (n % 64) = 2 ^ n := by
    rw [B64_pow2, pw, ← Nat.pow_add]
    congr 1
    omega
  rw [h2] at h1
  rw [← h1]
  refine eq_limbs (Dig.set (fun x hx => by rw [(List.mem_replicate.1 hx).2]; exact B64_pos) _ (pw_lt (Nat.mod_lt _ (by omega)))) fun _ => ?_
  rw [List.length_set, List.length_replicate, Nat.add_sub_cancel, h1, ← h2]
  exact Nat.le_mul_of_pos_right _ (pw_pos _)

/-- A binary figure. -/
def bitN (x i : Nat) : Nat := x / 2 ^ i % 2
theorem bitN_lt (x i : Nat) : bitN x i < 2 := Nat.mod_lt _ (by omega)
theorem bitN_dig (x i : Nat) : dig x (i / 64) / 2 ^ (i % 64) % 2 = bitN x i := by
  have h : ∀ y s : Nat, s < 64 → y % B64 / 2 ^ s % 2 = y / 2 ^ s % 2 := fun y s hs => by
    have e : B64 = 2 ^ s * 2 ^ (64 - s) := by rw [B64_two, ← Nat.pow_add]; congr 1; omega
    rw [e, Nat.mod_mul_right_div_self]
    obtain ⟨r, hr⟩ : ∃ r, 64 - s = r + 1 := ⟨64 - s - 1, by omega⟩
    rw [hr, Nat.pow_succ, Nat.mul_comm]
    exact Nat.mod_mul_right_mod _ _ _
  unfold dig bitN
  rw [h _ _ (Nat.mod_lt _ (by omega)), B64_pow2, Nat.div_div_eq_div_mul, ← Nat.pow_add]
  congr 3
  omega

/-- Two digits, shifted down by k places, the lower digit. -/
def sh2 (x y k : Nat) : Nat := (x + B64 * y) / 2 ^ k % B64
theorem sh2_lt (x y k : Nat) : sh2 x y k < B64 := Nat.mod_lt _ B64_pos
theorem sh2_zero {x : Nat} (hx : x < B64) (y : Nat) : sh2 x y 0 = x := by
  unfold sh2
  rw [Nat.pow_zero, Nat.div_one, Nat.add_mul_mod_self_left, Nat.mod_eq_of_lt hx]
theorem sh2_succ {x : Nat} (hx : x < B64) (y k : Nat) : sh2 x y k / 2 + y / 2 ^ k % 2 * 9223372036854775808 = sh2 x y (k + 1) := by
  have h1 : (x + B64 * y) / 2 ^ k / B64 = y / 2 ^ k := by
    rw [Nat.div_div_eq_div_mul, Nat.mul_comm (2 ^ k) B64, ← Nat.div_div_eq_div_mul, Nat.add_mul_div_left _ _ B64_pos, Nat.div_eq_of_lt hx, Nat.zero_add]
  have h2 : sh2 x y (k + 1) = (x + B64 * y) / 2 ^ k / 2 % B64 := by unfold sh2; rw [Nat.pow_succ, ← Nat.div_div_eq_div_mul]
  rw [h2]
  unfold sh2
  rw [← h1]
  generalize (x + B64 * y) / 2 ^ k = u
  unfold B64
  omega

theorem sh2_dig (x i s : Nat) (hs : s < 64) : sh2 (dig x i) (dig x (i + 1)) s = x / B64 ^ i / 2 ^ s % B64 := by
  have h1 : dig x i + B64 * dig x (i + 1) = x / B64 ^ i % (B64 * B64) := by
    unfold dig
    rw [Nat.mod_mul, Nat.pow_succ, Nat.div_div_eq_div_mul]
  unfold sh2
  rw [h1]
  generalize x / B64 ^ i = m
  have e : B64 * B64 = 2 ^ s * (B64 * 2 ^ (64 - s)) := by
    have e2 : 2 ^ s * 2 ^ (64 - s) = B64 := by rw [B64_two, ← Nat.pow_add]; congr 1; omega
    calc B64 * B64 = B64 * (2 ^ s * 2 ^ (64 - s)) := by rw [e2]
      _ = 2 ^ s * (B64 * 2 ^ (64 - s)) := by ac_rfl
  rw [e, Nat.mod_mul_right_div_self]
  exact Nat.mod_mul_right_mod _ _ _

/-- A digit of what is shifted down. -/
theorem shr_dig (x n j : Nat) : sh2 (dig x (n / 64 + j)) (dig x (n / 64 + j + 1)) (n % 64) = dig (x / 2 ^ n) j := by
  rw [sh2_dig _ _ _ (Nat.mod_lt _ (by omega))]
  unfold dig
  congr 1
  rw [B64_pow2, B64_pow2, Nat.div_div_eq_div_mul, Nat.div_div_eq_div_mul, ← Nat.pow_add, ← Nat.pow_add]
  congr 2
  omega

theorem shr_lt {x n k : Nat} (h : x < B64 ^ k) : x / 2 ^ n < B64 ^ (k - n / 64) := by
  rcases Nat.lt_or_ge (n / 64) k with h1 | h1
  · rw [Nat.div_lt_iff_lt_mul (Nat.pow_pos (by omega))]
    refine Nat.lt_of_lt_of_le h ?_
    have e : B64 ^ k = B64 ^ (k - n / 64) * B64 ^ (n / 64) := by rw [← Nat.pow_add]; congr 1; omega
    rw [e]
    refine Nat.mul_le_mul_left _ ?_
    rw [B64_pow2]
    exact Nat.pow_le_pow_right (by omega) (by omega)
  · have h2 : x < 2 ^ n := by
      refine Nat.lt_of_lt_of_le h ?_
      rw [B64_pow2]
      exact Nat.pow_le_pow_right (by omega) (by omega)
    rw [Nat.div_eq_of_lt h2]
    exact Nat.pow_pos B64_pos

end Go.Proofs.Ytogdckajgkncdaa
