/-
  Plain arithmetic: a division bit by bit.
-/
import Derived.Test.YtogdckajgkncdaaMathD
namespace Go.Proofs.Ytogdckajgkncdaa

/-- Of a quotient F: what digit t holds when all binary figures from m on are known. -/
def qd (F m t : Nat) : Nat := F / 2 ^ (max m (64 * t)) % 2 ^ (64 * (t + 1) - max m (64 * t))
theorem qd_lt (F m t : Nat) : qd F m t < B64 := by
  unfold qd
  refine Nat.lt_of_lt_of_le (Nat.mod_lt _ (Nat.pow_pos (by omega))) ?_
  rw [B64_two]
  exact Nat.pow_le_pow_right (by omega) (by omega)
theorem qd_none {F m : Nat} (h : F < 2 ^ m) (t : Nat) : qd F m t = 0 := by
  unfold qd
  have : F < 2 ^ (max m (64 * t)) := Nat.lt_of_lt_of_le h (Nat.pow_le_pow_right (by omega) (by omega))
  rw [Nat.div_eq_of_lt this, Nat.zero_mod]
theorem qd_done (F t : Nat) : qd F 0 t = dig F t := by
  unfold qd dig
  have e1 : max 0 (64 * t) = 64 * t := by omega
  have e2 : 64 * (t + 1) - 64 * t = 64 := by omega
  rw [e1, e2, B64_pow2]
  rfl
theorem qd_other {F i t : Nat} (h : t ≠ i / 64) : qd F i t = qd F (i + 1) t := by
  unfold qd
  rcases Nat.lt_or_ge t (i / 64) with h1 | h1
  · have e1 : 64 * (t + 1) - max i (64 * t) = 0 := by omega
    have e2 : 64 * (t + 1) - max (i + 1) (64 * t) = 0 := by omega
    rw [e1, e2, Nat.pow_zero, Nat.mod_one, Nat.mod_one]
  · have e1 : max i (64 * t) = 64 * t := by omega
    have e2 : max (i + 1) (64 * t) = 64 * t := by omega
    rw [e1, e2]
theorem qd_same (F i : Nat) : qd F i (i / 64) = 2 * qd F (i + 1) (i / 64) + bitN F i := by
  unfold qd bitN
  have e1 : max i (64 * (i / 64)) = i := by omega
  have e2 : max (i + 1) (64 * (i / 64)) = i + 1 := by omega
  obtain ⟨e, he⟩ : ∃ e, 64 * (i / 64 + 1) - i = e + 1 := ⟨64 * (i / 64 + 1) - i - 1, by omega⟩
  have he2 : 64 * (i / 64 + 1) - (i + 1) = e := by omega
  rw [e1, e2, he, he2, Nat.pow_succ 2 i, ← Nat.div_div_eq_div_mul, Nat.pow_succ, Nat.mul_comm (2 ^ e) 2, Nat.mod_mul]
  omega
theorem qd_room (F i : Nat) : 2 * qd F (i + 1) (i / 64) + 1 < B64 := by
  have h : qd F (i + 1) (i / 64) < 2 ^ 63 := by
    unfold qd
    refine Nat.lt_of_lt_of_le (Nat.mod_lt _ (Nat.pow_pos (by omega))) ?_
    exact Nat.pow_le_pow_right (by omega) (by omega)
  unfold B64
  omega

/-- The digits of a quotient when all binary figures from m on are known. -/
def qlist (F m n : Nat) : List Nat := (List.range n).map (qd F m)
theorem qlist_length (F m n : Nat) : (qlist F m n).length = n := by simp [qlist]
theorem qlist_dig (F m n : Nat) : Dig (qlist F m n) := fun x hx => by
  obtain ⟨j, _, rfl⟩ := List.mem_map.1 hx
  exact qd_lt _ _ _
theorem qlist_get {F m n t : Nat} (h : t < n) : (qlist F m n)[t]?.getD 0 = qd F m t := by simp [qlist, h]
theorem qlist_none {F m : Nat} (h : F < 2 ^ m) (n : Nat) : qlist F m n = List.replicate n 0 := by
  apply List.ext_getElem
  · simp [qlist]
  · intro i h1 h2
    simp [qlist, qd_none h]
theorem qlist_done (F n : Nat) : qlist F 0 n = digs F n := by
  unfold qlist digs
  congr 1
  funext t
  exact qd_done F t
theorem qlist_set (F i n : Nat) : (qlist F (i + 1) n).set (i / 64) (qd F i (i / 64)) = qlist F i n := by
  apply List.ext_getElem
  · simp [qlist]
  · intro j h1 h2
    rw [List.getElem_set]
    by_cases h : i / 64 = j
    · simp [h, qlist]
    · rw [if_neg h]
      simp only [qlist, List.getElem_map, List.getElem_range]
      exact (qd_other (fun e => h e.symm)).symm

/-- One binary figure of a division. -/
theorem div_step {x y : Nat} (hy : 0 < y) (i : Nat) :
    (x / 2 ^ i) % y = (if y ≤ 2 * (x / 2 ^ (i + 1) % y) + bitN x i then 2 * (x / 2 ^ (i + 1) % y) + bitN x i - y else 2 * (x / 2 ^ (i + 1) % y) + bitN x i) ∧
    bitN (x / y) i = (if y ≤ 2 * (x / 2 ^ (i + 1) % y) + bitN x i then 1 else 0) := by
  have h1 : x / 2 ^ i = 2 * (x / 2 ^ (i + 1)) + bitN x i := by
    unfold bitN
    rw [Nat.pow_succ, ← Nat.div_div_eq_div_mul]
    omega
  have hb := bitN_lt x i
  have h2 := Nat.div_add_mod (x / 2 ^ (i + 1)) y
  have hr := Nat.mod_lt (x / 2 ^ (i + 1)) hy
  have h3 : x / y / 2 ^ i = x / 2 ^ i / y := by rw [Nat.div_div_eq_div_mul, Nat.div_div_eq_div_mul, Nat.mul_comm]
  have h4 : bitN (x / y) i = x / 2 ^ i / y % 2 := by unfold bitN; rw [h3]
  rw [h4, h1]
  generalize x / 2 ^ (i + 1) % y = r at *
  generalize x / 2 ^ (i + 1) / y = q at *
  generalize x / 2 ^ (i + 1) = u at *
  generalize bitN x i = b at *
  subst h2
  have e : 2 * (y * q + r) + b = (2 * r + b) + y * (2 * q) := by
    have : y * (2 * q) = 2 * (y * q) := by ac_rfl
    omega
  rw [e, Nat.add_mul_mod_self_left, Nat.add_mul_div_left _ _ hy]
  split
  · rename_i h
    have e1 : (2 * r + b) % y = 2 * r + b - y := by rw [Nat.mod_eq_sub_mod h, Nat.mod_eq_of_lt (by omega)]
    have e2 : (2 * r + b) / y = 1 := by
      rw [Nat.div_eq_sub_div hy h, Nat.div_eq_of_lt (by omega)]
    rw [e1, e2]
    exact ⟨rfl, by omega⟩
  · rename_i h
    have e1 : (2 * r + b) % y = 2 * r + b := Nat.mod_eq_of_lt (by omega)
    have e2 : (2 * r + b) / y = 0 := Nat.div_eq_of_lt (by omega)
    rw [e1, e2]
    exact ⟨rfl, by omega⟩

end Go.Proofs.Ytogdckajgkncdaa
