/-
  Plain arithmetic of a division's guesses: of digits (the program's), and of halves of a digit (the library's).
-/
import Derived.Test.YtogdckajgkncdaaMathK
namespace Go.Proofs.Ytogdckajgkncdaa

/-- What a guess sees: the two top digits of R and of D; P: what the places below the top one hold. -/
structure Seen (R D P u v1 v2 d1 r : Nat) : Prop where
  hD : D = v1 * P + d1
  hR : R = u * P + r
  hd : d1 < P
  hr : r < P
  lo : v2 * P ≤ B64 * d1
  hi : B64 * d1 < (v2 + 1) * P
  top : B64 ≤ 2 * v1
  v1lt : v1 < B64
  v2lt : v2 < B64

theorem Seen.first {R D P u v1 v2 d1 r t h : Nat} (S : Seen R D P u v1 v2 d1 r) (e : t * v1 + h = u) (hh : h < v1) : R < (t + 1) * D := by
  have h1 : R < (u + 1) * P := by rw [S.hR, Nat.add_mul]; have := S.hr; omega
  have h2 : (u + 1) * P ≤ (t + 1) * v1 * P := Nat.mul_le_mul_right _ (by rw [Nat.add_mul]; omega)
  have h3 : (t + 1) * (v1 * P) ≤ (t + 1) * D := Nat.mul_le_mul_left _ (by rw [S.hD]; omega)
  rw [← Nat.mul_assoc] at h3
  omega
theorem Seen.less {R D P u v1 v2 d1 r t h : Nat} (S : Seen R D P u v1 v2 d1 r) (e : t * v1 + h = u) (hc : (h + 1) * B64 ≤ t * v2) : R < t * D := by
  have h1 : R < (u + 1) * P := by rw [S.hR, Nat.add_mul]; have := S.hr; omega
  have h2 : t * (v2 * P) ≤ t * (B64 * d1) := Nat.mul_le_mul_left _ S.lo
  have h3 : (h + 1) * B64 * P ≤ t * v2 * P := Nat.mul_le_mul_right _ hc
  have h4 : (h + 1) * P ≤ t * d1 := by
    refine Nat.le_of_mul_le_mul_left (c := B64) ?_ B64_pos
    calc B64 * ((h + 1) * P) = (h + 1) * B64 * P := by ac_rfl
      _ ≤ t * v2 * P := h3
      _ = t * (v2 * P) := by ac_rfl
      _ ≤ t * (B64 * d1) := h2
      _ = B64 * (t * d1) := by ac_rfl
  have h5 : t * D = t * v1 * P + t * d1 := by rw [S.hD, Nat.mul_add, Nat.mul_assoc]
  have h6 : (u + 1) * P = t * v1 * P + (h + 1) * P := by rw [← Nat.add_mul]; congr 1; omega
  omega
theorem Seen.done {R D P u v1 v2 d1 r t h : Nat} (S : Seen R D P u v1 v2 d1 r) (e : t * v1 + h = u) (ht : t < B64) (hc : t * v2 < (h + 1) * B64) : t * D ≤ R + D := by
  have h5 : t * D = t * v1 * P + t * d1 := by rw [S.hD, Nat.mul_add, Nat.mul_assoc]
  have h1 : t * (B64 * d1) ≤ t * ((v2 + 1) * P) := Nat.mul_le_mul_left _ (Nat.le_of_lt S.hi)
  have h2 : t * v2 + t ≤ (h + 2) * B64 := by rw [Nat.add_mul] at hc ⊢; omega
  have h3 : t * d1 ≤ (h + 2) * P := by
    refine Nat.le_of_mul_le_mul_left (c := B64) ?_ B64_pos
    calc B64 * (t * d1) = t * (B64 * d1) := by ac_rfl
      _ ≤ t * ((v2 + 1) * P) := h1
      _ = (t * v2 + t) * P := by rw [← Nat.mul_assoc, Nat.mul_add, Nat.mul_one]
      _ ≤ (h + 2) * B64 * P := Nat.mul_le_mul_right _ h2
      _ = B64 * ((h + 2) * P) := by ac_rfl
  have h6 : u * P = t * v1 * P + h * P := by rw [← Nat.add_mul]; congr 1; omega
  have h7 : 2 * P ≤ v1 * P := Nat.mul_le_mul_right _ (by have := S.top; have := B64_gt; unfold B64 at *; omega)
  have h8 : (h + 2) * P = h * P + 2 * P := Nat.add_mul ..
  have h9 := S.hR
  have h10 := S.hD
  omega
theorem Seen.great {R D P u v1 v2 d1 r : Nat} (S : Seen R D P u v1 v2 d1 r) (hu : v1 * B64 ≤ u) (hlt : R < B64 * D) : Good R D (B64 - 1) := by
  have e : B64 - 1 + 1 = B64 := by have := B64_pos; omega
  refine ⟨by rw [e]; exact hlt, ?_, by have := B64_pos; omega⟩
  obtain ⟨b, hb⟩ : ∃ b, B64 = b + 2 := ⟨B64 - 2, by unfold B64; omega⟩
  have h1 : b * D ≤ R := by
    have h2 : b * D ≤ b * ((v1 + 1) * P) := Nat.mul_le_mul_left _ (by rw [S.hD, Nat.add_mul]; have := S.hd; omega)
    have h3 : b * (v1 + 1) ≤ v1 * B64 := by
      have := S.top
      rw [hb] at this ⊢
      rw [Nat.mul_add, Nat.mul_add, Nat.mul_comm v1 b]
      omega
    have h4 : b * (v1 + 1) * P ≤ u * P := Nat.mul_le_mul_right _ (Nat.le_trans h3 hu)
    rw [← Nat.mul_assoc] at h2
    have := S.hR
    omega
  rw [hb, show b + 2 - 1 = b + 1 by omega, Nat.add_mul, Nat.one_mul]
  omega

theorem mulHi_le_iff {a b h : Nat} : mulHi a b ≤ h ↔ a * b < (h + 1) * B64 := by
  unfold mulHi
  rw [← Nat.lt_succ_iff, Nat.div_lt_iff_lt_mul B64_pos]



/-- One half of the library's division: u is less than y, d is a half. -/
structure Half (u y y1 y0 d q r : Nat) : Prop where
  hy : y = y1 * H32 + y0
  h0 : y0 < H32
  h1 : y1 < H32
  top : H32 ≤ 2 * y1
  hu : u < y
  hd : d < H32
  hq : q * y1 + r = u
  hlt : u * H32 + d < (q + 1) * y

theorem Half.start {u y y1 y0 d : Nat} (hy : y = y1 * H32 + y0) (h0 : y0 < H32) (h1 : y1 < H32) (top : H32 ≤ 2 * y1) (hu : u < y) (hd : d < H32) : Half u y y1 y0 d (u / y1) (u % y1) := by
  have hy1 : 0 < y1 := by unfold H32 at top; omega
  have e : u / y1 * y1 + u % y1 = u := by rw [Nat.mul_comm]; exact Nat.div_add_mod u y1
  refine ⟨hy, h0, h1, top, hu, hd, e, ?_⟩
  have h2 := Nat.mod_lt u hy1
  have h3 : u + 1 ≤ (u / y1 + 1) * y1 := by rw [Nat.add_mul]; omega
  have h4 : (u + 1) * H32 ≤ (u / y1 + 1) * y1 * H32 := Nat.mul_le_mul_right _ h3
  have h5 : (u / y1 + 1) * (y1 * H32) ≤ (u / y1 + 1) * y := Nat.mul_le_mul_left _ (by omega)
  rw [← Nat.mul_assoc] at h5
  rw [Nat.add_mul, Nat.one_mul] at h4
  omega
theorem Half.r_lt {u y1 : Nat} (top : H32 ≤ 2 * y1) : u % y1 < y1 := Nat.mod_lt _ (by unfold H32 at top; omega)
/-- The test of the library's loop, read as numbers. -/
def tooBig (q y0 r d : Nat) : Prop := H32 ≤ q ∨ H32 * r + d < q * y0
theorem Half.pos {u y y1 y0 d q r : Nat} (h : Half u y y1 y0 d q r) (ht : tooBig q y0 r d) : u * H32 + d < q * y ∧ 0 < q := by
  have e : q * y = q * y1 * H32 + q * y0 := by rw [h.hy, Nat.mul_add, Nat.mul_assoc]
  have h2 : u * H32 = q * y1 * H32 + r * H32 := by rw [← Nat.add_mul, h.hq]
  have hlt : u * H32 + d < q * y := by
    rcases ht with ht | ht
    · have h3 : H32 * y ≤ q * y := Nat.mul_le_mul_right _ ht
      have h4 : (u + 1) * H32 ≤ y * H32 := Nat.mul_le_mul_right _ h.hu
      rw [Nat.add_mul, Nat.one_mul] at h4
      have := h.hd
      rw [Nat.mul_comm] at h3
      omega
    · rw [Nat.mul_comm H32] at ht
      omega
  refine ⟨hlt, ?_⟩
  rcases Nat.eq_zero_or_pos q with h3 | h3
  · subst h3; omega
  · exact h3
theorem Half.step {u y y1 y0 d q r : Nat} (h : Half u y y1 y0 d q r) (ht : tooBig q y0 r d) : Half u y y1 y0 d (q - 1) (r + y1) := by
  obtain ⟨h1, h2⟩ := h.pos ht
  refine ⟨h.hy, h.h0, h.h1, h.top, h.hu, h.hd, ?_, by rw [Nat.sub_add_cancel h2]; exact h1⟩
  have := h.hq
  obtain ⟨p, rfl⟩ : ∃ p, q = p + 1 := ⟨q - 1, by omega⟩
  rw [Nat.add_sub_cancel]
  rw [Nat.add_mul] at this
  omega
/-- It ends either way with the quotient. -/
theorem Half.fin {u y y1 y0 d q r : Nat} (h : Half u y y1 y0 d q r) (ht : H32 ≤ r ∨ ¬ tooBig q y0 r d) : q = (u * H32 + d) / y ∧ q < H32 := by
  have e : q * y = q * y1 * H32 + q * y0 := by rw [h.hy, Nat.mul_add, Nat.mul_assoc]
  have h2 : u * H32 = q * y1 * H32 + r * H32 := by rw [← Nat.add_mul, h.hq]
  have h0 := h.h0
  have key : q * y ≤ u * H32 + d ∧ q < H32 := by
    rcases ht with ht | ht
    · have hq : q < H32 := by
        rcases Nat.lt_or_ge q H32 with h3 | h3
        · exact h3
        · have h4 : H32 * y1 ≤ q * y1 := Nat.mul_le_mul_right _ h3
          have := h.hq
          have := h.hu
          have h5 := h.hy
          rw [Nat.mul_comm] at h5
          omega
      refine ⟨?_, hq⟩
      have h3 : q * y0 ≤ H32 * H32 := Nat.mul_le_mul (by omega) (by omega)
      have h4 : H32 * H32 ≤ r * H32 := Nat.mul_le_mul_right _ ht
      omega
    · unfold tooBig at ht
      have h3 : ¬ H32 ≤ q := fun k => ht (.inl k)
      have h4 : ¬ H32 * r + d < q * y0 := fun k => ht (.inr k)
      rw [Nat.mul_comm H32] at h4
      omega
  refine ⟨?_, key.2⟩
  have hlt := h.hlt
  have hy0 : 0 < y := by have := h.hu; omega
  refine (Nat.div_eq_of_lt_le ?_ ?_).symm
  · exact key.1
  · exact hlt
theorem Half.q_le {u y y1 y0 d q r : Nat} (h : Half u y y1 y0 d q r) : q ≤ 2 * H32 := by
  rcases Nat.lt_or_ge (2 * H32) q with h3 | h3
  · have h4 : 2 * H32 * y1 ≤ q * y1 := Nat.mul_le_mul_right _ (by omega)
    have := h.hq
    have := h.hu
    have h5 := h.hy
    have h6 : y1 * H32 * 2 = 2 * H32 * y1 := by ac_rfl
    have := h.h0
    have h7 : H32 ≤ y1 * H32 := Nat.le_mul_of_pos_left _ (by have := h.top; unfold H32 at this; omega)
    omega
  · exact h3

/-- Both halves together. -/
theorem both_halves {hi l1 l0 y q1 u q0 : Nat} (hy : 0 < y) (e1 : q1 = (hi * H32 + l1) / y) (eu : u = (hi * H32 + l1) % y) (e0 : q0 = (u * H32 + l0) / y) :
    q1 * H32 + q0 = (hi * B64 + (l1 * H32 + l0)) / y ∧ (u * H32 + l0) % y = (hi * B64 + (l1 * H32 + l0)) % y := by
  have h1 : hi * H32 + l1 = u + y * q1 := by rw [e1, eu]; exact (Nat.mod_add_div _ _).symm
  have h2 : hi * B64 + (l1 * H32 + l0) = (u * H32 + l0) + y * (q1 * H32) := by
    have : (hi * H32 + l1) * H32 = (u + y * q1) * H32 := by rw [h1]
    rw [Nat.add_mul, Nat.add_mul, Nat.mul_assoc, Nat.mul_assoc, H32_sq] at this
    omega
  rw [h2, Nat.add_mul_div_left _ _ hy, Nat.add_mul_mod_self_left, e0]
  exact ⟨by omega, rfl⟩

end Go.Proofs.Ytogdckajgkncdaa
