/-
  Several texts in one: N15.
-/
import Derived.Test.YtmaolhajeoigpaaA5

/-
  Rates by schedules: their bounds, their order, their ends; numbers alone.
-/
namespace Go.Proofs.Ytmaolhajeoigpaa
set_option linter.unusedVariables false
set_option linter.unusedSimpArgs false

section
variable {f kd ba ra en wa ev la po t u : Int}
theorem rt_two (h : OkR f kd ba ra en wa ev la po) : 2 ^ f.toNat ≠ 0 := Nat.ne_of_gt (Nat.pow_pos (by omega))
theorem rt_in (h : OkR f kd ba ra en wa ev la po) (h1 : 1 ≤ t) : 0 ≤ rt15 f kd ba ra en wa ev la po t ∧ rt15 f kd ba ra en wa ev la po t ≤ ba := by
  obtain ⟨f0, k0, b0, w0, d0, p0⟩ := h
  unfold rt15
  split
  · exact ⟨rn_nonneg (by omega) (Int.mul_nonneg b0 (by omega)), rn_le (by omega) b0 (by omega)⟩
  split
  · exact fell_le b0 (by omega) h1
  split
  · rename_i hk
    obtain ⟨p1, p2, p3, p4⟩ := p0 hk
    have := poly_in (t := t) (po := po) p3 p4 p1.1 (by omega)
    omega
  split
  · rename_i hk
    obtain ⟨d1, d2, d3⟩ := d0 hk
    exact drop_in (Nat.ne_of_gt (Nat.pow_pos (by omega))) b0 d2 d3 _
  · exact ⟨b0, Int.le_refl _⟩
theorem rt_falls (h : OkR f kd ba ra en wa ev la po) (h1 : 1 ≤ t) (hw : wa < t) (htu : t ≤ u) : rt15 f kd ba ra en wa ev la po u ≤ rt15 f kd ba ra en wa ev la po t := by
  obtain ⟨f0, k0, b0, w0, d0, p0⟩ := h
  unfold rt15
  rw [if_neg (show ¬ u ≤ wa by omega), if_neg (show ¬ t ≤ wa by omega)]
  split
  · exact fell_mono h1 htu
  split
  · rename_i hk
    obtain ⟨p1, p2, p3, p4⟩ := p0 hk
    exact poly_mono p3 p4 p1.1 (by omega) htu
  split
  · rename_i hk
    obtain ⟨d1, d2, d3⟩ := d0 hk
    have hm : (min ((t - wa) / ev) 200).toNat ≤ (min ((u - wa) / ev) 200).toNat := by
      have := Int.ediv_le_ediv (show 0 < ev by omega) (show t - wa ≤ u - wa by omega)
      omega
    obtain ⟨k, hk2⟩ := Nat.le.dest hm
    rw [← hk2]
    exact drop_mono (Nat.ne_of_gt (Nat.pow_pos (by omega))) b0 d2 d3 _ k
  · exact Int.le_refl _
theorem rt_end (h : OkR f kd ba ra en wa ev la po) (h1 : 1 ≤ t) (hw : wa < t) (hk : kd = 3) : en ≤ rt15 f kd ba ra en wa ev la po t := by
  obtain ⟨p1, p2, p3, p4⟩ := h.2.2.2.2.2 hk
  unfold rt15
  rw [if_neg (by omega), if_neg (by omega), if_pos hk]
  exact (poly_in p3 p4 p1.1 (by omega)).1
theorem rt_last (hw : wa < t) (hk : kd = 3) (hl : la ≤ t) : rt15 f kd ba ra en wa ev la po t = en := by
  unfold rt15
  rw [if_neg (by omega), if_neg (by omega), if_pos hk]
  unfold polyR
  rw [if_pos hl]
theorem rt_const (hw : wa < t) (hk : kd = 0) : rt15 f kd ba ra en wa ev la po t = ba := by
  unfold rt15
  rw [if_neg (by omega), if_neg (by omega), if_neg (by omega), if_neg (by omega)]
theorem rt_drop (hw : wa < t) (hk : kd = 2) : rt15 f kd ba ra en wa ev la po t = dropR ba ra (2 ^ f.toNat) (min ((t - wa) / ev) 200).toNat := by
  unfold rt15
  rw [if_neg (by omega), if_neg (by omega), if_neg (by omega), if_pos hk]
theorem rt_root (hw : wa < t) (hk : kd = 1) : rt15 f kd ba ra en wa ev la po t = fellR ba wa t := by
  unfold rt15
  rw [if_neg (by omega), if_pos hk]
theorem rt_warm (hw : t ≤ wa) : rt15 f kd ba ra en wa ev la po t = rn (ba * t) wa.toNat := by
  unfold rt15
  rw [if_pos hw]
theorem rt_any {g : Int} (hk : kd ≠ 2) : rt15 g kd ba ra en wa ev la po t = rt15 f kd ba ra en wa ev la po t := by
  unfold rt15
  rw [if_neg hk, if_neg hk]
theorem rt_first (h : OkR f kd ba ra en wa ev la po) (hk : kd = 0 ∨ kd = 1) : rt15 f kd ba ra en 0 ev la po 1 = ba := by
  have hb := h.2.2.1
  rcases hk with hk | hk
  · exact rt_const (by omega) hk
  · rw [rt_root (by omega) hk]
    unfold fellR
    rw [show (max (0 : Int) 1).toNat = 1 from rfl, show (1 : Int).toNat = 1 from rfl, Nat.mul_one, Nat.div_one, ← Nat.pow_two, iroot_of_pow _ (by omega)]
    omega
theorem rt_less (h : OkR f kd ba ra en wa ev la po) (h1 : 1 ≤ t) (hk : kd = 0 ∨ kd = 1) {c : Int} (c0 : 0 ≤ c) (c1 : c ≤ ba) : rt15 f kd c ra 0 wa ev la po t ≤ rt15 f kd ba ra en wa ev la po t := by
  by_cases hw : t ≤ wa
  · rw [rt_warm hw, rt_warm hw]
    exact rn_mono (by omega) (Int.mul_le_mul_of_nonneg_right c1 (by omega))
  · rcases hk with hk | hk
    · rw [rt_const (by omega) hk, rt_const (by omega) hk]; exact c1
    · rw [rt_root (by omega) hk, rt_root (by omega) hk]; exact fell_base c0 c1
theorem okR_less (h : OkR f kd ba ra en wa ev la po) {c : Int} (c0 : 0 ≤ c) : OkR f kd c ra 0 wa ev la po := by
  obtain ⟨f0, k0, b0, w0, d0, p0⟩ := h
  exact ⟨f0, k0, c0, w0, d0, fun hk => ⟨(p0 hk).1, (p0 hk).2.1, Int.le_refl _, c0⟩⟩
theorem okR_first (h : OkR f kd ba ra en wa ev la po) : OkR f kd ba ra en 0 ev la po := by
  obtain ⟨f0, k0, b0, w0, d0, p0⟩ := h
  exact ⟨f0, k0, b0, by omega, d0, p0⟩
/-- What Rate tells of a right schedule and a step that there is. -/
theorem rVE (h : OkR f kd ba ra en wa ev la po) (h1 : 1 ≤ t) (h2 : t ≤ 1000000) : rV f kd ba ra en wa ev la po t = rt15 f kd ba ra en wa ev la po t ∧ rE f kd ba ra en wa ev la po t = 0 := ⟨if_pos ⟨h, h1, h2⟩, if_pos ⟨h, h1, h2⟩⟩
/-- While it warms. -/
theorem warm_mono (h : OkR f kd ba ra en wa ev la po) (hw : 1 ≤ wa) (htu : t ≤ u) : rn (ba * t) wa.toNat ≤ rn (ba * u) wa.toNat := rn_mono (by omega) (Int.mul_le_mul_of_nonneg_left htu h.2.2.1)
theorem warm_end (hw : 1 ≤ wa) : rn (ba * wa) wa.toNat = ba := by
  have := rn_self ba (d := wa.toNat) (by omega)
  rwa [show ((wa.toNat : Nat) : Int) = wa by omega] at this
end
/-- At most half a step away. -/
theorem rn_far (u d : Nat) (hd : d ≠ 0) : 2 * (rn (u : Int) d * (d : Int) - (u : Int)) ≤ (d : Int) ∧ -(d : Int) ≤ 2 * (rn (u : Int) d * (d : Int) - (u : Int)) := by
  rw [rn_nat u d hd]
  have h1 := Nat.div_add_mod u d
  have h2 := Nat.mod_lt u (Nat.pos_of_ne_zero hd)
  have e : ((u / d : Nat) : Int) * (d : Int) = (u : Int) - ((u % d : Nat) : Int) := by
    have : ((u / d * d : Nat) : Int) = (u : Int) - ((u % d : Nat) : Int) := by rw [Nat.mul_comm]; omega
    rw [← this, Int.natCast_mul]
  unfold fars
  by_cases hf : (decide (d < u % d + u % d) || (decide (u % d + u % d = d) && decide (u / d % 2 = 1))) = true
  · rw [if_pos hf, Int.natCast_add, Int.add_mul, e]
    have h3 : d ≤ u % d + u % d := by
      rw [Bool.or_eq_true, Bool.and_eq_true, decide_eq_true_eq, decide_eq_true_eq] at hf
      omega
    have h4 : ((1 : Nat) : Int) * (d : Int) = (d : Int) := by simp
    rw [h4]
    omega
  · rw [if_neg hf, Int.natCast_add, Int.add_mul, e]
    have h3 : u % d + u % d ≤ d := by
      rw [Bool.or_eq_true, decide_eq_true_eq] at hf
      omega
    have h4 : ((0 : Nat) : Int) * (d : Int) = 0 := by simp
    rw [h4]
    omega
end Go.Proofs.Ytmaolhajeoigpaa
