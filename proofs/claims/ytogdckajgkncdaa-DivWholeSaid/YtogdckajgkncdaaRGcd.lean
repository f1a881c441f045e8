/-
  The contracts of the second reference's Gcd and Goes.
-/
import Derived.Deep.LoopGhost
import Derived.Test.YtogdckajgkncdaaRDiv
namespace Go.Proofs.Ytogdckajgkncdaa
open Go.RowKit

set_option maxRecDepth 100000 in
set_option maxHeartbeats 4000000 in
theorem rgcd_N {w : World} {A B : Option Addr} {n c m d x y : Nat} (ha : Num w A n c x) (hb : Num w B m d y) (hx : (limbs x).length ≤ 300) (hy : (limbs y).length ≤ 300) : Calls Try.prog 20 #[.slice A n c, .slice B m d] w (GotN w (Nat.gcd x y)) := by
  go_enter Try.func20, Try.ntmps20
  go_wp2_with fail
  go_loopg [0, 1] y (fun k av bv wr => ∃ (A' B' : Option Addr) (n' c' m' d' x' : Nat), av = .slice A' n' c' ∧ bv = .slice B' m' d' ∧ Num wr A' n' c' x' ∧ Num wr B' m' d' k ∧ (limbs x').length ≤ 300 ∧ (limbs k).length ≤ 300 ∧ Hid (Nat.gcd x' k = Nat.gcd x y) ∧ Below w.heap.size w wr)
  case atStart => exact ⟨A, B, n, c, m, d, x, rfl, rfl, ha, hb, hx, hy, Lib.hid rfl, Below.refl _ _⟩
  case round =>
    obtain ⟨A', B', n', c', m', d', x', rfl, rfl, h1, h2, l1, l2, hg, hbl⟩ := hrel
    have hm := h2.len
    by_cases h0 : gk = 0
    · subst h0
      rw [limbs_zero] at hm
      simp at hm
      subst hm
      go_wp2_with fail
      go_ret
      have e := hg.out
      rw [Nat.gcd_zero_right] at e
      rw [e] at h1
      exact ⟨_, _, _, rfl, h1, hbl⟩
    · have hm0 : 0 < m' := by have := limbs_ne_nil h0; omega
      have hmi : (0 : Int) < (m' : Int) := by omega
      have l3 := r_len (x := x') (by omega) l2
      have hg2 : Nat.gcd gk (x' % gk) = Nat.gcd x y := by rw [Nat.gcd_comm, ← Nat.gcd_rec, Nat.gcd_comm]; exact hg.out
      have HG := Lib.hid hg2
      clear hg hg2 hm
      go_wp2_with fail
      refine (rdiv_N h1 h2 (by omega) (by omega) h0).mono ?_
      rintro e w1 ⟨A1, n1, c1, B1, m1, d1, rfl, h3, h4, b1⟩
      go_wp2_with fail
      go_roundg (x' % gk)
      case measure => exact Nat.mod_lt _ (by omega)
      case rel => exact ⟨B', B1, m', d', m1, d1, gk, rfl, rfl, h2.on b1, h4, l2, l3, HG, hbl.trans (b1.mono hbl.size)⟩

set_option maxHeartbeats 1000000 in
theorem goes_N {w : World} {A B : Option Addr} {n c m d x y : Nat} (r : Bool) (ha : Num w A n c x) (hb : Num w B m d y) (hx : (limbs x).length ≤ 300) (hy : (limbs y).length ≤ 300) (hr : decide (x ∣ y) = r) : Calls Try.prog 27 #[.slice A n c, .slice B m d] w (GotV w (.bool r)) := by
  have hn := ha.len
  have hm := hb.len
  by_cases h0 : x = 0
  · subst h0
    rw [limbs_zero] at hn
    simp at hn
    subst hn
    have HR := Lib.hid hr
    clear hr
    have hmr : ((m : Int) == 0) = r := by
      rw [← HR.out, hm]
      by_cases hy0 : y = 0
      · subst hy0; rw [limbs_zero]; simp
      · have := limbs_ne_nil hy0
        have e1 : (((limbs y).length : Int) == 0) = false := beq_eq_false_iff_ne.2 (by omega)
        rw [e1]
        simp [hy0]
    have HM := Lib.hid hmr
    clear hmr hm
    go_enter Try.func27, Try.ntmps27
    go_wp2_with fail
    refine (rdiv_zero _ _ _ _ _ _).mono ?_
    rintro e w1 ⟨rfl, b1⟩
    go_wp2_with fail
    go_ret
    exact ⟨ret_bool HM.out, b1⟩
  · have HR := Lib.hid hr
    clear hr hm hn
    go_enter Try.func27, Try.ntmps27
    go_wp2_with fail
    refine (rdiv_N hb ha (by omega) (by omega) h0).mono ?_
    rintro e w1 ⟨A1, n1, c1, B1, m1, d1, rfl, h3, h4, b1⟩
    have hl := h4.len
    have hmr : ((m1 : Int) == 0) = r := by
      rw [← HR.out, hl]
      by_cases hy0 : y % x = 0
      · rw [hy0, limbs_zero]; simp [Nat.dvd_of_mod_eq_zero hy0]
      · have := limbs_ne_nil hy0
        have e1 : (((limbs (y % x)).length : Int) == 0) = false := beq_eq_false_iff_ne.2 (by omega)
        have e2 : ¬ x ∣ y := fun h => hy0 (Nat.mod_eq_zero_of_dvd h)
        rw [e1]
        simp [e2]
    have HM := Lib.hid hmr
    clear hmr hl
    go_wp2_with fail
    go_ret
    exact ⟨ret_bool HM.out, b1⟩

end Go.Proofs.Ytogdckajgkncdaa
