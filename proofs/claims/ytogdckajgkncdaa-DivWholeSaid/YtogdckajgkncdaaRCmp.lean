/-
  The contracts of the reference's Cmp and Same.
-/
import Derived.BigQuiet
import Derived.WalkSmall
import Derived.Deep.QuietTactic
import Derived.Test.YtogdckajgkncdaaTells
import Derived.Test.YtogdckajgkncdaaCmp
namespace Go.Proofs.Ytogdckajgkncdaa
open Go.RowKit

/-- Digits that are the same above a place: the digit there tells. -/
theorem lt_of_top {la lb : List Nat} (ha : Dig la) {i : Nat} (hs : ∀ j, i < j → la[j]?.getD 0 = lb[j]?.getD 0) (h : la[i]?.getD 0 < lb[i]?.getD 0) : val la < val lb := by
  have key : ∀ k, val (la.take (i + 1 + k)) < val (lb.take (i + 1 + k)) := by
    intro k
    induction k with
    | zero =>
      rw [Nat.add_zero, val_take_succ, val_take_succ]
      exact cmpN_top (Nat.lt_of_lt_of_le (val_lt (ha.take i)) (Nat.pow_le_pow_right B64_pos (List.length_take_le _ _))) h
    | succ k ih =>
      rw [← Nat.add_assoc, val_take_succ, val_take_succ, hs (i + 1 + k) (by omega)]
      omega
  have h1 := key (la.length + lb.length)
  rwa [List.take_of_length_le (by omega), List.take_of_length_le (by omega)] at h1

theorem eq_of_all {la lb : List Nat} (hl : la.length = lb.length) (hs : ∀ j : Nat, la[j]?.getD 0 = lb[j]?.getD 0) : la = lb := by
  apply List.ext_getElem hl
  intro i h1 h2
  have := hs i
  simpa [h1, h2] using this

theorem lt_of_len {x y : Nat} (h : (limbs x).length < (limbs y).length) : x < y := by
  rcases Nat.lt_or_ge x y with h1 | h1
  · exact h1
  · have := limbs_length_mono h1; omega

theorem cmpN_lt {x y : Nat} (h : x < y) : cmpN x y = -1 := by simp [cmpN, h]
theorem cmpN_gt {x y : Nat} (h : y < x) : cmpN x y = 1 := by unfold cmpN; rw [if_neg (by omega), if_pos h]
theorem cmpN_eq (x : Nat) : cmpN x x = 0 := by simp [cmpN]
theorem cmpN_zero {x y : Nat} : cmpN x y = 0 ↔ x = y := by
  unfold cmpN
  split
  · constructor <;> intro h <;> omega
  · split
    · constructor <;> intro h <;> omega
    · constructor <;> intro h <;> omega

def CmpPost (w : World) (x y : Nat) (e : Ending) (w' : World) : Prop := e = .returned (.int .i64 (cmpN x y)) ∧ Below w.heap.size w w'

set_option maxRecDepth 100000 in
set_option maxHeartbeats 1000000 in
theorem rcmp_lim (A B : Option Addr) (n c m d x y : Nat) (w : World) (ha : Lim w.heap.size w A n c (limbs x)) (hb : Lim w.heap.size w B m d (limbs y)) (hn : n ≤ 4294967296) (hm : m ≤ 4294967296) :
    Calls Try.prog 22 #[.slice A n c, .slice B m d] w (CmpPost w x y) := by
  rcases Nat.lt_trichotomy n m with h | h | h
  · have hv : cmpN x y = -1 := cmpN_lt (lt_of_len (by rw [← ha.1, ← hb.1]; exact h))
    have HV := Lib.hid hv
    have hne : ((n : Int) != (m : Int)) = true := by simp; omega
    clear hv ha hb
    go_enter Try.func22, Try.ntmps22
    go_wp2
    go_ret
    exact ⟨by rw [HV.out]; rfl, Below.refl _ _⟩
  · subst h
    have hla := Lib.hid ha.1
    have hlb := Lib.hid hb.1
    go_enter Try.func22, Try.ntmps22
    go_wp2
    go_loopw [5] (fun iv wr => ∃ (k : Nat), iv = .int .i64 ((k : Int) - 1) ∧ k ≤ n ∧ (∀ j, k ≤ j → Hid ((limbs x)[j]?.getD 0 = (limbs y)[j]?.getD 0)) ∧ Below w.heap.size w wr) (fun iv _ => (intOf iv + 1).toNat)
    case atStart => exact ⟨n, rfl, Nat.le_refl _, fun j hj => by rw [List.getElem?_eq_none (by have := hla.out; omega), List.getElem?_eq_none (by have := hlb.out; omega)]; exact Lib.hid rfl, Below.refl _ _⟩
    case round =>
      obtain ⟨k, rfl, hk, hs, hbl⟩ := hrel
      by_cases h0 : k = 0
      · subst h0
        have he : x = y := limbs_inj (eq_of_all (by rw [← hla.out, ← hlb.out]) fun j => (hs j (Nat.zero_le _)).out)
        have HE := Lib.hid he
        clear he
        go_wp2
        go_ret
        exact ⟨by rw [HE.out, cmpN_eq]; rfl, hbl⟩
      · obtain ⟨i, hi⟩ : ∃ i, k = i + 1 := ⟨k - 1, by omega⟩
        subst hi
        obtain ⟨b1, o1, rfl, hb1, hc1⟩ := (ha.below hbl).2.2.2 (by omega)
        obtain ⟨b2, o2, rfl, hb2, hc2⟩ := (hb.below hbl).2.2.2 (by omega)
        have g1 := hc1 i (by omega)
        have g2 := hc2 i (by omega)
        have hsi : ∀ j, i < j → (limbs x)[j]?.getD 0 = (limbs y)[j]?.getD 0 := fun j hj => (hs j hj).out
        have HSI := Lib.hid hsi
        clear hc1 hc2 hsi
        have e1 : ((i + 1 : Nat) : Int) - 1 = (i : Int) := by omega
        rw [e1]
        clear e1
        have hi0 : (0 : Int) ≤ (i : Int) := by omega
        have hin : (i : Int) < (n : Int) := by omega
        rcases Nat.lt_trichotomy ((limbs x)[i]?.getD 0) ((limbs y)[i]?.getD 0) with h1 | h1 | h1
        · have hv := cmpN_lt (lt_of_top (limbs_dig x) HSI.out h1)
          rw [val_limbs, val_limbs] at hv
          have HV := Lib.hid hv
          clear hv
          go_wp2
          go_quiet (fail)
          go_wp2
          go_ret
          exact ⟨by rw [HV.out]; rfl, below_drewN hbl _⟩
        · have n1 : ¬ (limbs x)[i]?.getD 0 < (limbs y)[i]?.getD 0 := by omega
          have n2 : ¬ (limbs y)[i]?.getD 0 < (limbs x)[i]?.getD 0 := by omega
          have HE := Lib.hid h1
          clear h1
          go_wp2
          go_quiet (fail)
          go_wp2
          go_quiet (fail)
          go_wp2
          go_roundw
          case rel => exact ⟨i, by go_num, by omega, fun j hj => by
            rcases Nat.eq_or_lt_of_le hj with e | e
            · subst e; exact Lib.hid HE.out
            · exact Lib.hid (HSI.out j e), below_drewN hbl _⟩
          case measure => simp [intOf]
        · have n1 : ¬ (limbs x)[i]?.getD 0 < (limbs y)[i]?.getD 0 := by omega
          have hv := cmpN_gt (lt_of_top (limbs_dig y) (fun j hj => (HSI.out j hj).symm) h1)
          rw [val_limbs, val_limbs] at hv
          have HV := Lib.hid hv
          clear hv
          go_wp2
          go_quiet (fail)
          go_wp2
          go_quiet (fail)
          go_wp2
          go_ret
          exact ⟨by rw [HV.out]; rfl, below_drewN (below_drewN hbl _) _⟩
  · have hv : cmpN x y = 1 := cmpN_gt (lt_of_len (by rw [← ha.1, ← hb.1]; exact h))
    have HV := Lib.hid hv
    have hne : ((n : Int) != (m : Int)) = true := by simp; omega
    have hnl : ¬ (n < m) := by omega
    clear hv ha hb
    go_enter Try.func22, Try.ntmps22
    go_wp2
    go_ret
    exact ⟨by rw [HV.out]; rfl, Below.refl _ _⟩

/-- Same: are the numbers the same? -/
theorem same_lim (A B : Option Addr) (n c m d x y : Nat) (r : Bool) (w : World) (ha : Lim w.heap.size w A n c (limbs x)) (hb : Lim w.heap.size w B m d (limbs y)) (hn : n ≤ 4294967296) (hm : m ≤ 4294967296) (hr : decide (x = y) = r) :
    Calls Try.prog 16 #[.slice A n c, .slice B m d] w fun e w' => e = .returned (.bool r) ∧ Below w.heap.size w w' := by
  have HR := Lib.hid hr
  clear hr
  go_enter Try.func16, Try.ntmps16
  go_wp2_with (go_at_call 22; refine (rcmp_lim _ _ _ _ _ _ x y _ ha hb hn hm).mono ?_; rintro e w' ⟨rfl, hbl⟩)
  go_ret
  refine ⟨ret_bool ?_, hbl⟩
  rw [← HR.out, Bool.eq_iff_iff]
  simp [cmpN_zero]

end Go.Proofs.Ytogdckajgkncdaa
