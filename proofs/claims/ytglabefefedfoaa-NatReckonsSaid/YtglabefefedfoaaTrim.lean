/-
  The contract of nat.trim.
-/
import Derived.Test.YtglabefefedfoaaLimb
namespace Go.Proofs.Ytglabefefedfoaa
open Go.RowKit

theorem val_take_zero {l : List Nat} {k : Nat} (hz : l[k]?.getD 0 = 0) (h : val (l.take (k + 1)) = val l) : val (l.take k) = val l := by
  rw [val_take_succ, hz] at h
  simpa using h

theorem take_limbs {l : List Nat} (hd : Dig l) {k : Nat} (hk : k ≤ l.length) (hv : val (l.take k) = val l) (h : 0 < k → l[k - 1]?.getD 0 ≠ 0) : l.take k = limbs (val l) := by
  rw [← hv]
  refine eq_limbs (hd.take k) fun h0 => ?_
  rw [List.length_take, Nat.min_eq_left hk] at h0 ⊢
  obtain ⟨j, rfl⟩ : ∃ j, k = j + 1 := ⟨k - 1, by omega⟩
  rw [val_take_succ, Nat.add_sub_cancel]
  have h1 := h h0
  rw [Nat.add_sub_cancel] at h1
  have h2 : B64 ^ j * 1 ≤ B64 ^ j * l[j]?.getD 0 := Nat.mul_le_mul_left _ (by omega)
  omega

set_option maxHeartbeats 1000000 in
theorem trim_lim (B : Nat) (A : Option Addr) (n c : Nat) (l : List Nat) (w : World) (h : Lim B w A n c l) (hn : n ≤ 4294967296) :
    Calls Try.prog 35 #[.slice A n c] w fun e w' => ∃ k, e = .returned (.slice A k c) ∧ Lim B w A k c (limbs (val l)) ∧ w = w' := by
  obtain ⟨hl, hcap, hdg, hc⟩ := h
  have HL := Lib.hid hl
  clear hl
  go_enter Try.func35, Try.ntmps35
  go_wp2
  go_loop [0] (fun v => ∃ k : Nat, k ≤ n ∧ v = .slice A k c ∧ Hid (val (l.take k) = val l)) (fun v => match v with | .slice _ k _ => k | _ => 0)
  case atStart => exact ⟨n, Nat.le_refl _, rfl, by rw [List.take_of_length_le (by have := HL.out; omega)]; exact Lib.hid rfl⟩
  case round =>
    obtain ⟨k, hk, rfl, hv⟩ := hrel
    by_cases h0 : k = 0
    · subst h0
      go_wp2
      go_ret
      refine ⟨0, rfl, ?_, rfl⟩
      have := take_limbs hdg (k := 0) (Nat.zero_le _) hv.out (by omega)
      rw [← this]
      exact Lim.nil _ _ _ _
    · obtain ⟨j, hj⟩ : ∃ j, k = j + 1 := ⟨k - 1, by omega⟩
      subst hj
      obtain ⟨b, off, rfl, hb, hcell⟩ := hc (by omega)
      have h1 := hcell j (by omega)
      by_cases hz : l[j]?.getD 0 = 0
      · have hzb : (((l[j]?.getD 0 : Nat) : Int) == 0) = true := by simp [hz]
        have HZ := Lib.hid hz
        clear hz
        go_wp2
        exact ⟨⟨j, by omega, rfl, Lib.hid (val_take_zero HZ.out hv.out)⟩, Nat.lt_succ_self j⟩
      · have hzb : (((l[j]?.getD 0 : Nat) : Int) == 0) = false := by simp [hz]
        have HZ := Lib.hid hz
        clear hz
        go_wp2
        go_ret
        refine ⟨j + 1, rfl, ?_, rfl⟩
        have ht := take_limbs hdg (k := j + 1) (by have := HL.out; omega) hv.out (fun _ => by rw [Nat.add_sub_cancel]; exact HZ.out)
        rw [← ht]
        refine ⟨by rw [List.length_take, Nat.min_eq_left (by have := HL.out; omega)], by omega, hdg.take _, fun _ => ⟨b, off, rfl, hb, fun i hi => ?_⟩⟩
        rw [List.getElem?_take_of_lt hi]
        exact hcell i (by omega)

end Go.Proofs.Ytglabefefedfoaa
