/-
  The contracts of the reference's at, halves and whole.
-/
import Derived.Deep.RegionLaw
import Derived.Deep.AppendLies
import Derived.WalkSmall
import Derived.Test.YtogdckajgkncdaaMathH
import Derived.Test.YtogdckajgkncdaaBare
namespace Go.Proofs.Ytogdckajgkncdaa
open Go.RowKit

set_option maxHeartbeats 400000 in
theorem at_any (B : Nat) (A : Option Addr) (n c k : Nat) (l : List Nat) (w : World) (h : Lim B w A n c l) (hn : n ≤ 9223372036854775807) (hk : k ≤ 9223372036854775807) :
    Calls Try.prog 43 #[.slice A n c, .int .i64 k] w fun e w' => e = .returned (.int .u64 ((l[k]?.getD 0 : Nat) : Int)) ∧ w = w' := by
  obtain ⟨hl, hcap, hdg, hc⟩ := h
  by_cases hlt : k < n
  · obtain ⟨b, off, rfl, hb, hcell⟩ := hc (by omega)
    have h1 := hcell k hlt
    clear hcell hc hdg
    have HL := Lib.hid hl
    clear hl
    go_enter Try.func43, Try.ntmps43
    go_wp2
    go_ret
    exact ⟨rfl, rfl⟩
  · have hz : l[k]?.getD 0 = 0 := by rw [List.getElem?_eq_none (by omega)]; rfl
    have HZ := Lib.hid hz
    clear hc hdg hl hz
    go_enter Try.func43, Try.ntmps43
    go_wp2
    go_ret
    exact ⟨by rw [HZ.out]; rfl, rfl⟩

theorem tmod_lo (x : Nat) : ((x : Int)).tmod 4294967296 = (loH x : Int) := by
  unfold loH H32
  rw [Int.tmod_eq_emod_of_nonneg (by omega)]
  omega
theorem wrap_hi {x : Nat} (h : x < B64) : IntKind.u64.wrap ((x : Int) / 4294967296) = (hiH x : Int) := by
  rw [IntKind.wrap_u64]
  unfold hiH H32
  unfold B64 at h
  omega

set_option maxRecDepth 100000 in
set_option maxHeartbeats 2000000 in
theorem halves_any (A : Option Addr) (n c : Nat) (l : List Nat) (w : World) (h : Lim w.heap.size w A n c l) (hn : n ≤ 2147483648) :
    Calls Try.prog 42 #[.slice A n c] w fun e w' => ∃ A' c', e = .returned (.slice A' (2 * n) c') ∧ Lim w'.heap.size w' A' (2 * n) c' (halvesL l) ∧ Below w.heap.size w w' := by
  obtain ⟨i0, hi, hz0, hz1, hz2⟩ := info_parts info24
  have HL := Lib.hid h.1
  go_enter Try.func42, Try.ntmps42
  go_wp2
  go_loopw [3, 4] (fun ov iv wr => ∃ k : Nat, k ≤ n ∧ iv = .int .i64 (k : Int) ∧ wr.ownsRow w.heap.size 38 1 ov (2 * k) ((halvesL (l.take k)).map encD) ∧ Below w.heap.size w wr) (fun _ iv _ => n - (intOf iv).toNat)
  case atStart => exact ⟨0, Nat.zero_le _, rfl, own_empty w _ (Nat.le_refl _), (Below.refl _ w).alloc (Nat.le_refl _) _⟩
  case round =>
    obtain ⟨k, hk, rfl, hown, hbl⟩ := hrel
    by_cases hlt : k < n
    · obtain ⟨b, off, rfl, hb, hcell⟩ := (h.below hbl).2.2.2 (by omega)
      have h1 := hcell k hlt
      have hdk : l[k]?.getD 0 < B64 := h.2.2.1.get k
      clear hcell
      have HO := Lib.hid hown
      clear hown
      have hk0 : (0 : Int) ≤ (k : Int) := by omega
      have hkn : (k : Int) < (n : Int) := by omega
      go_wp2
      go_region_law ((refine step_append_lies _ rfl _ _ 22 rfl w.heap.size 38 i0 (.int .u64 0) 1 8 Try.underlying22 hi hz0 hz1 hz2 rfl (by decide) _ _ _ rfl ((HO.out.alloc _).drew) ⟨wr.heap.size, 0, none⟩ 2 2 [.int .u64 (((l[k]?.getD 0 : Nat) : Int).tmod 4294967296), .int .u64 (IntKind.u64.wrap (((l[k]?.getD 0 : Nat) : Int) / 4294967296))] rfl rfl (fun j u h => cell_two_new wr _ _ 38 j u h) (by simp [Value.oneCell']) (by omega) (by unfold maxLen; omega) (by omega) (by simp; have := hbl.size; omega) _ rfl ?_; intro g cap w1 hown1 hgrow1 hat hlt1))
      all_goals
        go_wp2
        go_roundw
        case rel =>
          refine ⟨k + 1, by omega, by go_num, ?_, ?_⟩
          · have e : halvesL (l.take (k + 1)) = halvesL (l.take k) ++ [loH (l[k]?.getD 0), hiH (l[k]?.getD 0)] := by
              have hkl : k < l.length := by have := HL.out; omega
              rw [List.take_succ_eq_append_getElem hkl, halvesL_snoc]
              simp [hkl]
            rw [e, List.map_append]
            rw [tmod_lo, wrap_hi hdk] at hown1
            exact hown1
          · exact (below_drewN (hbl.alloc hbl.size _) 1).grown hgrow1 (by simp; have := hbl.size; omega) (fun q e => (HO.out.lt q e).1)
        case measure => simp [intOf]; omega
    · obtain rfl : k = n := by omega
      go_wp2
      go_ret
      rw [List.take_of_length_le (by have := HL.out; omega)] at hown
      obtain ⟨A', c', rfl, hl'⟩ := isL_of_own hown (halvesL_dig h.2.2.1).dig
      exact ⟨A', c', rfl, hl', hbl⟩

end Go.Proofs.Ytogdckajgkncdaa
