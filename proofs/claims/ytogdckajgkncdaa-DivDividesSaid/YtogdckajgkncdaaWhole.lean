/-
  The contract of the reference's whole: figures of 32 bits as a number.
-/
import Derived.Test.YtogdckajgkncdaaHalves
namespace Go.Proofs.Ytogdckajgkncdaa
open Go.RowKit

theorem bare_limF {g off n c : Nat} {l : List Nat} {w : World} (h : Lim w.heap.size w (some ⟨g, off, none⟩) n c l) (hn : n ≤ 4294967296) : Calls Try.prog 36 #[.slice (some ⟨g, off, none⟩) n c] w (GotNF w (val l)) := by
  refine bare_F g off n c l w h hn (fun j hj => ?_) (fun h0 => ?_)
  · obtain ⟨b, o, e, _, hc⟩ := h.2.2.2 (by omega)
    injection e with e
    injection e with e1 e2
    subst e1; subst e2
    exact hc j hj
  · obtain ⟨b, o, e, hb, _⟩ := h.2.2.2 h0
    injection e with e
    injection e with e1 e2
    omega

theorem bare_lim {g off n c : Nat} {l : List Nat} {w : World} (h : Lim w.heap.size w (some ⟨g, off, none⟩) n c l) (hn : n ≤ 4294967296) : Calls Try.prog 36 #[.slice (some ⟨g, off, none⟩) n c] w (GotN w (val l)) := (bare_limF h hn).mono fun _ _ h => h.weak

theorem wrap_join {a b : Nat} (ha : a < H32) (hb : b < H32) : IntKind.u64.wrap ((a : Int) + IntKind.u64.wrap ((b : Int) * 4294967296)) = (join a b : Int) := by
  have := join_lt ha hb
  simp only [IntKind.wrap_u64]
  unfold join H32 at *
  unfold B64 at this
  omega

set_option maxRecDepth 100000 in
set_option maxHeartbeats 2000000 in
theorem whole_F (A : Option Addr) (n c : Nat) (l : List Nat) (w : World) (h : Lim w.heap.size w A n c l) (hd : DigH l) (hn : n ≤ 4294967296) :
    Calls Try.prog 44 #[.slice A n c] w (GotNF w (valH l)) := by
  obtain ⟨i0, hi, hz0, hz1, hz2⟩ := info_parts info24
  have HL := Lib.hid h.1
  go_enter Try.func44, Try.ntmps44
  go_wp2
  go_loopw [3, 4] (fun ov iv wr => ∃ k g cap : Nat, 2 * k ≤ n + 1 ∧ iv = .int .i64 ((2 * k : Nat) : Int) ∧ ov = .slice (some ⟨g, 0, none⟩) k cap ∧ wr.ownsRow w.heap.size 38 1 (.slice (some ⟨g, 0, none⟩) k cap) k ((joinL l k).map encD) ∧ Below w.heap.size w wr) (fun _ iv _ => n - (intOf iv).toNat)
  case atStart => exact ⟨0, w.heap.size, 0, by omega, rfl, rfl, own_empty w _ (Nat.le_refl _), (Below.refl _ w).alloc (Nat.le_refl _) _⟩
  case round =>
    obtain ⟨k, g, cap, hk, rfl, rfl, hown, hbl⟩ := hrel
    by_cases hlt : 2 * k < n
    · obtain ⟨b, off, rfl, hb, hcell⟩ := (h.below hbl).2.2.2 (by omega)
      have h1 := hcell (2 * k) hlt
      have hda : l[2 * k]?.getD 0 < H32 := hd.get _
      have hdb : l[2 * k + 1]?.getD 0 < H32 := hd.get _
      have hgl := hown.lt g rfl
      have HO := Lib.hid hown
      clear hown
      by_cases hlt2 : 2 * k + 1 < n
      · have h2 := hcell (2 * k + 1) hlt2
        clear hcell
        go_wp2_with (at_builtin; refine wpList_append_lies _ rfl _ _ 23 rfl w.heap.size 38 i0 (.int .u64 0) 1 8 Try.underlying23 hi hz0 hz1 hz2 rfl (by decide) _ _ _ rfl (HO.out.alloc _) ⟨wr.heap.size, 0, none⟩ 1 1 [.int .u64 (IntKind.u64.wrap (((l[2 * k]?.getD 0 : Nat) : Int) + IntKind.u64.wrap (((l[2 * k + 1]?.getD 0 : Nat) : Int) * 4294967296)))] rfl rfl (cell_one_new _ _ _) (by simp [Value.oneCell']) (by omega) (by unfold maxLen; omega) (by omega) (by simp; have := hbl.size; omega) _ rfl ?_; intro g1 cap1 w1 hown1 hgrow1 hat hlt1)
        go_roundw
        case rel =>
          refine ⟨k + 1, g1, cap1, by omega, by go_num, rfl, ?_, ?_⟩
          · rw [joinL_succ, List.map_append]
            rw [wrap_join hda hdb] at hown1
            exact hown1
          · exact (hbl.alloc hbl.size _).grown hgrow1 (by simp; have := hbl.size; omega) (fun q e => by injection (show some g = some q from e) with e1; omega)
        case measure => simp [intOf]; omega
      · clear hcell
        have hz1' : l[2 * k + 1]?.getD 0 = 0 := by rw [List.getElem?_eq_none (by have := HL.out; omega)]; rfl
        have HZ := Lib.hid hz1'
        clear hz1'
        go_wp2_with (at_builtin; refine wpList_append_lies _ rfl _ _ 23 rfl w.heap.size 38 i0 (.int .u64 0) 1 8 Try.underlying23 hi hz0 hz1 hz2 rfl (by decide) _ _ _ rfl (HO.out.alloc _) ⟨wr.heap.size, 0, none⟩ 1 1 [.int .u64 ((l[2 * k]?.getD 0 : Nat) : Int)] rfl rfl (cell_one_new _ _ _) (by simp [Value.oneCell']) (by omega) (by unfold maxLen; omega) (by omega) (by simp; have := hbl.size; omega) _ rfl ?_; intro g1 cap1 w1 hown1 hgrow1 hat hlt1)
        go_roundw
        case rel =>
          refine ⟨k + 1, g1, cap1, by omega, by go_num, rfl, ?_, ?_⟩
          · rw [joinL_succ, List.map_append]
            rw [show join (l[2 * k]?.getD 0) (l[2 * k + 1]?.getD 0) = l[2 * k]?.getD 0 from by rw [HZ.out]; simp [join]]
            exact hown1
          · exact (hbl.alloc hbl.size _).grown hgrow1 (by simp; have := hbl.size; omega) (fun q e => by injection (show some g = some q from e) with e1; omega)
        case measure => simp [intOf]; omega
    · have hlim := Lim.of_own hown (joinL_dig hd k)
      have hv : val (joinL l k) = valH l := by rw [joinL_val, List.take_of_length_le (by have := HL.out; omega)]
      have HV := Lib.hid hv
      clear hv hown
      go_wp2_with fail
      refine (bare_limF hlim (by omega)).mono ?_
      rintro e w1 ⟨A1, n1, c1, rfl, hl1, b1, f1⟩
      go_wp2_with fail
      go_ret
      rw [HV.out] at hl1
      exact ⟨A1, n1, c1, rfl, hl1, hbl.trans (b1.mono hbl.size), f1.mono hbl.size⟩

theorem whole_any (A : Option Addr) (n c : Nat) (l : List Nat) (w : World) (h : Lim w.heap.size w A n c l) (hd : DigH l) (hn : n ≤ 4294967296) :
    Calls Try.prog 44 #[.slice A n c] w (GotN w (valH l)) := (whole_F A n c l w h hd hn).mono fun _ _ h => h.weak

end Go.Proofs.Ytogdckajgkncdaa
