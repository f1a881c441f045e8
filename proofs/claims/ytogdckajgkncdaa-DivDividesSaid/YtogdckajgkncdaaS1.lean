/-
  The contracts of div's trim, limb, raised, isShift, and of the library's Clone.
-/
import Derived.Test.YtogdckajgkncdaaRGcd
import Derived.Test.YtogdckajgkncdaaMathG
namespace Go.Proofs.Ytogdckajgkncdaa
open Go.RowKit

set_option maxHeartbeats 1000000 in
theorem dtrim_lim (B : Nat) (A : Option Addr) (n c : Nat) (l : List Nat) (w : World) (h : Lim B w A n c l) (hn : n ≤ 4294967296) :
    Calls Try.prog 31 #[.slice A n c] w fun e w' => ∃ k, e = .returned (.slice A k c) ∧ Lim B w A k c (limbs (val l)) ∧ w = w' := by
  obtain ⟨hl, hcap, hdg, hc⟩ := h
  have HL := Lib.hid hl
  clear hl
  go_enter Try.func31, Try.ntmps31
  go_wp2
  go_loop [0] (fun v => ∃ k : Nat, k ≤ n ∧ v = .slice A k c ∧ Hid (val (l.take k) = val l)) (fun v => match v with | .slice _ k _ => k | _ => 0)
  case atStart => exact ⟨n, Nat.le_refl _, rfl, by rw [List.take_of_length_le (by have := HL.out; omega)]; exact Lib.hid rfl⟩
  case round =>
    obtain ⟨k, hk, rfl, hv⟩ := hrel
    by_cases h0 : k = 0
    · subst h0
      go_wp2
      go_ret
      refine ⟨0, rfl, ?_, rfl⟩
      have := take_limbs hdg (k := 0) (Nat.zero_le _) hv.out (by omega)
      rw [← this]
      exact Lim.nil _ _ _ _
    · obtain ⟨j, hj⟩ : ∃ j, k = j + 1 := ⟨k - 1, by omega⟩
      subst hj
      obtain ⟨b, off, rfl, hb, hcell⟩ := hc (by omega)
      have h1 := hcell j (by omega)
      by_cases hz : l[j]?.getD 0 = 0
      · have hzb : (((l[j]?.getD 0 : Nat) : Int) == 0) = true := by simp [hz]
        have HZ := Lib.hid hz
        clear hz
        go_wp2
        exact ⟨⟨j, by omega, rfl, Lib.hid (val_take_zero HZ.out hv.out)⟩, Nat.lt_succ_self j⟩
      · have hzb : (((l[j]?.getD 0 : Nat) : Int) == 0) = false := by simp [hz]
        have HZ := Lib.hid hz
        clear hz
        go_wp2
        go_ret
        refine ⟨j + 1, rfl, ?_, rfl⟩
        have ht := take_limbs hdg (k := j + 1) (by have := HL.out; omega) hv.out (fun _ => by rw [Nat.add_sub_cancel]; exact HZ.out)
        rw [← ht]
        refine ⟨by rw [List.length_take, Nat.min_eq_left (by have := HL.out; omega)], by omega, hdg.take _, fun _ => ⟨b, off, rfl, hb, fun i hi => ?_⟩⟩
        rw [List.getElem?_take_of_lt hi]
        exact hcell i (by omega)

set_option maxHeartbeats 400000 in
theorem dlimb_any (B : Nat) (A : Option Addr) (n c k : Nat) (l : List Nat) (w : World) (h : Lim B w A n c l) (hn : n ≤ 9223372036854775807) (hk : k ≤ 9223372036854775807) :
    Calls Try.prog 46 #[.slice A n c, .int .i64 k] w fun e w' => e = .returned (.int .u64 ((l[k]?.getD 0 : Nat) : Int)) ∧ w = w' := by
  obtain ⟨hl, hcap, hdg, hc⟩ := h
  by_cases hlt : k < n
  · obtain ⟨b, off, rfl, hb, hcell⟩ := hc (by omega)
    have h1 := hcell k hlt
    clear hcell hc hdg
    have HL := Lib.hid hl
    clear hl
    go_enter Try.func46, Try.ntmps46
    go_wp2
    go_ret
    exact ⟨rfl, rfl⟩
  · have hz : l[k]?.getD 0 = 0 := by rw [List.getElem?_eq_none (by omega)]; rfl
    have HZ := Lib.hid hz
    clear hc hdg hl hz
    go_enter Try.func46, Try.ntmps46
    go_wp2
    go_ret
    exact ⟨by rw [HZ.out]; rfl, rfl⟩

set_option maxHeartbeats 400000 in
theorem dlimb_neg (A : Option Addr) (n c : Nat) (w : World) :
    Calls Try.prog 46 #[.slice A n c, .int .i64 (-1)] w fun e w' => e = .returned (.int .u64 0) ∧ w = w' := by
  go_enter Try.func46, Try.ntmps46
  go_wp2
  go_ret
  exact ⟨rfl, rfl⟩

set_option maxHeartbeats 400000 in
theorem isShift_yes (k : Nat) (w : World) (hk : k ≤ 20000) : Calls Try.prog 30 #[.int .i64 (k : Int)] w fun e w' => e = .returned (.bool true) ∧ w = w' := by
  go_enter Try.func30, Try.ntmps30
  go_wp2
  go_ret
  exact ⟨ret_bool (by simp; omega), rfl⟩

set_option maxHeartbeats 400000 in
theorem isShift_no (k : Int) (w : World) (hk : k < 0 ∨ 20000 < k) : Calls Try.prog 30 #[.int .i64 k] w fun e w' => e = .returned (.bool false) ∧ w = w' := by
  rcases hk with h | h
  · go_enter Try.func30, Try.ntmps30
    go_wp2
    go_ret
    exact ⟨rfl, rfl⟩
  · have h0 : 0 ≤ k := by omega
    go_enter Try.func30, Try.ntmps30
    go_wp2
    go_ret
    exact ⟨ret_bool (by simp; omega), rfl⟩

/-- Two digits' figures that do not meet, joined by an or. -/
theorem or_shl (x : Nat) {s c : Nat} (hs : s ≤ 64) (hc : c < 2 ^ s) : bits .or .u64 (IntKind.u64.wrap ((x : Int) * 2 ^ s)) (c : Int) = ((shlD x s + c : Nat) : Int) := by
  have hlt := shlD_add_lt x hs hc
  have e1 : IntKind.u64.wrap ((x : Int) * 2 ^ s) = ((shlD x s : Nat) : Int) := by
    rw [IntKind.wrap_u64, show (18446744073709551616 : Int) = (B64 : Int) from rfl]
    unfold shlD
    simp
  rw [e1]
  have key : (BitVec.ofInt 64 ((shlD x s : Nat) : Int) ||| BitVec.ofInt 64 (c : Int)).toNat = shlD x s + c := by
    have h1 : ((shlD x s : Nat) : Int) % ((2 ^ 64 : Nat) : Int) = ((shlD x s : Nat) : Int) := Int.emod_eq_of_lt (by omega) (by rw [← B64_two]; omega)
    have h2 : (c : Int) % ((2 ^ 64 : Nat) : Int) = (c : Int) := Int.emod_eq_of_lt (by omega) (by rw [← B64_two]; omega)
    rw [BitVec.toNat_or, BitVec.toNat_ofInt, BitVec.toNat_ofInt, h1, h2, Int.toNat_natCast, Int.toNat_natCast, shlD_mul x hs]
    exact (Nat.two_pow_add_eq_or_of_lt hc _).symm
  show IntKind.u64.wrap ((BitVec.ofInt 64 ((shlD x s : Nat) : Int) ||| BitVec.ofInt 64 (c : Int)).toNat : Nat) = _
  rw [key, IntKind.wrap_u64]
  unfold B64 at hlt
  omega

theorem shr_eq (x s : Nat) : (x : Int) / 2 ^ (64 - s) = ((shrD x s : Nat) : Int) := by
  unfold shrD
  simp

set_option maxRecDepth 100000 in
set_option maxHeartbeats 2000000 in
theorem raised_lim (A : Option Addr) (n c s : Nat) (l : List Nat) (w : World) (h : Lim w.heap.size w A n c l) (hn : n ≤ 2147483648) (hs : s < 64) :
    Calls Try.prog 33 #[.slice A n c, .int .i64 (s : Int)] w fun e w' => ∃ g cap R, e = .returned (.slice (some ⟨g, 0, none⟩) (n + 1) cap) ∧ w'.ownsRow w.heap.size 38 1 (.slice (some ⟨g, 0, none⟩) (n + 1) cap) (n + 1) (R.map encD) ∧ Dig R ∧ val R = val l * 2 ^ s ∧ Below w.heap.size w w' := by
  obtain ⟨i0, hi, hz0, hz1, hz2⟩ := info_parts info24
  have HL := Lib.hid h.1
  obtain ⟨t, ht⟩ : ∃ t, w.heap.size = t := ⟨_, rfl⟩
  have HT := Lib.hid ht
  rw [ht] at h ⊢
  clear ht
  go_enter Try.func33, Try.ntmps33
  go_wp2_with (at_make; refine wpList_make_own _ rfl _ _ 23 rfl t 38 i0 (.int .u64 0) 1 Try.underlying23 hi hz0 hz1 .i64 .i64 _ (n + 1) rfl rfl (by omega) (by rw [hz2]; omega) (by unfold maxLen; omega) (by rw [HT.out]; omega) ?_; intro w1 hown1 hgrow1)
  rw [HT.out] at hown1 ⊢
  go_loopw [5, 6, 15] (fun ov cv iv wr => ∃ (k cap cc g : Nat) (R : List Nat), k ≤ n ∧ iv = .int .i64 (k : Int) ∧ cv = .int .u64 (cc : Int) ∧ ov = .slice (some ⟨g, 0, none⟩) k cap ∧ RaisedAt l R k s cc ∧ wr.ownsRow t 38 1 (.slice (some ⟨g, 0, none⟩) k cap) k (R.map encD) ∧ Below t w wr) (fun _ _ iv _ => n - (intOf iv).toNat)
  case atStart => exact ⟨0, n + 1, 0, t, [], Nat.zero_le _, rfl, rfl, rfl, RaisedAt.start l s, hown1, (Below.refl t w).grown hgrow1 (by have := HT.out; omega) (fun k h => by cases h)⟩
  case round =>
    obtain ⟨k, cap, cc, g, R, hk, rfl, rfl, rfl, hR, hown, hbl⟩ := hrel
    have hgl := hown.lt g rfl
    have hcc : cc < 2 ^ s := hR.2.2.1
    have HCC := Lib.hid hcc
    have HR := Lib.hid hR
    have HO := Lib.hid hown
    clear hown hcc hR
    by_cases hlt : k < n
    · obtain ⟨b, off, rfl, hb, hcell⟩ := (h.below hbl).2.2.2 (by omega)
      have h1 := hcell k hlt
      have hs1 : (0 : Int) ≤ (s : Int) := by omega
      have hs2 : (s : Int) ≤ 64 := by omega
      have hs3 : (0 : Int) ≤ 64 - (s : Int) := by omega
      have hs4 : 64 - (s : Int) ≤ 64 := by omega
      clear hcell
      have HR' := Lib.hid (HR.out.step h.2.2.1 (by omega))
      generalize l[k]?.getD 0 = x at *
      have hor := or_shl x (by omega) HCC.out
      have HOR := Lib.hid hor
      clear hor
      go_wp2_with (at_builtin; refine wpList_append_lies _ rfl _ _ 23 rfl t 38 i0 (.int .u64 0) 1 8 Try.underlying23 hi hz0 hz1 hz2 rfl (by decide) _ _ _ rfl (HO.out.alloc _) ⟨wr.heap.size, 0, none⟩ 1 1 [.int .u64 (bits .or .u64 (IntKind.u64.wrap ((x : Int) * 2 ^ s)) (cc : Int))] rfl rfl (cell_one_new _ _ _) (by simp [Value.oneCell']) (by omega) (by unfold maxLen; omega) (by omega) (by simp; have := hbl.size; have := HT.out; omega) _ rfl ?_; intro g1 cap1 w1 hown1 hgrow1 hat hlt1)
      go_roundw
      case rel =>
        refine ⟨k + 1, cap1, shrD x s, g1, R ++ [shlD x s + cc], by omega, by go_num, ?_, rfl, HR'.out, ?_, ?_⟩
        · exact congrArg (Value.int .u64) (shr_eq x s)
        · rw [HOR.out] at hown1
          rw [List.map_append]
          exact hown1
        · exact (hbl.alloc (by have := hbl.size; have := HT.out; omega) _).grown hgrow1 (by simp; have := hbl.size; have := HT.out; omega) (fun q e => by injection (show some g = some q from e) with e1; omega)
      case measure => simp [intOf]; omega
    · obtain rfl : k = n := by omega
      have HD := Lib.hid (HR.out.done HL.out (by omega))
      go_wp2_with (at_builtin; refine wpList_append_lies _ rfl _ _ 23 rfl t 38 i0 (.int .u64 0) 1 8 Try.underlying23 hi hz0 hz1 hz2 rfl (by decide) _ _ _ rfl (HO.out.alloc _) ⟨wr.heap.size, 0, none⟩ 1 1 [.int .u64 (cc : Int)] rfl rfl (cell_one_new _ _ _) (by simp [Value.oneCell']) (by omega) (by unfold maxLen; omega) (by omega) (by simp; have := hbl.size; have := HT.out; omega) _ rfl ?_; intro g1 cap1 w1 hown1 hgrow1 hat hlt1)
      go_ret
      obtain ⟨d1, d2, d3⟩ := HD.out
      refine ⟨g1, cap1, R ++ [cc], rfl, ?_, d1, d3, ?_⟩
      · rw [List.map_append]
        exact hown1
      · exact (hbl.alloc (by have := hbl.size; have := HT.out; omega) _).grown hgrow1 (by simp; have := hbl.size; have := HT.out; omega) (fun q e => by injection (show some g = some q from e) with e1; omega)

end Go.Proofs.Ytogdckajgkncdaa
