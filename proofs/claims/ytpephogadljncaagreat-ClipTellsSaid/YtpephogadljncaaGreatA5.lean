/-
  Several texts in one: S1, S2, ZA, ZB, S3, S4, S5, S6, S7, S8.
-/
import Derived.Test.YtpephogadljncaaGreatA4
import Derived.Deep.RegionHeld3
import Derived.Lib.SliceRun
import Derived.Test.YtpephogadljncaaGreatA3
import Derived.Lib.AppendZerosOnto
import Derived.Deep.QuietTactic
import Derived.BigQuiet
import Derived.Deep.DeepCutAuto
import Derived.Deep.CutBlock
import Derived.WalkMore

/-
  The contracts of div's trim, limb, raised, isShift, and of the library's Clone.
-/
namespace Go.Proofs.YtpephogadljncaaGreat
set_option maxRecDepth 100000
set_option maxHeartbeats 2000000
open Go.RowKit

theorem dtrim_lim (B : Nat) (A : Option Addr) (n c : Nat) (l : List Nat) (w : World) (h : Lim B w A n c l) (hn : n ≤ 4294967296) :
    Calls Tryz.prog 96 #[.slice A n c] w fun e w' => ∃ k, e = .returned (.slice A k c) ∧ Lim B w A k c (limbs (val l)) ∧ w = w' := by
  obtain ⟨hl, hcap, hdg, hc⟩ := h
  have HL := Lib.hid hl
  clear hl
  go_enter Tryz.func96, Tryz.ntmps96
  go_wp2
  go_loop [0] (fun v => ∃ k : Nat, k ≤ n ∧ v = .slice A k c ∧ Hid (val (l.take k) = val l)) (fun v => match v with | .slice _ k _ => k | _ => 0)
  case atStart => exact ⟨n, Nat.le_refl _, rfl, by rw [List.take_of_length_le (by have := HL.out; omega)]; exact Lib.hid rfl⟩
  case round =>
    obtain ⟨k, hk, rfl, hv⟩ := hrel
    by_cases h0 : k = 0
    · subst h0
      go_wp2
      go_ret
      refine ⟨0, rfl, ?_, rfl⟩
      have := take_limbs hdg (k := 0) (Nat.zero_le _) hv.out (by omega)
      rw [← this]
      exact Lim.nil _ _ _ _
    · obtain ⟨j, hj⟩ : ∃ j, k = j + 1 := ⟨k - 1, by omega⟩
      subst hj
      obtain ⟨b, off, rfl, hb, hcell⟩ := hc (by omega)
      have h1 := hcell j (by omega)
      by_cases hz : l[j]?.getD 0 = 0
      · have hzb : (((l[j]?.getD 0 : Nat) : Int) == 0) = true := by simp [hz]
        have HZ := Lib.hid hz
        clear hz
        go_wp2
        exact ⟨⟨j, by omega, rfl, Lib.hid (val_take_zero HZ.out hv.out)⟩, Nat.lt_succ_self j⟩
      · have hzb : (((l[j]?.getD 0 : Nat) : Int) == 0) = false := by simp [hz]
        have HZ := Lib.hid hz
        clear hz
        go_wp2
        go_ret
        refine ⟨j + 1, rfl, ?_, rfl⟩
        have ht := take_limbs hdg (k := j + 1) (by have := HL.out; omega) hv.out (fun _ => by rw [Nat.add_sub_cancel]; exact HZ.out)
        rw [← ht]
        refine ⟨by rw [List.length_take, Nat.min_eq_left (by have := HL.out; omega)], by omega, hdg.take _, fun _ => ⟨b, off, rfl, hb, fun i hi => ?_⟩⟩
        rw [List.getElem?_take_of_lt hi]
        exact hcell i (by omega)

theorem dlimb_any (B : Nat) (A : Option Addr) (n c k : Nat) (l : List Nat) (w : World) (h : Lim B w A n c l) (hn : n ≤ 9223372036854775807) (hk : k ≤ 9223372036854775807) :
    Calls Tryz.prog 121 #[.slice A n c, .int .i64 k] w fun e w' => e = .returned (.int .u64 ((l[k]?.getD 0 : Nat) : Int)) ∧ w = w' := by
  obtain ⟨hl, hcap, hdg, hc⟩ := h
  by_cases hlt : k < n
  · obtain ⟨b, off, rfl, hb, hcell⟩ := hc (by omega)
    have h1 := hcell k hlt
    clear hcell hc hdg
    have HL := Lib.hid hl
    clear hl
    go_enter Tryz.func121, Tryz.ntmps121
    go_wp2
    go_ret
    exact ⟨rfl, rfl⟩
  · have hz : l[k]?.getD 0 = 0 := by rw [List.getElem?_eq_none (by omega)]; rfl
    have HZ := Lib.hid hz
    clear hc hdg hl hz
    go_enter Tryz.func121, Tryz.ntmps121
    go_wp2
    go_ret
    exact ⟨by rw [HZ.out]; rfl, rfl⟩

theorem dlimb_neg (A : Option Addr) (n c : Nat) (w : World) :
    Calls Tryz.prog 121 #[.slice A n c, .int .i64 (-1)] w fun e w' => e = .returned (.int .u64 0) ∧ w = w' := by
  go_enter Tryz.func121, Tryz.ntmps121
  go_wp2
  go_ret
  exact ⟨rfl, rfl⟩

theorem isShift_yes (k : Nat) (w : World) (hk : k ≤ 20000) : Calls Tryz.prog 114 #[.int .i64 (k : Int)] w fun e w' => e = .returned (.bool true) ∧ w = w' := by
  go_enter Tryz.func114, Tryz.ntmps114
  go_wp2
  go_ret
  exact ⟨ret_bool (by simp; omega), rfl⟩

theorem isShift_no (k : Int) (w : World) (hk : k < 0 ∨ 20000 < k) : Calls Tryz.prog 114 #[.int .i64 k] w fun e w' => e = .returned (.bool false) ∧ w = w' := by
  rcases hk with h | h
  · go_enter Tryz.func114, Tryz.ntmps114
    go_wp2
    go_ret
    exact ⟨rfl, rfl⟩
  · have h0 : 0 ≤ k := by omega
    go_enter Tryz.func114, Tryz.ntmps114
    go_wp2
    go_ret
    exact ⟨ret_bool (by simp; omega), rfl⟩

/-- Two digits' figures that do not meet, joined by an or. -/
theorem or_shl (x : Nat) {s c : Nat} (hs : s ≤ 64) (hc : c < 2 ^ s) : bits .or .u64 (IntKind.u64.wrap ((x : Int) * 2 ^ s)) (c : Int) = ((shlD x s + c : Nat) : Int) := by
  have hlt := shlD_add_lt x hs hc
  have e1 : IntKind.u64.wrap ((x : Int) * 2 ^ s) = ((shlD x s : Nat) : Int) := by
    rw [IntKind.wrap_u64, show (18446744073709551616 : Int) = (B64 : Int) from rfl]
    unfold shlD
    simp
  rw [e1]
  have key : (BitVec.ofInt 64 ((shlD x s : Nat) : Int) ||| BitVec.ofInt 64 (c : Int)).toNat = shlD x s + c := by
    have h1 : ((shlD x s : Nat) : Int) % ((2 ^ 64 : Nat) : Int) = ((shlD x s : Nat) : Int) := Int.emod_eq_of_lt (by omega) (by rw [← B64_two]; omega)
    have h2 : (c : Int) % ((2 ^ 64 : Nat) : Int) = (c : Int) := Int.emod_eq_of_lt (by omega) (by rw [← B64_two]; omega)
    rw [BitVec.toNat_or, BitVec.toNat_ofInt, BitVec.toNat_ofInt, h1, h2, Int.toNat_natCast, Int.toNat_natCast, shlD_mul x hs]
    exact (Nat.two_pow_add_eq_or_of_lt hc _).symm
  show IntKind.u64.wrap ((BitVec.ofInt 64 ((shlD x s : Nat) : Int) ||| BitVec.ofInt 64 (c : Int)).toNat : Nat) = _
  rw [key, IntKind.wrap_u64]
  unfold B64 at hlt
  omega

theorem shr_eq (x s : Nat) : (x : Int) / 2 ^ (64 - s) = ((shrD x s : Nat) : Int) := by
  unfold shrD
  simp

theorem raised_lim (A : Option Addr) (n c s : Nat) (l : List Nat) (w : World) (h : Lim w.heap.size w A n c l) (hn : n ≤ 2147483648) (hs : s < 64) :
    Calls Tryz.prog 99 #[.slice A n c, .int .i64 (s : Int)] w fun e w' => ∃ g cap R, e = .returned (.slice (some ⟨g, 0, none⟩) (n + 1) cap) ∧ w'.ownsRow w.heap.size 37 1 (.slice (some ⟨g, 0, none⟩) (n + 1) cap) (n + 1) (R.map encD) ∧ Dig R ∧ val R = val l * 2 ^ s ∧ Below w.heap.size w w' := by
  obtain ⟨i0, hi, hz0, hz1, hz2⟩ := info_parts info24
  have HL := Lib.hid h.1
  obtain ⟨t, ht⟩ : ∃ t, w.heap.size = t := ⟨_, rfl⟩
  have HT := Lib.hid ht
  rw [ht] at h ⊢
  clear ht
  go_enter Tryz.func99, Tryz.ntmps99
  go_wp2_with (at_make; refine wpList_make_own _ rfl _ _ 24 rfl t 37 i0 (.int .u64 0) 1 Tryz.underlying24 hi hz0 hz1 .i64 .i64 _ (n + 1) rfl rfl (by omega) (by rw [hz2]; omega) (by unfold maxLen; omega) (by rw [HT.out]; omega) ?_; intro w1 hown1 hgrow1)
  rw [HT.out] at hown1 ⊢
  go_loopw [5, 6, 15] (fun ov cv iv wr => ∃ (k cap cc g : Nat) (R : List Nat), k ≤ n ∧ iv = .int .i64 (k : Int) ∧ cv = .int .u64 (cc : Int) ∧ ov = .slice (some ⟨g, 0, none⟩) k cap ∧ RaisedAt l R k s cc ∧ wr.ownsRow t 37 1 (.slice (some ⟨g, 0, none⟩) k cap) k (R.map encD) ∧ Below t w wr) (fun _ _ iv _ => n - (intOf iv).toNat)
  case atStart => exact ⟨0, n + 1, 0, t, [], Nat.zero_le _, rfl, rfl, rfl, RaisedAt.start l s, hown1, (Below.refl t w).grown hgrow1 (by have := HT.out; omega) (fun k h => by cases h)⟩
  case round =>
    obtain ⟨k, cap, cc, g, R, hk, rfl, rfl, rfl, hR, hown, hbl⟩ := hrel
    have hgl := hown.lt g rfl
    have hcc : cc < 2 ^ s := hR.2.2.1
    have HCC := Lib.hid hcc
    have HR := Lib.hid hR
    have HO := Lib.hid hown
    clear hown hcc hR
    by_cases hlt : k < n
    · obtain ⟨b, off, rfl, hb, hcell⟩ := (h.below hbl).2.2.2 (by omega)
      have h1 := hcell k hlt
      have hs1 : (0 : Int) ≤ (s : Int) := by omega
      have hs2 : (s : Int) ≤ 64 := by omega
      have hs3 : (0 : Int) ≤ 64 - (s : Int) := by omega
      have hs4 : 64 - (s : Int) ≤ 64 := by omega
      clear hcell
      have HR' := Lib.hid (HR.out.step h.2.2.1 (by omega))
      generalize l[k]?.getD 0 = x at *
      have hor := or_shl x (by omega) HCC.out
      have HOR := Lib.hid hor
      clear hor
      go_wp2_with (at_builtin; refine wpList_append_lies _ rfl _ _ 24 rfl t 37 i0 (.int .u64 0) 1 8 Tryz.underlying24 hi hz0 hz1 hz2 rfl (by decide) _ _ _ rfl (HO.out.alloc _) ⟨wr.heap.size, 0, none⟩ 1 1 [.int .u64 (bits .or .u64 (IntKind.u64.wrap ((x : Int) * 2 ^ s)) (cc : Int))] rfl rfl (cell_one_new _ _ _) (by simp [Value.oneCell']) (by omega) (by unfold maxLen; omega) (by omega) (by simp; have := hbl.size; have := HT.out; omega) _ rfl ?_; intro g1 cap1 w1 hown1 hgrow1 hat hlt1)
      go_roundw
      case rel =>
        refine ⟨k + 1, cap1, shrD x s, g1, R ++ [shlD x s + cc], by omega, by go_num, ?_, rfl, HR'.out, ?_, ?_⟩
        · exact congrArg (Value.int .u64) (shr_eq x s)
        · rw [HOR.out] at hown1
          rw [List.map_append]
          exact hown1
        · exact (hbl.alloc (by have := hbl.size; have := HT.out; omega) _).grown hgrow1 (by simp; have := hbl.size; have := HT.out; omega) (fun q e => by injection (show some g = some q from e) with e1; omega)
      case measure => simp [intOf]; omega
    · obtain rfl : k = n := by omega
      have HD := Lib.hid (HR.out.done HL.out (by omega))
      go_wp2_with (at_builtin; refine wpList_append_lies _ rfl _ _ 24 rfl t 37 i0 (.int .u64 0) 1 8 Tryz.underlying24 hi hz0 hz1 hz2 rfl (by decide) _ _ _ rfl (HO.out.alloc _) ⟨wr.heap.size, 0, none⟩ 1 1 [.int .u64 (cc : Int)] rfl rfl (cell_one_new _ _ _) (by simp [Value.oneCell']) (by omega) (by unfold maxLen; omega) (by omega) (by simp; have := hbl.size; have := HT.out; omega) _ rfl ?_; intro g1 cap1 w1 hown1 hgrow1 hat hlt1)
      go_ret
      obtain ⟨d1, d2, d3⟩ := HD.out
      refine ⟨g1, cap1, R ++ [cc], rfl, ?_, d1, d3, ?_⟩
      · rw [List.map_append]
        exact hown1
      · exact (hbl.alloc (by have := hbl.size; have := HT.out; omega) _).grown hgrow1 (by simp; have := hbl.size; have := HT.out; omega) (fun q e => by injection (show some g = some q from e) with e1; omega)

end Go.Proofs.YtpephogadljncaaGreat

/-
  The contracts of div's lowered, and of the library's Clone and LeadingZeros64.
-/
namespace Go.Proofs.YtpephogadljncaaGreat
set_option maxRecDepth 100000
set_option maxHeartbeats 2000000
open Go.RowKit

theorem or_low {x : Nat} (hx : x < B64) (y : Nat) {s : Nat} (hs : s ≤ 64) : bits .or .u64 ((x : Int) / 2 ^ s) (IntKind.u64.wrap ((y : Int) * 2 ^ (64 - s))) = ((x / 2 ^ s + shlD y (64 - s) : Nat) : Int) := by
  have h1 : x / 2 ^ s < 2 ^ (64 - s) := by
    rw [Nat.div_lt_iff_lt_mul (Nat.pow_pos (by omega)), Nat.mul_comm, B64_parts hs]; exact hx
  have h2 := or_shl y (s := 64 - s) (by omega) h1
  rw [Nat.add_comm, ← h2]
  show IntKind.u64.wrap ((BitVec.ofInt 64 _ ||| BitVec.ofInt 64 _).toNat : Nat) = IntKind.u64.wrap ((BitVec.ofInt 64 _ ||| BitVec.ofInt 64 _).toNat : Nat)
  rw [BitVec.or_comm]
  simp

theorem lowered_lim (A : Option Addr) (n c s : Nat) (l : List Nat) (w : World) (h : Lim w.heap.size w A n c l) (hn : n ≤ 2147483648) (hs : s < 64) :
    Calls Tryz.prog 101 #[.slice A n c, .int .i64 (s : Int)] w fun e w' => ∃ g cap, e = .returned (.slice (some ⟨g, 0, none⟩) n cap) ∧ w'.ownsRow w.heap.size 37 1 (.slice (some ⟨g, 0, none⟩) n cap) n ((digs (val l / 2 ^ s) n).map encD) ∧ Below w.heap.size w w' := by
  obtain ⟨i0, hi, hz0, hz1, hz2⟩ := info_parts info24
  have HL := Lib.hid h.1
  obtain ⟨t, ht⟩ : ∃ t, w.heap.size = t := ⟨_, rfl⟩
  have HT := Lib.hid ht
  rw [ht] at h ⊢
  clear ht
  go_enter Tryz.func101, Tryz.ntmps101
  go_wp2_with (at_make; refine wpList_make_own _ rfl _ _ 24 rfl t 37 i0 (.int .u64 0) 1 Tryz.underlying24 hi hz0 hz1 .i64 .i64 _ n rfl rfl (by omega) (by rw [hz2]; omega) (by unfold maxLen; omega) (by rw [HT.out]; omega) ?_; intro w1 hown1 hgrow1)
  rw [HT.out] at hown1 ⊢
  go_loopw [5, 13] (fun ov iv wr => ∃ (k cap g : Nat), k ≤ n ∧ iv = .int .i64 (k : Int) ∧ ov = .slice (some ⟨g, 0, none⟩) k cap ∧ wr.ownsRow t 37 1 (.slice (some ⟨g, 0, none⟩) k cap) k ((digs (val l / 2 ^ s) k).map encD) ∧ Below t w wr) (fun _ iv _ => n - (intOf iv).toNat)
  case atStart => exact ⟨0, n, t, Nat.zero_le _, rfl, rfl, hown1, (Below.refl t w).grown hgrow1 (by have := HT.out; omega) (fun k h => by cases h)⟩
  case round =>
    obtain ⟨k, cap, g, hk, rfl, rfl, hown, hbl⟩ := hrel
    have hgl := hown.lt g rfl
    have HO := Lib.hid hown
    clear hown
    by_cases hlt : k < n
    · have hlim := h.below hbl
      obtain ⟨b, off, rfl, hb, hcell⟩ := hlim.2.2.2 (by omega)
      have h1 := hcell k hlt
      have hs1 : (0 : Int) ≤ (s : Int) := by omega
      have hs2 : (s : Int) ≤ 64 := by omega
      have hs3 : (0 : Int) ≤ 64 - (s : Int) := by omega
      have hs4 : 64 - (s : Int) ≤ 64 := by omega
      have hw1 : IntKind.i64.wrap ((k : Int) + 1) = ((k + 1 : Nat) : Int) := by rw [IntWalk.i64_in _ (by omega)]; omega
      have hw2 : IntKind.i64.wrap (64 - (s : Int)) = 64 - (s : Int) := IntWalk.i64_in _ (by omega)
      clear hcell
      have HD := Lib.hid (low_row h.2.2.1 hs k)
      have hx : l[k]?.getD 0 < B64 := h.2.2.1.get k
      have hor := or_low hx (l[k + 1]?.getD 0) (s := s) (by omega)
      have HOR := Lib.hid hor
      clear hor
      have hc := dlimb_any t (some ⟨b, off, none⟩) n c (k + 1) l wr.drew hlim (by omega) (by omega)
      have HC := Lib.hid hc
      clear hc
      go_wp2_with fail
      go_region_held3 (fun w' => True) (trivial) (first
        | (go_at_call 121; refine HC.out.mono ?_; rintro e w' ⟨rfl, rfl⟩)
        | (refine step_append_lies _ rfl _ _ 24 rfl t 37 i0 (.int .u64 0) 1 8 Tryz.underlying24 hi hz0 hz1 hz2 rfl (by decide) _ _ _ rfl ((HO.out.alloc _).drew) ⟨wr.heap.size, 0, none⟩ 1 1 [.int .u64 (bits .or .u64 (((l[k]?.getD 0 : Nat) : Int) / 2 ^ s) (IntKind.u64.wrap (((l[k + 1]?.getD 0 : Nat) : Int) * 2 ^ (64 - s))))] rfl rfl (cell_one_new _ _ _) (by simp [Value.oneCell']) (by omega) (by unfold maxLen; omega) (by omega) (by simp; have := hbl.size; have := HT.out; omega) _ rfl ?_; intro g1 cap1 w1 hown1 hgrow1 hat hlt1))
      clear hw1 hw2 hs1 hs2 hs3 hs4
      go_wp2
      go_roundw
      case rel =>
        refine ⟨k + 1, cap1, g1, by omega, by go_num, rfl, ?_, ?_⟩
        · rw [HOR.out, HD.out] at hown1
          rw [digs_succ, List.map_append]
          exact hown1
        · exact (below_drewN (hbl.alloc (by have := hbl.size; have := HT.out; omega) _) 1).grown hgrow1 (by simp; have := hbl.size; have := HT.out; omega) (fun q e => by injection (show some g = some q from e) with e1; omega)
      case measure => simp [intOf]; omega
    · obtain rfl : k = n := by omega
      go_wp2
      go_ret
      exact ⟨g, cap, rfl, HO.out, hbl⟩

/-- A number of digits, copied into new memory. -/
theorem append_src {w : World} {b off n c : Nat} {l : List Nat} (h : Lim w.heap.size w (some ⟨b, off, none⟩) n c l) (h0 : 0 < n) (o : Obj) : ∀ (j : Nat) u, (l.map encD)[j]? = some u → (w.alloc o).cell? ((⟨b, off, none⟩ : Addr).add j) = some u := by
  intro j u hu
  obtain ⟨b', off', e, hb, hcell⟩ := h.2.2.2 h0
  injection e with e
  injection e with e1 e2
  subst e1; subst e2
  have hj : j < n := by
    have := (List.getElem?_eq_some_iff.1 hu).1
    rw [List.length_map] at this
    have := h.1; omega
  have e1 : ((⟨b, off, none⟩ : Addr).add j) = ⟨b, off + j, none⟩ := by unfold Addr.add; split <;> simp_all
  rw [e1, World.cell?_alloc_lt _ _ _ hb, hcell j hj]
  rw [List.getElem?_map] at hu
  have hjl : j < l.length := by have := h.1; omega
  rw [List.getElem?_eq_getElem hjl] at hu ⊢
  exact hu

theorem clone_F {w : World} {A : Option Addr} {n c x : Nat} (h : Num w A n c x) (hn : n ≤ 2147483648) : Calls Tryz.prog 97 #[.slice A n c] w (GotNF w x) := by
  obtain ⟨i0, hi, hz0, hz1, hz2⟩ := info_parts info24
  have q23 : ∀ (w : World) (a : Option Addr) (n c n' c' : Nat), (binOp .eql 24 (.slice a n c) (.slice none n' c')).run Tryz.prog w = .ok (.bool a.isNone) w := fun w a n c n' c' => Lib.run_eql_slice_nil w _ _ a n c n' c' Tryz.underlying24
  have HL := Lib.hid h.len
  by_cases h0 : n = 0
  · subst h0
    have hx : x = 0 := by
      have h2 := val_limbs x
      rw [List.eq_nil_of_length_eq_zero HL.out.symm] at h2
      exact h2.symm
    subst hx
    cases A with
    | none =>
      have e : GotNF w 0 (.returned (.slice none 0 0)) w := ⟨_, _, _, rfl, num_empty _ _ _, Below.refl _ _, fun h => by omega⟩
      have HE := Lib.hid e
      clear e
      go_enter Tryz.func97, Tryz.ntmps97
      go_wp2
      go_ret
      exact HE.out
    | some ad =>
      go_enter Tryz.func97, Tryz.ntmps97
      go_wp2_with (at_builtin; refine wpList_append_own _ rfl _ _ 24 rfl w.heap.size 37 i0 (.int .u64 0) 1 8 Tryz.underlying24 hi hz0 hz1 hz2 rfl (by decide) _ _ _ rfl (own_empty w w.heap.size (Nat.le_refl _)) ad 0 _ [] rfl rfl (by intro j u h; simp at h) (by simp) (by unfold maxLen; omega) (by omega) (by simp) ?_; intro v' w1 hown1 hgrow1 _)
      go_ret
      obtain ⟨A', c', rfl, hl'⟩ := isL_of_own (l := []) hown1 Dig.nil
      exact ⟨_, _, _, rfl, num_empty _ _ _, ((Below.refl _ w).alloc (Nat.le_refl _) _).grown hgrow1 (by simp) (fun q e => by injection (show some w.heap.size = some q from e) with e1; omega), fun h => by simp at h⟩
  · obtain ⟨b, off, rfl, hb, _⟩ := h.2.2.2 (by omega)
    have HC := Lib.hid (append_src h (by omega) (.cells #[] 37))
    go_enter Tryz.func97, Tryz.ntmps97
    go_wp2_with (at_builtin; refine wpList_append_own _ rfl _ _ 24 rfl w.heap.size 37 i0 (.int .u64 0) 1 8 Tryz.underlying24 hi hz0 hz1 hz2 rfl (by decide) _ _ _ rfl (own_empty w w.heap.size (Nat.le_refl _)) ⟨b, off, none⟩ n _ ((limbs x).map encD) rfl (by have := HL.out; simp only [List.length_map]; omega) HC.out (encD_one _) (by unfold maxLen; omega) (by omega) (by simp) ?_; intro v' w1 hown1 hgrow1 _)
    go_ret
    rw [List.nil_append] at hown1
    obtain ⟨A', c', rfl, hl'⟩ := isL_of_own hown1 (limbs_dig x)
    exact ⟨_, _, _, rfl, hl', ((Below.refl _ w).alloc (Nat.le_refl _) _).grown hgrow1 (by simp) (fun q e => by injection (show some w.heap.size = some q from e) with e1; omega), fresh_of_own hown1⟩

theorem lead_any (x : Nat) (w : World) (hx : x < B64) : Calls Tryz.prog 98 #[.int .u64 (x : Int)] w fun e w' => e = .returned (.int .i64 ((64 - blen x : Nat) : Int)) ∧ w = w' := by
  have hb : blen x ≤ 64 := blen_le (by rw [← B64_two]; exact hx)
  go_enter Tryz.func98, Tryz.ntmps98
  go_wp2_with (go_at_call 117; refine (len64_any _ _ hx).mono ?_; rintro e w' ⟨rfl, rfl⟩)
  go_ret
  exact ⟨ret_i64 (by omega), rfl⟩

end Go.Proofs.YtpephogadljncaaGreat

/-
  The contracts of zed: signed, Right, Of, Int, Neg, Cmp.
-/
namespace Go.Proofs.YtpephogadljncaaGreat
set_option maxRecDepth 100000
set_option maxHeartbeats 2000000
open Go.RowKit
set_option linter.unusedVariables false

theorem signed_N {w : World} {A : Option Addr} {n c x : Nat} (b : Bool) (ha : Num w A n c x) (hn : n ≤ 1000000) : Calls Tryz.prog 43 #[.bool b, .slice A n c] w (GotZ w (sgn b x)) := by
  have hl := ha.len
  by_cases h0 : n = 0
  · subst h0
    have hx : x = 0 := by
      have h2 := val_limbs x
      rw [List.eq_nil_of_length_eq_zero hl.symm] at h2
      exact h2.symm
    subst hx
    have hz : Zn w false A 0 c (sgn b 0) := by
      refine ⟨by rw [sgn_abs]; exact ha, ?_⟩
      unfold sgn; split <;> rfl
    clear hl
    cases b
    all_goals
      go_enter Tryz.func43, Tryz.ntmps43
      go_wp2_with fail
      refine bodyPost_ret (v := .agg #[.bool false, .slice A 0 c]) (by simp [results, Tryz.results43, go_sem]) rfl ⟨_, _, _, _, rfl, hz.on ?_, ?_⟩
      all_goals exact (Below.refl _ w).alloc (Nat.le_refl _) _
  · have hx : x ≠ 0 := fun h => by rw [h, limbs_zero] at hl; simp at hl; omega
    have hn0 : (0 : Int) < (n : Int) := by omega
    have hz : Zn w b A n c (sgn b x) := by
      refine ⟨by rw [sgn_abs]; exact ha, ?_⟩
      unfold sgn
      cases b
      · simp
      · simp; omega
    clear hl
    cases b
    all_goals
      go_enter Tryz.func43, Tryz.ntmps43
      go_wp2_with fail
    · refine bodyPost_ret (v := .agg #[.bool false, .slice A n c]) (by simp [results, Tryz.results43, go_sem]) rfl ⟨_, _, _, _, rfl, hz.on ?_, ?_⟩
      all_goals exact (Below.refl _ w).alloc (Nat.le_refl _) _
    · refine bodyPost_ret (v := .agg #[.bool true, .slice A n c]) (by simp [results, Tryz.results43, go_sem]; omega) rfl ⟨_, _, _, _, rfl, hz.on ?_, ?_⟩
      all_goals exact (Below.refl _ w).alloc (Nat.le_refl _) _

theorem zof_N (w : World) (z : Int) (h : I64 z) : Calls Tryz.prog 19 #[.int .i64 z] w (GotZ w z) := by
  have hx := h.abs
  obtain ⟨x, hxe⟩ : ∃ x, z.natAbs = x := ⟨_, rfl⟩
  rw [hxe] at hx
  obtain ⟨W, hW⟩ : ∃ W, w.alloc (.cells #[.bool false, .slice none 0 0] 42) = W := ⟨_, rfl⟩
  have hB : Below w.heap.size w W := by rw [← hW]; exact below_one w _
  have hsz : W.heap.size = w.heap.size + 1 := by rw [← hW]; simp
  have c1 : W.cell? ⟨w.heap.size, 0, none⟩ = some (.bool false) := by rw [← hW]; simp [go_sem]
  have c2 : W.cell? ⟨w.heap.size, 1, none⟩ = some (.slice none 0 0) := by rw [← hW]; simp [go_sem]
  have c3 : W.frozen? ⟨w.heap.size, 0, none⟩ = false := by rw [← hW]; simp [go_sem]
  have c4 : W.frozen? ⟨w.heap.size, 1, none⟩ = false := by rw [← hW]; simp [go_sem]
  have HSZ := Lib.hid hsz
  clear hsz
  have hl := len_one hx
  by_cases hz : z < 0
  · have hs : sgn true x = z := by rw [← hxe]; exact sgn_of (by simp [hz])
    have e1 : IntKind.u64.wrap (-IntKind.u64.wrap z) = (x : Int) := by
      unfold I64 at h; rw [IntKind.wrap_u64, IntKind.wrap_u64]; omega
    have HS := Lib.hid hs
    clear hs hxe
    go_enter Tryz.func19, Tryz.ntmps19
    go_wp2_with fail
    clear hW e1
    refine (of_N W x hx).mono ?_
    rintro e w1 ⟨A1, n1, k1, rfl, hm, b1⟩
    go_wp2_with fail
    refine (signed_N _ hm (by rw [hm.len]; omega)).mono ?_
    rintro e w2 ⟨b2, A2, n2, k2, rfl, hz2, b2'⟩
    have b12 := b1.trans (b2'.mono b1.size)
    have hsz := HSZ.out
    have g1 := (b12.cell (p := ⟨w.heap.size, 0, none⟩) (by simp; omega)).trans c1
    have g2 := (b12.cell (p := ⟨w.heap.size, 1, none⟩) (by simp; omega)).trans c2
    have g3 := (b12.frozen (p := ⟨w.heap.size, 0, none⟩) (by simp; omega)).trans c3
    have g4 := (b12.frozen (p := ⟨w.heap.size, 1, none⟩) (by simp; omega)).trans c4
    rw [HS.out] at hz2
    have HZ := Lib.hid (hz2.stored g1 g2)
    have HB := hB.trans (b12.mono hB.size)
    clear hsz b12 b1 b2' hz2 hm
    go_wp2_with fail
    refine bodyPost_ret (v := .agg #[.bool b2, .slice A2 n2 k2]) (by simp [results, Tryz.results19, go_sem, g1, g2]) rfl ⟨_, _, _, _, rfl, HZ.out, ?_⟩
    exact (HB.setCell (p := ⟨w.heap.size, 0, none⟩) (Nat.le_refl _) _).setCell (p := ⟨w.heap.size, 1, none⟩) (Nat.le_refl _) _
  · have hs : sgn false x = z := by rw [← hxe]; exact sgn_of (by simp [hz])
    have e1 : IntKind.u64.wrap z = (x : Int) := by
      unfold I64 at h; rw [IntKind.wrap_u64]; omega
    have HS := Lib.hid hs
    clear hs hxe
    go_enter Tryz.func19, Tryz.ntmps19
    go_wp2_with fail
    clear hW e1
    refine (of_N W x hx).mono ?_
    rintro e w1 ⟨A1, n1, k1, rfl, hm, b1⟩
    go_wp2_with fail
    refine (signed_N _ hm (by rw [hm.len]; omega)).mono ?_
    rintro e w2 ⟨b2, A2, n2, k2, rfl, hz2, b2'⟩
    have b12 := b1.trans (b2'.mono b1.size)
    have hsz := HSZ.out
    have g1 := (b12.cell (p := ⟨w.heap.size, 0, none⟩) (by simp; omega)).trans c1
    have g2 := (b12.cell (p := ⟨w.heap.size, 1, none⟩) (by simp; omega)).trans c2
    have g3 := (b12.frozen (p := ⟨w.heap.size, 0, none⟩) (by simp; omega)).trans c3
    have g4 := (b12.frozen (p := ⟨w.heap.size, 1, none⟩) (by simp; omega)).trans c4
    rw [HS.out] at hz2
    have HZ := Lib.hid (hz2.stored g1 g2)
    have HB := hB.trans (b12.mono hB.size)
    clear hsz b12 b1 b2' hz2 hm
    go_wp2_with fail
    refine bodyPost_ret (v := .agg #[.bool b2, .slice A2 n2 k2]) (by simp [results, Tryz.results19, go_sem, g1, g2]) rfl ⟨_, _, _, _, rfl, HZ.out, ?_⟩
    exact (HB.setCell (p := ⟨w.heap.size, 0, none⟩) (Nat.le_refl _) _).setCell (p := ⟨w.heap.size, 1, none⟩) (Nat.le_refl _) _

theorem zint_yes {w : World} {b : Bool} {A : Option Addr} {n c : Nat} {z : Int} (ha : Zn w b A n c z) (h : I64 z) :
    Calls Tryz.prog 66 #[.agg #[.bool b, .slice A n c]] w (GotV w (.tuple #[.int .i64 z, .bool true])) := by
  have hx := h.abs
  obtain ⟨x, hxe⟩ : ∃ x, z.natAbs = x := ⟨_, rfl⟩
  rw [hxe] at hx
  have hB := below_one w (.cells #[.bool b, .slice A n c] 42)
  have ha' := ha.1.on hB
  rw [hxe] at ha'
  have hl := len_one hx
  have hn : n ≤ 9223372036854775807 := by rw [ha'.len]; omega
  have HC := Lib.hid (small_any A n c x _ ha' hn hx)
  have hs := ha.2
  by_cases hz : z < 0
  · have hbt := abs_sgn hs hz
    subst hbt
    have e2 : (x : Int) ≤ 9223372036854775808 := by unfold I64 at h; omega
    have e3 : IntKind.i64.wrap (IntKind.u64.wrap (-(x : Int))) = z := by
      rw [IntKind.wrap_u64, IntKind.wrap_i64]; omega
    have E3 := Lib.hid e3
    clear hxe hs ha hz
    go_enter Tryz.func66, Tryz.ntmps66
    go_wp2_with fail
    refine HC.out.mono ?_
    rintro e w' ⟨rfl, rfl⟩
    go_wp2_with fail
    go_ret2
    exact ⟨rfl, hB⟩
  · have hbt := abs_sgn' hs hz
    subst hbt
    have e2 : (x : Int) < 9223372036854775808 := by unfold I64 at h; omega
    have e3 : IntKind.i64.wrap (x : Int) = z := by rw [IntWalk.i64_in _ (by omega)]; omega
    clear hxe hs ha hz
    go_enter Tryz.func66, Tryz.ntmps66
    go_wp2_with fail
    refine HC.out.mono ?_
    rintro e w' ⟨rfl, rfl⟩
    go_wp2_with fail
    go_ret2
    exact ⟨rfl, hB⟩

theorem zint_no {w : World} {b : Bool} {A : Option Addr} {n c : Nat} {z : Int} (ha : Zn w b A n c z) (hx : (limbs z.natAbs).length ≤ 300) (h : ¬ I64 z) :
    Calls Tryz.prog 66 #[.agg #[.bool b, .slice A n c]] w (GotV w (.tuple #[.int .i64 0, .bool false])) := by
  obtain ⟨x, hxe⟩ : ∃ x, z.natAbs = x := ⟨_, rfl⟩
  rw [hxe] at hx
  have hB := below_one w (.cells #[.bool b, .slice A n c] 42)
  have ha' := ha.1.on hB
  rw [hxe] at ha'
  have hn : n ≤ 9223372036854775807 := by rw [ha'.len]; omega
  have hs := ha.2
  rcases Nat.lt_or_ge x B64 with hlt | hge
  · have HC := Lib.hid (small_any A n c x _ ha' hn hlt)
    by_cases hz : z < 0
    · have hbt := abs_sgn hs hz
      subst hbt
      have e2 : ¬ (x : Int) ≤ 9223372036854775808 := by unfold I64 at h; omega
      clear hxe hs ha hz
      go_enter Tryz.func66, Tryz.ntmps66
      go_wp2_with fail
      refine HC.out.mono ?_
      rintro e w' ⟨rfl, rfl⟩
      go_wp2_with fail
      go_ret2
      exact ⟨rfl, hB⟩
    · have hbt := abs_sgn' hs hz
      subst hbt
      have e2 : decide ((x : Int) < 9223372036854775808) = false := by simp; unfold I64 at h; omega
      clear hxe hs ha hz hn hlt
      go_enter Tryz.func66, Tryz.ntmps66
      go_wp2_with fail
      refine HC.out.mono ?_
      rintro e w' ⟨rfl, rfl⟩
      go_wp2_with fail
      go_ret2
      exact ⟨rfl, hB⟩
  · have HC := Lib.hid (small_great A n c x _ ha' hn hge)
    clear hxe hs ha
    go_enter Tryz.func66, Tryz.ntmps66
    go_wp2_with fail
    refine HC.out.mono ?_
    rintro e w' ⟨rfl, rfl⟩
    go_wp2_with fail
    go_ret2
    exact ⟨rfl, hB⟩

end Go.Proofs.YtpephogadljncaaGreat

/-
  The contracts of zed: Mul, Add.
-/
namespace Go.Proofs.YtpephogadljncaaGreat
set_option maxRecDepth 100000
set_option maxHeartbeats 2000000
open Go.RowKit
set_option linter.unusedVariables false

theorem zadd_same {w : World} {b : Bool} {A B : Option Addr} {n c m d : Nat} {z z' : Int} (ha : Zn w b A n c z) (hb : Zn w b B m d z') (hx : (limbs z.natAbs).length ≤ 1000) (hy : (limbs z'.natAbs).length ≤ 1000) :
    Calls Tryz.prog 18 #[.agg #[.bool b, .slice A n c], .agg #[.bool b, .slice B m d]] w (GotZ w (z + z')) := by
  obtain ⟨W, hW⟩ : ∃ W, ((w.alloc (.cells #[.bool b, .slice A n c] 42)).alloc (.cells #[.bool b, .slice B m d] 42)).alloc (.cells #[.bool false, .slice none 0 0] 42) = W := ⟨_, rfl⟩
  have X := box3 hW
  have hBd : Below w.heap.size w W.drew := below_drewN X.hB 1
  have ha' : Num W.drew A n c z.natAbs := ha.1.on hBd
  have hb' : Num W.drew B m d z'.natAbs := hb.1.on hBd
  have HS := Lib.hid (sgn_same ha.2 hb.2)
  have hl := limbs_length_add hx hy
  have hcall : Calls Tryz.prog 27 #[.slice A n c, .slice B m d] W.drew fun e w' => ∃ A1 n1 c1, e = .returned (.slice A1 n1 c1) ∧ Num w' A1 n1 c1 (z.natAbs + z'.natAbs) ∧ Below W.heap.size W w' := (add_N ha' hb' (by omega) (by omega)).mono fun _ _ ⟨A1, n1, c1, he, hm, hb⟩ => ⟨A1, n1, c1, he, hm, below_undrew hb⟩
  have HC := Lib.hid hcall
  have hc1 := X.c1
  have hc2 := X.c2
  have hc3 := X.c3
  have hc4 := X.c4
  clear hcall
  go_enter Tryz.func18, Tryz.ntmps18
  go_wp2_with fail
  clear hW
  go_region_held3 (fun w' => w'.cell? ⟨w.heap.size, 0, none⟩ = some (.bool b) ∧ w'.cell? ⟨w.heap.size, 1, none⟩ = some (.slice A n c) ∧ w'.cell? ⟨w.heap.size + 1, 0, none⟩ = some (.bool b) ∧ w'.cell? ⟨w.heap.size + 1, 1, none⟩ = some (.slice B m d))
    (first | exact ⟨(cell_store (by omega)).trans (X.on hb1).2.2.1, (cell_store (by omega)).trans (X.on hb1).2.2.2.1, (cell_store (by omega)).trans (X.on hb1).2.2.2.2.1, (cell_store (by omega)).trans (X.on hb1).2.2.2.2.2.1⟩ | go_keep | exact ⟨(X.on hb1).2.2.1, (X.on hb1).2.2.2.1, (X.on hb1).2.2.2.2.1, (X.on hb1).2.2.2.2.2.1⟩)
    (first
      | (go_at_call 27; (with_reducible refine HC.out.mono ?_); rintro e w1 ⟨A1, n1, k1, rfl, hm, hb1⟩)
      | (go_at_call 43; (with_reducible refine (signed_N _ hm (by rw [hm.len]; omega)).mono ?_); rintro e w2 ⟨b2, A2, n2, k2, rfl, hz2, hb2⟩; replace hb1 := bK hb1 hb2; have e5 := (X.on hb1).2.2.2.2.2.2.1; have e6 := (X.on hb1).2.2.2.2.2.2.2.1; have e7 := (X.on hb1).2.2.2.2.2.2.2.2.1; have e8 := (X.on hb1).2.2.2.2.2.2.2.2.2))
  rw [HS.out] at hz2
  have HZ := Lib.hid (hz2.stored e5 e6)
  have HB := (X.on hb1).1
  go_wp2_with fail
  refine bodyPost_ret (v := .agg #[.bool b2, .slice A2 n2 k2]) (by simp [results, Tryz.results18, go_sem, e5, e6]) rfl ⟨_, _, _, _, rfl, HZ.out, ?_⟩
  exact (HB.setCell (p := ⟨w.heap.size + 1 + 1, 0, none⟩) (show w.heap.size ≤ w.heap.size + 1 + 1 by omega) _).setCell (p := ⟨w.heap.size + 1 + 1, 1, none⟩) (show w.heap.size ≤ w.heap.size + 1 + 1 by omega) _

theorem zadd_first {w : World} {b b' : Bool} {A B : Option Addr} {n c m d : Nat} {z z' : Int} (ha : Zn w b A n c z) (hb : Zn w b' B m d z') (hx : (limbs z.natAbs).length ≤ 1000) (hy : (limbs z'.natAbs).length ≤ 1000) (hne : b ≠ b') (hle : z'.natAbs ≤ z.natAbs) :
    Calls Tryz.prog 18 #[.agg #[.bool b, .slice A n c], .agg #[.bool b', .slice B m d]] w (GotZ w (z + z')) := by
  obtain ⟨W, hW⟩ : ∃ W, ((w.alloc (.cells #[.bool b, .slice A n c] 42)).alloc (.cells #[.bool b', .slice B m d] 42)).alloc (.cells #[.bool false, .slice none 0 0] 42) = W := ⟨_, rfl⟩
  have X := box3 hW
  have ha' := ha.1.on X.hB
  have hb' := hb.1.on X.hB
  have HS := Lib.hid (sgn_diff ha.2 hb.2 hne hle)
  have hl : (limbs (z.natAbs - z'.natAbs)).length ≤ 1000 := Nat.le_trans (limbs_length_mono (Nat.sub_le _ _)) (by assumption)
  have hneb : (b == b') = false := by simp [hne]
  have hc1 := X.c1
  have hc2 := X.c2
  have hc3 := X.c3
  have hc4 := X.c4
  go_enter Tryz.func18, Tryz.ntmps18
  go_wp2_with fail
  clear hW
  refine (sub_N ha' hb' (by omega) (by omega) hle).mono ?_
  rintro e w2 ⟨A2, n2, c2, rfl, hm, b12⟩
  obtain ⟨-, -, f1, f2, f3, f4, -, -, -, -⟩ := X.on b12
  clear ha' hb' hc1 hc2 hc3 hc4
  go_wp2_with fail
  refine (signed_N _ hm (by rw [hm.len]; omega)).mono ?_
  rintro e w3 ⟨b3, A3, n3, k3, rfl, hz3, b3'⟩
  have b13 := b12.trans (b3'.mono b12.size)
  obtain ⟨HB, -, -, -, -, -, e5, e6, e7, e8⟩ := X.on b13
  rw [HS.out] at hz3
  have HZ := Lib.hid (hz3.stored e5 e6)
  clear b12 b13 b3' f1 f2 f3 f4 hz3
  go_wp2_with fail
  refine bodyPost_ret (v := .agg #[.bool b3, .slice A3 n3 k3]) (by simp [results, Tryz.results18, go_sem, e5, e6]) rfl ⟨_, _, _, _, rfl, HZ.out, ?_⟩
  exact (HB.setCell (p := ⟨w.heap.size + 1 + 1, 0, none⟩) (show w.heap.size ≤ w.heap.size + 1 + 1 by omega) _).setCell (p := ⟨w.heap.size + 1 + 1, 1, none⟩) (show w.heap.size ≤ w.heap.size + 1 + 1 by omega) _

theorem zadd_second {w : World} {b b' : Bool} {A B : Option Addr} {n c m d : Nat} {z z' : Int} (ha : Zn w b A n c z) (hb : Zn w b' B m d z') (hx : (limbs z.natAbs).length ≤ 1000) (hy : (limbs z'.natAbs).length ≤ 1000) (hne : b ≠ b') (hlt : z.natAbs < z'.natAbs) :
    Calls Tryz.prog 18 #[.agg #[.bool b, .slice A n c], .agg #[.bool b', .slice B m d]] w (GotZ w (z + z')) := by
  obtain ⟨W, hW⟩ : ∃ W, ((w.alloc (.cells #[.bool b, .slice A n c] 42)).alloc (.cells #[.bool b', .slice B m d] 42)).alloc (.cells #[.bool false, .slice none 0 0] 42) = W := ⟨_, rfl⟩
  have X := box3 hW
  have ha' := ha.1.on X.hB
  have hb' := hb.1.on X.hB
  have HS := Lib.hid ((sgn_diff hb.2 ha.2 (fun e => hne e.symm) (by omega)).trans (Int.add_comm z' z))
  have hl : (limbs (z'.natAbs - z.natAbs)).length ≤ 1000 := Nat.le_trans (limbs_length_mono (Nat.sub_le _ _)) (by assumption)
  have hneb : (b == b') = false := by simp [hne]
  have hc1 := X.c1
  have hc2 := X.c2
  have hc3 := X.c3
  have hc4 := X.c4
  go_enter Tryz.func18, Tryz.ntmps18
  go_wp2_with fail
  clear hW
  refine (sub_less_N ha' hb' (by omega) (by omega) hlt).mono ?_
  rintro e w1 ⟨rfl, b1⟩
  have ha1 := ha'.on b1
  have hb1' := hb'.on b1
  obtain ⟨-, -, d1, d2, d3, d4, -, -, -, -⟩ := X.on b1
  clear ha' hb' hc1 hc2 hc3 hc4
  go_wp2_with fail
  refine (sub_N hb1' ha1 (by omega) (by omega) (by omega)).mono ?_
  rintro e w2 ⟨A2, n2, c2, rfl, hm, b2⟩
  have b12 := b1.trans (b2.mono b1.size)
  obtain ⟨-, -, f1, f2, f3, f4, -, -, -, -⟩ := X.on b12
  clear ha1 hb1' d1 d2 d3 d4 b1 b2
  go_wp2_with fail
  refine (signed_N _ hm (by rw [hm.len]; omega)).mono ?_
  rintro e w3 ⟨b3, A3, n3, k3, rfl, hz3, b3'⟩
  have b13 := b12.trans (b3'.mono b12.size)
  obtain ⟨HB, -, -, -, -, -, e5, e6, e7, e8⟩ := X.on b13
  rw [HS.out] at hz3
  have HZ := Lib.hid (hz3.stored e5 e6)
  clear b12 b13 b3' f1 f2 f3 f4 hz3
  go_wp2_with fail
  refine bodyPost_ret (v := .agg #[.bool b3, .slice A3 n3 k3]) (by simp [results, Tryz.results18, go_sem, e5, e6]) rfl ⟨_, _, _, _, rfl, HZ.out, ?_⟩
  exact (HB.setCell (p := ⟨w.heap.size + 1 + 1, 0, none⟩) (show w.heap.size ≤ w.heap.size + 1 + 1 by omega) _).setCell (p := ⟨w.heap.size + 1 + 1, 1, none⟩) (show w.heap.size ≤ w.heap.size + 1 + 1 by omega) _

theorem zadd_N {w : World} {b b' : Bool} {A B : Option Addr} {n c m d : Nat} {z z' : Int} (ha : Zn w b A n c z) (hb : Zn w b' B m d z') (hx : (limbs z.natAbs).length ≤ 300) (hy : (limbs z'.natAbs).length ≤ 300) :
    Calls Tryz.prog 18 #[.agg #[.bool b, .slice A n c], .agg #[.bool b', .slice B m d]] w (GotZ w (z + z')) := by
  by_cases h : b = b'
  · subst h; exact zadd_same ha hb (by omega) (by omega)
  · rcases Nat.lt_or_ge z.natAbs z'.natAbs with h1 | h1
    · exact zadd_second ha hb (by omega) (by omega) h h1
    · exact zadd_first ha hb (by omega) (by omega) h h1

end Go.Proofs.YtpephogadljncaaGreat

/-
  The contracts of the library's Grow and Concat.
-/
namespace Go.Proofs.YtpephogadljncaaGreat
set_option maxRecDepth 100000
set_option maxHeartbeats 4000000
open Go.RowKit

theorem grow_nil (n : Nat) (w : World) (h0 : 0 < n) (hn : n ≤ 2147483648) :
    Calls Tryz.prog 129 #[.slice none 0 0, .int .i64 (n : Int)] w fun e w' => ∃ cap, e = .returned (.slice (some ⟨w.heap.size, 0, none⟩) 0 cap) ∧ w'.ownsRow w.heap.size 37 1 (.slice (some ⟨w.heap.size, 0, none⟩) 0 cap) 0 [] ∧ Below w.heap.size w w' := by
  obtain ⟨i0, hi, hz0, hz1, hz2⟩ := info_parts info24
  have hold : (Builtin.firstCells i0.size 0 (.slice none 0 0)).run Tryz.prog w.drew = .ok ([] : List Value).toArray w.drew := run_firstCells_none w.drew i0.size 0 0 0
  have hrz := fun ty => Lib.run_append_grow_zeros (P := Tryz.prog) w 24 3 ty 37 i0 (.int .u64 0) .i64 .i64 Tryz.underlying24 Tryz.underlying3 hi hz0 none 0 0 [] hold n h0 (by omega) (by omega) (by omega) (by rw [hz2]; omega) (growslice_fits (by omega) (by rw [hz2]; omega))
  obtain ⟨G, hG⟩ : ∃ G, G = grownCap w (0 + n) 0 37 := ⟨_, rfl⟩
  rw [← hG] at hrz
  have hGn : n ≤ G := by rw [hG]; have := grownCap_ge w (0 + n) 0 37; omega
  have hG63 : G ≤ maxLen := by
    rw [hG]; exact grownCap_le_maxLen w (0 + n) 0 37 (by unfold maxLen; omega)
  have hown : ∀ cur : Array Value, cur.size = G * 1 → (w.drew.alloc (.cells cur 37)).ownsRow w.heap.size 37 1 (.slice (some ⟨w.heap.size, 0, none⟩) 0 G) 0 [] := fun cur hc => World.ownsRow_made w.drew cur G (Nat.le_refl _) hG63 hc
  have HOW := Lib.hid hown
  have HG := Lib.hid hG63
  have HGG := Lib.hid hG
  have hG1 : G ≤ 9223372036854775807 := by unfold maxLen at hG63; omega
  clear hold hown hG63 hG
  go_enter Tryz.func129, Tryz.ntmps129
  go_wp2_with (at_builtin; refine Lib.wpList_append_run _ rfl _ _ _ _ rfl _ _ rfl rfl _ _ (hrz _) ?_)
  go_ret
  refine ⟨G, rfl, HOW.out _ ?_, below_drewN ((Below.refl _ w)) 1 |>.alloc (Nat.le_refl _) _⟩
  simp [size_zeroCells]
  omega

theorem Lim.src {w w' : World} {b off n c : Nat} {l : List Nat} (h : Lim w.heap.size w (some ⟨b, off, none⟩) n c l) (hb : Below w.heap.size w w') : ∀ (j : Nat) u, (l.map encD)[j]? = some u → w'.cell? ((⟨b, off, none⟩ : Addr).add j) = some u := by
  intro j u hu
  have hj : j < n := by
    have := (List.getElem?_eq_some_iff.1 hu).1
    rw [List.length_map] at this
    have := h.1; omega
  obtain ⟨b', off', e, hlt, hcell⟩ := h.2.2.2 (by omega)
  injection e with e
  injection e with e1 e2
  subst e1; subst e2
  have e1 : ((⟨b, off, none⟩ : Addr).add j) = ⟨b, off + j, none⟩ := by unfold Addr.add; split <;> simp_all
  rw [e1, hb.cell (p := ⟨b, off + j, none⟩) hlt, hcell j hj]
  rw [List.getElem?_map] at hu
  have hjl : j < l.length := by have := h.1; omega
  rw [List.getElem?_eq_getElem hjl] at hu ⊢
  exact hu

theorem concat_two (w : World) (s b1 o1 n c b2 o2 m d : Nat) (la lb : List Nat) (h1 : Lim w.heap.size w (some ⟨b1, o1, none⟩) n c la) (h2 : Lim w.heap.size w (some ⟨b2, o2, none⟩) m d lb)
    (hs0 : w.cell? ⟨s, 0, none⟩ = some (.slice (some ⟨b1, o1, none⟩) n c)) (hs1 : w.cell? ⟨s, 1, none⟩ = some (.slice (some ⟨b2, o2, none⟩) m d)) (hs : s < w.heap.size) (hn : n ≤ 1073741824) (hm : m ≤ 1073741824) (h0 : 0 < n + m) :
    Calls Tryz.prog 128 #[.slice (some ⟨s, 0, none⟩) 2 2] w fun e w' => ∃ A' c', e = .returned (.slice A' (n + m) c') ∧ Lim w'.heap.size w' A' (n + m) c' (la ++ lb) ∧ Fresh w.heap.size A' (n + m) ∧ Below w.heap.size w w' := by
  obtain ⟨i0, hi, hz0, hz1, hz2⟩ := info_parts info24
  have H1 := Lib.hid h1.1
  have H2 := Lib.hid h2.1
  have hda := h1.2.2.1
  have hdb := h2.2.2.1
  go_enter Tryz.func128, Tryz.ntmps128
  go_wp2_with fail
  go_loop [3, 11] (fun sv iv => (iv = .int .i64 0 ∧ sv = .int .i64 0) ∨ (iv = .int .i64 1 ∧ sv = .int .i64 (n : Int)) ∨ (iv = .int .i64 2 ∧ sv = .int .i64 ((n + m : Nat) : Int))) (fun _ iv => 2 - (intOf iv).toNat)
  case atStart => exact .inl ⟨rfl, rfl⟩
  case round =>
    rcases hrel with ⟨rfl, rfl⟩ | ⟨rfl, rfl⟩ | ⟨rfl, rfl⟩
    · go_wp2_with fail
      go_round
      case rel => exact .inr (.inl ⟨rfl, rfl⟩)
      case measure => simp [intOf]
    · go_wp2_with fail
      go_round
      case rel => exact .inr (.inr ⟨rfl, by go_num⟩)
      case measure => simp [intOf]
    · go_wp2_with fail
      refine (grow_nil _ _ h0 (by omega)).mono ?_
      rintro e w1 ⟨cap, rfl, hown1, hb1⟩
      go_wp2_with fail
      go_loopw [6, 27] (fun ov iv wr => ∃ k xs, Hid (xs = List.map encD k) ∧ wr.ownsRow w.heap.size 37 1 ov k.length xs ∧ Below w.heap.size w wr ∧ ((iv = .int .i64 0 ∧ k = []) ∨ (iv = .int .i64 1 ∧ k = la) ∨ (iv = .int .i64 2 ∧ k = la ++ lb))) (fun _ iv _ => 2 - (intOf iv).toNat)
      case atStart => exact ⟨[], [], Lib.hid rfl, hown1, hb1, .inl ⟨rfl, rfl⟩⟩
      case round =>
        obtain ⟨k, xs, hxs, hown, hbl, hk⟩ := hrel
        have c0 := cK hbl hs0 hs
        have c1 := cK hbl hs1 hs
        have HO := Lib.hid hown
        clear hown
        rcases hk with ⟨rfl, rfl⟩ | ⟨rfl, rfl⟩ | ⟨rfl, rfl⟩
        · go_wp2_with (at_builtin; refine wpList_append_own _ rfl _ _ 24 rfl w.heap.size 37 i0 (.int .u64 0) 1 8 Tryz.underlying24 hi hz0 hz1 hz2 rfl (by decide) _ _ _ rfl HO.out ⟨b1, o1, none⟩ n c (la.map encD) rfl (by have := H1.out; simp only [List.length_map]; omega) (h1.src hbl) (encD_one _) (by simp only [List.length_nil]; unfold maxLen; omega) (by simp only [List.length_nil]; omega) hbl.size ?_; intro v' w2 hown2 hgrow2 _)
          go_roundw
          case rel =>
            refine ⟨la, la.map encD, Lib.hid rfl, ?_, hbl.grown hgrow2 hbl.size (fun q e => (HO.out.lt q e).1), .inr (.inl ⟨rfl, rfl⟩)⟩
            rw [hxs.out, List.map_nil, List.nil_append, List.length_nil, Nat.zero_add] at hown2
            rw [← H1.out]
            exact hown2
          case measure => simp [intOf]
        · go_wp2_with (at_builtin; refine wpList_append_own _ rfl _ _ 24 rfl w.heap.size 37 i0 (.int .u64 0) 1 8 Tryz.underlying24 hi hz0 hz1 hz2 rfl (by decide) _ _ _ rfl HO.out ⟨b2, o2, none⟩ m d (lb.map encD) rfl (by have := H2.out; simp only [List.length_map]; omega) (h2.src hbl) (encD_one _) (by have := H1.out; unfold maxLen; omega) (by have := H1.out; omega) hbl.size ?_; intro v' w2 hown2 hgrow2 _)
          go_roundw
          case rel =>
            refine ⟨k ++ lb, (k ++ lb).map encD, Lib.hid rfl, ?_, hbl.grown hgrow2 hbl.size (fun q e => (HO.out.lt q e).1), .inr (.inr ⟨rfl, rfl⟩)⟩
            rw [hxs.out] at hown2
            rw [List.map_append, List.length_append, ← H2.out]
            exact hown2
          case measure => simp [intOf]
        · go_wp2_with fail
          go_ret
          have hown := HO.out
          rw [hxs.out] at hown
          have e : (la ++ lb).length = n + m := by rw [List.length_append, ← H1.out, ← H2.out]
          rw [e] at hown
          obtain ⟨A', c', rfl, hl'⟩ := isL_of_own hown (fun x hx => by
            rcases List.mem_append.1 hx with h | h
            · exact hda x h
            · exact hdb x h)
          exact ⟨A', c', rfl, hl', fresh_of_own hown, hbl⟩

end Go.Proofs.YtpephogadljncaaGreat

/-
  The contracts of div's Shl and Shr.
-/
namespace Go.Proofs.YtpephogadljncaaGreat
set_option maxRecDepth 100000
set_option maxHeartbeats 2000000
open Go.RowKit

theorem val_drop {l : List Nat} (hl : Dig l) (q : Nat) : val (l.drop q) = val l / B64 ^ q := by
  induction q generalizing l with
  | zero => simp
  | succ q ih =>
    cases l with
    | nil => simp [val_nil]
    | cons x xs => rw [List.drop_succ_cons, ih hl.tail, val_cons, Nat.pow_succ, Nat.mul_comm _ B64, ← Nat.div_div_eq_div_mul, Nat.add_mul_div_left _ _ B64_pos, Nat.div_eq_of_lt hl.head, Nat.zero_add]
theorem Dig.drop {l : List Nat} (h : Dig l) (k : Nat) : Dig (l.drop k) := fun x hx => h x (List.mem_of_mem_drop hx)
theorem Lim.dropped {B : Nat} {w : World} {b off n c q : Nat} {l : List Nat} (h : Lim B w (some ⟨b, off, none⟩) n c l) (hq : q < n) : Lim B w (some ⟨b, off + q, none⟩) (n - q) (c - q) (l.drop q) := by
  refine ⟨by rw [List.length_drop, ← h.1], by have := h.2.1; omega, h.2.2.1.drop q, fun _ => ⟨b, off + q, rfl, ?_, fun j hj => ?_⟩⟩
  · obtain ⟨b', off', e, hb, _⟩ := h.2.2.2 (by omega)
    injection e with e
    injection e with e1 e2
    omega
  · obtain ⟨b', off', e, _, hc⟩ := h.2.2.2 (by omega)
    injection e with e
    injection e with e1 e2
    subst e1; subst e2
    have := hc (q + j) (by omega)
    rw [← Nat.add_assoc] at this
    rw [this, List.getElem?_drop]

theorem GotNF.from {w w1 : World} {x : Nat} {e : Ending} {w' : World} (h : GotNF w1 x e w') (hb : Below w.heap.size w w1) : GotNF w x e w' := by
  obtain ⟨A, n, c, he, hl, hb', hf⟩ := h
  exact ⟨A, n, c, he, hl, hb.trans (hb'.mono hb.size), hf.mono hb.size⟩

theorem dshl_no (w : World) (A : Option Addr) (n c : Nat) (k : Int) (hk : k < 0 ∨ 20000 < k) : Calls Tryz.prog 123 #[.slice A n c, .int .i64 k] w (GotV w (.tuple #[.slice none 0 0, .int .i64 1])) := by
  go_enter Tryz.func123, Tryz.ntmps123
  go_wp2_with (go_at_call 114; refine (isShift_no _ _ hk).mono ?_; rintro e w' ⟨rfl, rfl⟩)
  go_ret2
  exact ⟨rfl, Below.refl _ _⟩
theorem dshr_no (w : World) (A : Option Addr) (n c : Nat) (k : Int) (hk : k < 0 ∨ 20000 < k) : Calls Tryz.prog 88 #[.slice A n c, .int .i64 k] w (GotV w (.tuple #[.slice none 0 0, .int .i64 1])) := by
  go_enter Tryz.func88, Tryz.ntmps88
  go_wp2_with (go_at_call 114; refine (isShift_no _ _ hk).mono ?_; rintro e w' ⟨rfl, rfl⟩)
  go_ret2
  exact ⟨rfl, Below.refl _ _⟩

/-- A row's digits, shifted down and trimmed: the number that is left. -/
theorem shr_shr (x k : Nat) : x / B64 ^ (k / 64) / 2 ^ (k % 64) = x / 2 ^ k := by
  rw [B64_pow2, Nat.div_div_eq_div_mul, ← Nat.pow_add]
  congr 2
  omega
theorem shl_shl (x k : Nat) : B64 ^ (k / 64) * (x * 2 ^ (k % 64)) = x * 2 ^ k := by
  rw [B64_pow2, ← Nat.mul_assoc, Nat.mul_comm _ x, Nat.mul_assoc, ← Nat.pow_add]
  congr 2
  omega
theorem val_append (a b : List Nat) : val (a ++ b) = val a + B64 ^ a.length * val b := by
  induction a with
  | nil => simp [val_nil]
  | cons x xs ih =>
    have e : B64 * (B64 ^ xs.length * val b) = B64 ^ xs.length * B64 * val b := by ac_rfl
    rw [List.cons_append, val_cons, ih, val_cons, List.length_cons, Nat.pow_succ, Nat.mul_add, e]
    omega
/-- A row of noughts. -/
def zrow (q : Nat) : Obj := .cells (madeCells #[.int .u64 0] q) 37
theorem zrow_run (q : Nat) (hq : q ≤ 1000000) (W : World) : (Instr.makeSlice 24 (.int .i64 (q : Int)) (.int .i64 (q : Int))).run Tryz.prog W = .ok (.slice (some ⟨W.heap.size, 0, none⟩) q q) (W.alloc (zrow q)) := by
  obtain ⟨i0, hi, hz0, hz1, hz2⟩ := info_parts info24
  have h := run_make (P := Tryz.prog) W 24 37 i0 (.int .u64 0) Tryz.underlying24 hi hz0 .i64 .i64 (q : Int) (q : Int) (by omega) (Int.le_refl _) (by rw [hz2]; omega) (by omega)
  rw [hz1, Int.toNat_natCast, Nat.mul_one] at h
  exact h
theorem zrow_lim (q : Nat) (hq : q ≤ 1000000) (W : World) : Lim (W.alloc (zrow q)).heap.size (W.alloc (zrow q)) (some ⟨W.heap.size, 0, none⟩) q q (List.replicate q 0) := by
  refine Lim.of_own (base := 0) (e := 37) ?_ (dig_zeros q)
  refine ⟨by simp, .inr ⟨W.heap.size, q, madeCells #[.int .u64 0] q, rfl, Nat.zero_le _, heap_alloc_new W _, Nat.le_refl _, by unfold maxLen; omega, by rw [size_madeCells, Nat.mul_one], ?_⟩⟩
  rw [toList_madeCells_one, List.map_replicate, Nat.mul_one, List.take_of_length_le (by simp)]
  rfl
theorem Lim.alloc {w : World} {A : Option Addr} {n c : Nat} {l : List Nat} (h : Lim w.heap.size w A n c l) (o : Obj) : Lim (w.alloc o).heap.size (w.alloc o) A n c l :=
  (h.below ((Below.refl _ w).alloc (Nat.le_refl _) o)).more (by simp)

/-- Two rows, side by side in a new row of slices, joined. -/
theorem concat_new (W : World) (s : Nat) (hs : W.heap.size = s) (b1 o1 n c b2 o2 m d : Nat) (la lb : List Nat) (h1 : Lim W.heap.size W (some ⟨b1, o1, none⟩) n c la) (h2 : Lim W.heap.size W (some ⟨b2, o2, none⟩) m d lb) (hn : n ≤ 1073741824) (hm : m ≤ 1073741824) (h0 : 0 < n + m) :
    Calls Tryz.prog 128 #[.slice (some ⟨s, 0, none⟩) 2 2] (W.alloc (.cells #[.slice (some ⟨b1, o1, none⟩) n c, .slice (some ⟨b2, o2, none⟩) m d] 24)) fun e w' => ∃ A' c', e = .returned (.slice A' (n + m) c') ∧ Lim w'.heap.size w' A' (n + m) c' (la ++ lb) ∧ Below W.heap.size W w' := by
  subst hs
  refine (concat_two _ W.heap.size b1 o1 n c b2 o2 m d la lb (h1.alloc _) (h2.alloc _) ?_ ?_ (by simp) hn hm h0).mono ?_
  · exact cell_two_new W _ _ 24 0 _ rfl
  · exact cell_two_new W _ _ 24 1 _ rfl
  · rintro e w' ⟨A', c', rfl, hl, _, hb⟩
    exact ⟨A', c', rfl, hl, ((Below.refl _ W).alloc (Nat.le_refl _) _).trans (hb.mono (by simp))⟩

theorem dshr_N {w : World} {A : Option Addr} {n c x k : Nat} (ha : Num w A n c x) (hx : (limbs x).length ≤ 300) (hk : k ≤ 20000) : Calls Tryz.prog 88 #[.slice A n c, .int .i64 (k : Int)] w (GotP w (x / 2 ^ k) 0) := by
  have hn : n ≤ 300 := by rw [ha.len]; exact hx
  have HL := Lib.hid ha.len
  by_cases hlt : k / 64 < n
  · obtain ⟨b, off, rfl, hb, _⟩ := ha.2.2.2 (by omega)
    have hcap := ha.2.1
    have hd := ha.dropped hlt
    have hne : ¬ c = k / 64 := by omega
    have e1 : val ((limbs x).drop (k / 64)) / 2 ^ (k % 64) = x / 2 ^ k := by rw [val_drop (limbs_dig x), val_limbs]; exact shr_shr x k
    have HE := Lib.hid e1
    have HV := Lib.hid (low_done ((limbs_dig x).drop (k / 64)) (k % 64))
    have HLD := Lib.hid hd.1
    clear e1 hx
    go_enter Tryz.func88, Tryz.ntmps88
    go_wp2_with (go_at_call 114; refine (isShift_yes _ _ hk).mono ?_; rintro e w' ⟨rfl, rfl⟩)
    refine (lowered_lim _ _ _ (k % 64) _ _ hd (by omega) (by omega)).mono ?_
    rintro e w1 ⟨g, cap, rfl, hown, hb1⟩
    have hl1 := Lim.of_own hown (digs_dig _ _)
    clear hown
    go_wp2_with fail
    refine (dtrim_lim _ _ _ _ _ _ hl1 (by omega)).mono ?_
    rintro e w2 ⟨j, rfl, hj, rfl⟩
    go_wp2_with fail
    go_ret2
    refine ⟨_, _, _, rfl, ?_, hb1⟩
    rw [HLD.out, HV.out, HE.out] at hj
    exact hj
  · have h0 : x / 2 ^ k = 0 := by
      refine Nat.div_eq_of_lt (Nat.lt_of_lt_of_le (lt_of_limbs_length (k := k / 64) (by rw [← HL.out]; omega)) ?_)
      rw [B64_pow2]
      exact Nat.pow_le_pow_right (by omega) (by omega)
    have HZ := Lib.hid h0
    clear h0
    go_enter Tryz.func88, Tryz.ntmps88
    go_wp2_with (go_at_call 114; refine (isShift_yes _ _ hk).mono ?_; rintro e w' ⟨rfl, rfl⟩)
    go_ret2
    rw [HZ.out]
    exact ⟨_, _, _, rfl, num_empty _ _ _, Below.refl _ _⟩

theorem dshl_N {w : World} {A : Option Addr} {n c x k : Nat} (ha : Num w A n c x) (hx : (limbs x).length ≤ 300) (hk : k ≤ 20000) : Calls Tryz.prog 123 #[.slice A n c, .int .i64 (k : Int)] w (GotP w (x * 2 ^ k) 0) := by
  have hn : n ≤ 300 := by rw [ha.len]; exact hx
  have HL := Lib.hid ha.len
  go_enter Tryz.func123, Tryz.ntmps123
  go_wp2_with (go_at_call 114; refine (isShift_yes _ _ hk).mono ?_; rintro e w' ⟨rfl, rfl⟩)
  obtain ⟨q, hq⟩ : ∃ q, q = k / 64 := ⟨_, rfl⟩
  obtain ⟨r, hr⟩ : ∃ r, r = k % 64 := ⟨_, rfl⟩
  have hq2 : q ≤ 1000 := by omega
  have hr2 : r < 64 := by omega
  have hmk := zrow_run q (by omega)
  have hw1 : IntKind.i64.wrap ((k : Int) / 64) = (q : Int) := by rw [IntWalk.i64_in _ (by omega)]; omega
  have hw2 : ((k : Int)).tmod 64 = (r : Int) := by rw [Int.tmod_eq_emod_of_nonneg (by omega)]; omega
  have HQ := Lib.hid hq
  have HR := Lib.hid hr
  clear hq hr
  have e1 : ∀ R : List Nat, val R = val (limbs x) * 2 ^ r → val (List.replicate q 0 ++ R) = x * 2 ^ k := fun R h => by
    rw [val_append, val_zeros, List.length_replicate, h, val_limbs, HQ.out, HR.out, Nat.zero_add]; exact shl_shl x k
  have HE := Lib.hid e1
  clear e1
  have hr1 : Calls Tryz.prog 99 #[.slice A n c, .int .i64 (r : Int)] w.drew fun e w2 => ∃ g cap R, e = .returned (.slice (some ⟨g, 0, none⟩) (n + 1) cap) ∧ Lim w2.heap.size w2 (some ⟨g, 0, none⟩) (n + 1) cap R ∧ Below w.heap.size w w2 ∧ Hid (val (List.replicate q 0 ++ R) = x * 2 ^ k) := by
    refine (raised_lim A n c r (limbs x) w.drew ha (by omega) hr2).mono ?_
    rintro e w2 ⟨g, cap, R, rfl, hown, hdR, hvR, hbR⟩
    exact ⟨g, cap, R, rfl, Lim.of_own hown hdR, ⟨hbR.os, hbR.tape, hbR.output, hbR.size, hbR.block⟩, Lib.hid (HE.out R hvR)⟩
  have hr2' : Calls Tryz.prog 99 #[.slice A n c, .int .i64 (r : Int)] (w.alloc (zrow q)).drew fun e w2 => ∃ g cap R, e = .returned (.slice (some ⟨g, 0, none⟩) (n + 1) cap) ∧ Lim w2.heap.size w2 (some ⟨g, 0, none⟩) (n + 1) cap R ∧ Lim w2.heap.size w2 (some ⟨w.heap.size, 0, none⟩) q q (List.replicate q 0) ∧ Below w.heap.size w w2 ∧ Hid (val (List.replicate q 0 ++ R) = x * 2 ^ k) := by
    refine (raised_lim A n c r (limbs x) (w.alloc (zrow q)).drew (Lim.alloc (w := w) ha _) (by omega) hr2).mono ?_
    rintro e w2 ⟨g, cap, R, rfl, hown, hdR, hvR, hbR⟩
    have hb2 : Below (w.alloc (zrow q)).heap.size (w.alloc (zrow q)) w2 := ⟨hbR.os, hbR.tape, hbR.output, hbR.size, hbR.block⟩
    exact ⟨g, cap, R, rfl, Lim.of_own hown hdR, (zrow_lim q (by omega) w).on hb2, ((Below.refl _ w).alloc (Nat.le_refl _) (zrow q)).trans (hb2.mono (by simp)), Lib.hid (HE.out R hvR)⟩
  have HR1 := Lib.hid hr1
  have HR2 := Lib.hid hr2'
  clear hr1 hr2'
  go_region_held3 (fun w' => True) (trivial) (first
    | (go_at_call 99; (with_reducible refine HR1.out.mono ?_); rintro e w2 ⟨g, cap, R, rfl, hL, hB, HV⟩)
    | (go_at_call 99; (with_reducible refine HR2.out.mono ?_); rintro e w2 ⟨g, cap, R, rfl, hL, hZ, hB, HV⟩)
    | (go_at_call 128; (with_reducible refine (concat_new w2 w2.heap.size rfl _ _ _ _ _ _ _ _ _ _ hZ hL (by omega) (by omega) (by omega)).mono ?_); rintro e w3 ⟨A', c', rfl, hl, hb3⟩; have hB3 := hB.trans (hb3.mono hB.size); clear hb3 hZ hL hB)
    | (go_at_call 128; (with_reducible refine (concat_new (w2.alloc (zrow q)) (w2.heap.size + 1) (by simp) _ _ _ _ _ _ _ _ _ _ (zrow_lim q (by omega) w2) (hL.alloc _) (by omega) (by omega) (by omega)).mono ?_); rintro e w3 ⟨A', c', rfl, hl, hb3⟩; have hB3 := (hB.alloc hB.size (zrow q)).trans (hb3.mono (by have := hB.size; simp; omega)); clear hb3 hL hB)
    | (go_at_call 96; (with_reducible refine (dtrim_lim _ _ _ _ _ _ hl (by omega)).mono ?_); rintro e w4 ⟨j, rfl, hj, rfl⟩; clear hl))
  all_goals
    clear hw1 hw2 hmk
    go_wp2_with fail
    go_ret2
    rw [HV.out] at hj
    exact ⟨A', j, c', rfl, hj, hB3⟩
end Go.Proofs.YtpephogadljncaaGreat

/-
  The contract of the library's Div64, for a divisor whose top bit is set.
-/
namespace Go.Proofs.YtpephogadljncaaGreat
set_option maxRecDepth 100000
set_option maxHeartbeats 4000000
open Go.RowKit

theorem lead_zero {y : Nat} (w : World) (hy : y < B64) (ht : B64 ≤ 2 * y) : Calls Tryz.prog 98 #[.int .u64 (y : Int)] w fun e w' => e = .returned (.int .i64 0) ∧ w = w' := by
  have e : blen y = 64 := blen_eq (k := 63) (by rw [show (2 : Nat) ^ 63 = B64 / 2 from rfl]; omega) (by rw [← B64_two]; exact hy)
  refine (lead_any y w hy).mono ?_
  rintro e' w' ⟨rfl, rfl⟩
  rw [e]
  exact ⟨rfl, rfl⟩

theorem wrap_nat {n : Nat} (h : n < B64) : IntKind.u64.wrap (n : Int) = (n : Int) := by
  rw [IntKind.wrap_u64]
  unfold B64 at h
  omega
theorem wrap_mul {a b : Nat} (h : a * b < B64) : IntKind.u64.wrap ((a : Int) * (b : Int)) = ((a * b : Nat) : Int) := by
  rw [← wrap_nat h]
  simp
theorem wrap_fit {r d : Nat} (hr : r < H32) (hd : d < H32) : IntKind.u64.wrap (IntKind.u64.wrap (4294967296 * (r : Int)) + (d : Int)) = ((H32 * r + d : Nat) : Int) := by
  rw [IntKind.wrap_u64, IntKind.wrap_u64]
  unfold H32 at *
  omega
/-- What the library's loop asks, said in its own spelling. -/
theorem Half.ask {u y y1 y0 d q r m1 m2 : Nat} (h : Half u y y1 y0 d q r) (hb : tooBig q y0 r d) (hm1 : m1 = q * y0) (hm2 : m2 = H32 * r + d) :
    (4294967296 : Int) ≤ (q : Int) ∨ (¬ (4294967296 : Int) ≤ (q : Int) ∧ IntKind.u64.wrap ((q : Int) * (y0 : Int)) = (m1 : Int) ∧ m2 < m1) := by
  rcases Nat.lt_or_ge q H32 with h1 | h1
  · refine .inr ⟨by unfold H32 at h1; omega, ?_, ?_⟩
    · rw [hm1]
      refine wrap_mul ?_
      rw [← H32_sq]
      exact Nat.mul_lt_mul_of_lt_of_le h1 (Nat.le_of_lt h.h0) H32_pos
    · rcases hb with h2 | h2
      · omega
      · omega
  · exact .inl (by unfold H32 at h1; omega)
theorem Half.ask_no {u y y1 y0 d q r m1 m2 : Nat} (h : Half u y y1 y0 d q r) (hb : ¬ tooBig q y0 r d) (hm1 : m1 = q * y0) (hm2 : m2 = H32 * r + d) :
    ¬ (4294967296 : Int) ≤ (q : Int) ∧ IntKind.u64.wrap ((q : Int) * (y0 : Int)) = (m1 : Int) ∧ ¬ m2 < m1 := by
  unfold tooBig at hb
  have h1 : q < H32 := by
    rcases Nat.lt_or_ge q H32 with h1 | h1
    · exact h1
    · exact absurd (.inl h1) hb
  refine ⟨by unfold H32 at h1; omega, ?_, fun h2 => hb (.inr (by omega))⟩
  rw [hm1]
  refine wrap_mul ?_
  rw [← H32_sq]
  exact Nat.mul_lt_mul_of_lt_of_le h1 (Nat.le_of_lt h.h0) H32_pos

theorem div64_main (hi lo y : Nat) (w : World) (h0 : hi ≠ 0) (hhi : hi < y) (hlo : lo < B64) (hy : y < B64) (ht : B64 ≤ 2 * y) :
    Calls Tryz.prog 127 #[.int .u64 (hi : Int), .int .u64 (lo : Int), .int .u64 (y : Int)] w fun e w' => e = .returned (.tuple #[.int .u64 ((hi * B64 + lo) / y : Nat), .int .u64 ((hi * B64 + lo) % y : Nat)]) ∧ w = w' := by
  have hy0 : ((y : Int) == 0) = false := by have := B64_pos; simp; omega
  have hle : decide (y ≤ hi) = false := by simp; omega
  have hh0 : ((hi : Int) == 0) = false := by simp; omega
  obtain ⟨y1, hy1⟩ : ∃ y1, y1 = hiH y := ⟨_, rfl⟩
  obtain ⟨y0, hyl⟩ : ∃ y0, y0 = loH y := ⟨_, rfl⟩
  obtain ⟨l1, hl1⟩ : ∃ l1, l1 = hiH lo := ⟨_, rfl⟩
  obtain ⟨l0, hll⟩ : ∃ l0, l0 = loH lo := ⟨_, rfl⟩
  have a1 : IntKind.u64.wrap (y : Int) = (y : Int) := by rw [IntKind.wrap_u64]; unfold B64 at hy; omega
  have a2 : (y : Int) / 4294967296 = (y1 : Int) := by rw [hy1]; unfold hiH H32; omega
  have a3 : bits .and .u64 (y : Int) 4294967295 = (y0 : Int) := by rw [u64_and32, hyl]; unfold loH H32; omega
  have a4 : IntKind.u64.wrap (lo : Int) = (lo : Int) := by rw [IntKind.wrap_u64]; unfold B64 at hlo; omega
  have a5 : (lo : Int) / 4294967296 = (l1 : Int) := by rw [hl1]; unfold hiH H32; omega
  have a6 : bits .and .u64 (lo : Int) 4294967295 = (l0 : Int) := by rw [u64_and32, hll]; unfold loH H32; omega
  have a7 : IntKind.u64.wrap (hi : Int) = (hi : Int) := by rw [IntKind.wrap_u64]; unfold B64 at hy; omega
  have a8 : (lo : Int) / 18446744073709551616 = 0 := by unfold B64 at hlo; omega
  have a9 : bits .or .u64 (hi : Int) 0 = (hi : Int) := by
    have := or_shl hi (s := 0) (c := 0) (by omega) (by simp)
    have e : shlD hi 0 = hi := by unfold shlD; rw [Nat.pow_zero, Nat.mul_one, Nat.mod_eq_of_lt (by omega)]
    rw [e] at this
    simpa [a7] using this
  have hY := Half.start (u := hi) (y := y) (y1 := y1) (y0 := y0) (d := l1) (by rw [hy1, hyl]; unfold hiH loH; rw [Nat.mul_comm]; exact (Nat.div_add_mod y H32).symm) (by rw [hyl]; exact loH_lt y) (by rw [hy1]; exact hiH_lt hy)
    (by rw [hy1]; unfold hiH H32; unfold B64 at ht; omega) hhi (by rw [hl1]; exact hiH_lt hlo)
  have b1 : ¬ y1 = 0 := by have := hY.top; unfold H32 at this; omega
  have hr := Half.r_lt (u := hi) hY.top
  obtain ⟨q, hq⟩ : ∃ q, q = hi / y1 := ⟨_, rfl⟩
  obtain ⟨r, hr'⟩ : ∃ r, r = hi % y1 := ⟨_, rfl⟩
  rw [← hq, ← hr'] at hY
  rw [← hr'] at hr
  have a10 : IntKind.u64.wrap ((hi : Int) / (y1 : Int)) = (q : Int) := by
    rw [hq, IntKind.wrap_u64]
    have h1 : hi / y1 ≤ hi := Nat.div_le_self _ _
    have h2 : ((hi / y1 : Nat) : Int) = (hi : Int) / (y1 : Int) := by simp
    rw [← h2]
    unfold B64 at hy
    omega
  have a11 : IntKind.u64.wrap ((hi : Int) - IntKind.u64.wrap ((q : Int) * (y1 : Int))) = (r : Int) := by
    have h1 := hY.hq
    have h2 : ((q * y1 : Nat) : Int) = (q : Int) * (y1 : Int) := by simp
    rw [← h2, IntKind.wrap_u64, IntKind.wrap_u64]
    unfold B64 at hy
    omega
  have HQ := Lib.hid hq
  have HR := Lib.hid hr'
  have HY1 := Lib.hid hy1
  have HYL := Lib.hid hyl
  have HL1 := Lib.hid hl1
  have HLL := Lib.hid hll
  have HYY := Lib.hid hY
  clear hq hr' hy1 hyl hl1 hll hY
  go_enter Tryz.func127, Tryz.ntmps127
  go_upto_block 0 with (go_at_call 98; refine (lead_zero _ hy ht).mono ?_; rintro e w' ⟨rfl, rfl⟩)
  go_cut [15] (fun qv wx => ∃ q : Nat, qv = .int .u64 (q : Int) ∧ q < H32 ∧ Hid (q = (hi * H32 + l1) / y) ∧ w = wx)
  case first =>
    go_wp2_with fail
    go_loop [15, 16] (fun qv rv => ∃ q r : Nat, qv = .int .u64 (q : Int) ∧ rv = .int .u64 (r : Int) ∧ Half hi y y1 y0 l1 q r ∧ r < H32) (fun qv _ => (intOf qv).toNat)
    case atStart => exact ⟨q, r, rfl, rfl, HYY.out, by have := HYY.out.h1; omega⟩
    case round =>
      obtain ⟨q, r, rfl, rfl, hH, hr32⟩ := hrel
      have hq2 := hH.q_le
      have hd32 := hH.hd
      have hy32 := hH.h1
      obtain ⟨m1, hm1⟩ : ∃ m1, m1 = q * y0 := ⟨_, rfl⟩
      obtain ⟨m2, hm2⟩ : ∃ m2, m2 = H32 * r + l1 := ⟨_, rfl⟩
      have c4 : IntKind.u64.wrap (IntKind.u64.wrap (4294967296 * (r : Int)) + (l1 : Int)) = (m2 : Int) := by rw [hm2]; exact wrap_fit hr32 hd32
      by_cases hb : tooBig q y0 r l1
      · have hH' := hH.step hb
        have hpos := (hH.pos hb).2
        have hask := hH.ask hb hm1 hm2
        obtain ⟨q', hq'⟩ : ∃ q', q' = q - 1 := ⟨_, rfl⟩
        obtain ⟨r', hr'⟩ : ∃ r', r' = r + y1 := ⟨_, rfl⟩
        rw [← hq', ← hr'] at hH'
        have c1 : IntKind.u64.wrap ((q : Int) - 1) = (q' : Int) := by
          rw [IntKind.wrap_u64]; unfold H32 at hq2; omega
        have c2 : IntKind.u64.wrap ((r : Int) + (y1 : Int)) = (r' : Int) := by
          rw [IntKind.wrap_u64]; unfold H32 at hr32 hy32; omega
        have hlt : q' < q := by omega
        have HH := Lib.hid hH'
        clear hH' hH hb hm1 hm2 hq' hr' hpos hq2 hd32 hy32
        by_cases hx : H32 ≤ r'
        · have g2 : (4294967296 : Int) ≤ (r' : Int) := by unfold H32 at hx; omega
          have hfin := HH.out.fin (.inl hx)
          have HF := Lib.hid hfin
          clear hfin hx
          rcases hask with g1 | ⟨g1, c3, g3⟩
          all_goals
            go_wp2_with fail
            go_meet
            exact ⟨q', rfl, HF.out.2, Lib.hid HF.out.1, rfl⟩
        · have g2 : ¬ (4294967296 : Int) ≤ (r' : Int) := by unfold H32 at hx; omega
          have hr3 : r' < H32 := by omega
          clear hx
          rcases hask with g1 | ⟨g1, c3, g3⟩
          all_goals
            go_wp2_with fail
            go_round
            case rel => exact ⟨q', r', rfl, rfl, HH.out, hr3⟩
            case measure => simp [intOf]; omega
      · have hfin := hH.fin (.inr hb)
        obtain ⟨g1, c3, g3⟩ := hH.ask_no hb hm1 hm2
        have HF := Lib.hid hfin
        clear hfin hH hb hm1 hm2 hq2 hd32 hy32
        go_wp2_with fail
        go_meet
        exact ⟨q, rfl, HF.out.2, Lib.hid HF.out.1, rfl⟩
  case rest =>
    obtain ⟨q1, rfl, hq1, HQ1, rfl⟩ := hcut
    obtain ⟨u, hu⟩ : ∃ u, u = (hi * H32 + l1) % y := ⟨_, rfl⟩
    have hy0' : 0 < y := by omega
    have huy : u < y := by rw [hu]; exact Nat.mod_lt _ hy0'
    have d1 : IntKind.u64.wrap (IntKind.u64.wrap (IntKind.u64.wrap ((hi : Int) * 4294967296) + (l1 : Int)) - IntKind.u64.wrap ((q1 : Int) * (y : Int))) = (u : Int) := by
      have e : u + y * q1 = hi * H32 + l1 := by rw [hu, HQ1.out]; exact Nat.mod_add_div _ _
      have e2 : ((q1 : Int) * (y : Int)) = ((y * q1 : Nat) : Int) := by rw [Nat.mul_comm]; simp
      rw [e2, IntKind.wrap_u64, IntKind.wrap_u64, IntKind.wrap_u64, IntKind.wrap_u64]
      generalize y * q1 = z at *
      unfold H32 at e
      unfold B64 at hy
      omega
    have hY := Half.start (u := u) (d := l0) HYY.out.hy HYY.out.h0 HYY.out.h1 HYY.out.top huy (by rw [HLL.out]; exact loH_lt lo)
    have hr2 := Half.r_lt (u := u) hY.top
    obtain ⟨q2, hq2⟩ : ∃ q, q = u / y1 := ⟨_, rfl⟩
    obtain ⟨r2, hr2'⟩ : ∃ r, r = u % y1 := ⟨_, rfl⟩
    rw [← hq2, ← hr2'] at hY
    rw [← hr2'] at hr2
    have d2 : IntKind.u64.wrap ((u : Int) / (y1 : Int)) = (q2 : Int) := by
      rw [hq2, IntKind.wrap_u64]
      have h1 : u / y1 ≤ u := Nat.div_le_self _ _
      have h2 : ((u / y1 : Nat) : Int) = (u : Int) / (y1 : Int) := by simp
      rw [← h2]
      unfold B64 at hy
      omega
    have d3 : IntKind.u64.wrap ((u : Int) - IntKind.u64.wrap ((q2 : Int) * (y1 : Int))) = (r2 : Int) := by
      have h1 := hY.hq
      have h2 : ((q2 * y1 : Nat) : Int) = (q2 : Int) * (y1 : Int) := by simp
      rw [← h2, IntKind.wrap_u64, IntKind.wrap_u64]
      unfold B64 at hy
      omega
    have HU := Lib.hid hu
    have HZ := Lib.hid hY
    clear hu hY hq2 hr2'
    go_upto_block 2 with fail
    go_cut [18] (fun qv wx => ∃ q : Nat, qv = .int .u64 (q : Int) ∧ q < H32 ∧ Hid (q = (u * H32 + l0) / y) ∧ w = wx)
    case first =>
      go_wp2_with fail
      go_loop [18, 16] (fun qv rv => ∃ q r : Nat, qv = .int .u64 (q : Int) ∧ rv = .int .u64 (r : Int) ∧ Half u y y1 y0 l0 q r ∧ r < H32) (fun qv _ => (intOf qv).toNat)
      case atStart => exact ⟨q2, r2, rfl, rfl, HZ.out, by have := HZ.out.h1; omega⟩
      case round =>
        obtain ⟨q, r, rfl, rfl, hH, hr32⟩ := hrel
        have hq2 := hH.q_le
        have hd32 := hH.hd
        have hy32 := hH.h1
        obtain ⟨m1, hm1⟩ : ∃ m1, m1 = q * y0 := ⟨_, rfl⟩
        obtain ⟨m2, hm2⟩ : ∃ m2, m2 = H32 * r + l0 := ⟨_, rfl⟩
        have c4 : IntKind.u64.wrap (IntKind.u64.wrap (4294967296 * (r : Int)) + (l0 : Int)) = (m2 : Int) := by rw [hm2]; exact wrap_fit hr32 hd32
        by_cases hb : tooBig q y0 r l0
        · have hH' := hH.step hb
          have hpos := (hH.pos hb).2
          have hask := hH.ask hb hm1 hm2
          obtain ⟨q', hq'⟩ : ∃ q', q' = q - 1 := ⟨_, rfl⟩
          obtain ⟨r', hr'⟩ : ∃ r', r' = r + y1 := ⟨_, rfl⟩
          rw [← hq', ← hr'] at hH'
          have c1 : IntKind.u64.wrap ((q : Int) - 1) = (q' : Int) := by
            rw [IntKind.wrap_u64]; unfold H32 at hq2; omega
          have c2 : IntKind.u64.wrap ((r : Int) + (y1 : Int)) = (r' : Int) := by
            rw [IntKind.wrap_u64]; unfold H32 at hr32 hy32; omega
          have hlt : q' < q := by omega
          have HH := Lib.hid hH'
          clear hH' hH hb hm1 hm2 hq' hr' hpos hq2 hd32 hy32
          by_cases hx : H32 ≤ r'
          · have g2 : (4294967296 : Int) ≤ (r' : Int) := by unfold H32 at hx; omega
            have hfin := HH.out.fin (.inl hx)
            have HF := Lib.hid hfin
            clear hfin hx
            rcases hask with g1 | ⟨g1, c3, g3⟩
            all_goals
              go_wp2_with fail
              go_meet
              exact ⟨q', rfl, HF.out.2, Lib.hid HF.out.1, rfl⟩
          · have g2 : ¬ (4294967296 : Int) ≤ (r' : Int) := by unfold H32 at hx; omega
            have hr3 : r' < H32 := by omega
            clear hx
            rcases hask with g1 | ⟨g1, c3, g3⟩
            all_goals
              go_wp2_with fail
              go_round
              case rel => exact ⟨q', r', rfl, rfl, HH.out, hr3⟩
              case measure => simp [intOf]; omega
        · have hfin := hH.fin (.inr hb)
          obtain ⟨g1, c3, g3⟩ := hH.ask_no hb hm1 hm2
          have HF := Lib.hid hfin
          clear hfin hH hb hm1 hm2 hq2 hd32 hy32
          go_wp2_with fail
          go_meet
          exact ⟨q, rfl, HF.out.2, Lib.hid HF.out.1, rfl⟩
    case rest =>
      obtain ⟨q0, rfl, hq0, HQ0, rfl⟩ := hcut
      have hB := both_halves (hi := hi) (l1 := l1) (l0 := l0) hy0' HQ1.out HU.out HQ0.out
      have hlo2 : l1 * H32 + l0 = lo := by rw [HL1.out, HLL.out]; unfold hiH loH; rw [Nat.mul_comm]; exact Nat.div_add_mod lo H32
      rw [hlo2] at hB
      have e1 : IntKind.u64.wrap (IntKind.u64.wrap ((q1 : Int) * 4294967296) + (q0 : Int)) = ((q1 * H32 + q0 : Nat) : Int) := by
        rw [IntKind.wrap_u64, IntKind.wrap_u64]
        unfold H32 at hq1 hq0 ⊢
        omega
      have e2 : IntKind.u64.wrap (IntKind.u64.wrap (IntKind.u64.wrap ((u : Int) * 4294967296) + (l0 : Int)) - IntKind.u64.wrap ((q0 : Int) * (y : Int))) = (((u * H32 + l0) % y : Nat) : Int) := by
        have e : (u * H32 + l0) % y + y * q0 = u * H32 + l0 := by rw [HQ0.out]; exact Nat.mod_add_div _ _
        have hlt : (u * H32 + l0) % y < y := Nat.mod_lt _ hy0'
        have e2 : ((q0 : Int) * (y : Int)) = ((y * q0 : Nat) : Int) := by rw [Nat.mul_comm]; simp
        rw [e2, IntKind.wrap_u64, IntKind.wrap_u64, IntKind.wrap_u64, IntKind.wrap_u64]
        generalize y * q0 = z at *
        generalize (u * H32 + l0) % y = v at *
        unfold H32 at e
        unfold B64 at hy
        omega
      have HB := Lib.hid hB
      have E1 := Lib.hid e1
      have E2 := Lib.hid e2
      clear hB hlo2 e1 e2
      go_wp2_with fail
      go_ret2
      refine ⟨ret_two ?_ ?_, rfl⟩
      · rw [E1.out, HB.out.1]
      · rw [← HB.out.2, ← E2.out]

theorem div64_zero (lo y : Nat) (w : World) (hlo : lo < B64) (hy0 : 0 < y) :
    Calls Tryz.prog 127 #[.int .u64 0, .int .u64 (lo : Int), .int .u64 (y : Int)] w fun e w' => e = .returned (.tuple #[.int .u64 (lo / y : Nat), .int .u64 (lo % y : Nat)]) ∧ ∃ n, w' = w.drewN n := by
  have h1 : ((y : Int) == 0) = false := by simp; omega
  have h2 : ¬ (y : Int) ≤ 0 := by omega
  have h3 : ¬ y = 0 := by omega
  have h4 : IntKind.u64.wrap ((lo : Int) / (y : Int)) = ((lo / y : Nat) : Int) := by
    have h5 : lo / y ≤ lo := Nat.div_le_self _ _
    have h6 : ((lo / y : Nat) : Int) = (lo : Int) / (y : Int) := by simp
    rw [← h6]
    exact wrap_nat (by omega)
  have h5 : ((lo : Int)).tmod (y : Int) = ((lo % y : Nat) : Int) := by
    rw [Int.tmod_eq_emod_of_nonneg (by omega)]
    simp
  have H4 := Lib.hid h4
  have H5 := Lib.hid h5
  clear h4 h5
  go_enter Tryz.func127, Tryz.ntmps127
  go_wp2_with fail
  go_quiet (fail)
  go_wp2_with fail
  go_ret2
  exact ⟨ret_two H4.out H5.out, _, rfl⟩

theorem div64_any (hi lo y : Nat) (w : World) (hhi : hi < y) (hlo : lo < B64) (hy : y < B64) (ht : B64 ≤ 2 * y) :
    Calls Tryz.prog 127 #[.int .u64 (hi : Int), .int .u64 (lo : Int), .int .u64 (y : Int)] w fun e w' => e = .returned (.tuple #[.int .u64 ((hi * B64 + lo) / y : Nat), .int .u64 ((hi * B64 + lo) % y : Nat)]) ∧ ∃ n, w' = w.drewN n := by
  by_cases h0 : hi = 0
  · subst h0
    rw [Nat.zero_mul, Nat.zero_add]
    exact div64_zero lo y w hlo hhi
  · refine (div64_main hi lo y w h0 hhi hlo hy ht).mono ?_
    rintro e w' ⟨rfl, rfl⟩
    exact ⟨rfl, 0, rfl⟩
end Go.Proofs.YtpephogadljncaaGreat

/-
  The contract of div's guess.
-/
namespace Go.Proofs.YtpephogadljncaaGreat
set_option maxRecDepth 100000
open Go.RowKit

/-- What a guess sees of two rows of digits. -/
theorem seen_rows {Rl Dl : List Nat} {k v2 : Nat} (hR : Dig Rl) (hD : Dig Dl) (lR : Rl.length = k + 2) (lD : Dl.length = k + 1) (top : B64 ≤ 2 * Dl[k]?.getD 0) (hv2 : v2 = if k = 0 then 0 else Dl[k - 1]?.getD 0) :
    Seen (val Rl) (val Dl) (B64 ^ k) (Rl[k + 1]?.getD 0 * B64 + Rl[k]?.getD 0) (Dl[k]?.getD 0) v2 (val (Dl.take k)) (val (Rl.take k)) := by
  have e1 : val Dl = val (Dl.take k) + B64 ^ k * Dl[k]?.getD 0 := by rw [← val_take_succ, List.take_of_length_le (by omega)]
  have e2 : val Rl = val (Rl.take k) + B64 ^ k * Rl[k]?.getD 0 + B64 ^ (k + 1) * Rl[k + 1]?.getD 0 := by rw [← val_take_succ, ← val_take_succ, List.take_of_length_le (by omega)]
  have l1 : val (Dl.take k) < B64 ^ k := by have := val_lt (hD.take k); rw [List.length_take, Nat.min_eq_left (by omega)] at this; exact this
  have l2 : val (Rl.take k) < B64 ^ k := by have := val_lt (hR.take k); rw [List.length_take, Nat.min_eq_left (by omega)] at this; exact this
  have hv : v2 * B64 ^ k ≤ B64 * val (Dl.take k) ∧ B64 * val (Dl.take k) < (v2 + 1) * B64 ^ k ∧ v2 < B64 := by
    cases k with
    | zero => rw [hv2]; simp [val_nil, B64_pos]
    | succ j =>
      rw [if_neg (by omega), Nat.add_sub_cancel] at hv2
      have l3 : val (Dl.take j) < B64 ^ j := by have := val_lt (hD.take j); rw [List.length_take, Nat.min_eq_left (by omega)] at this; exact this
      rw [val_take_succ, ← hv2, Nat.pow_succ, Nat.mul_add, Nat.add_mul]
      have e3 : B64 * (B64 ^ j * v2) = v2 * (B64 ^ j * B64) := by ac_rfl
      have e4 : B64 * val (Dl.take j) < B64 ^ j * B64 := by rw [Nat.mul_comm]; exact Nat.mul_lt_mul_of_pos_right l3 B64_pos
      rw [e3]
      refine ⟨by omega, by omega, ?_⟩
      rw [hv2]; exact hD.get _
  refine ⟨by rw [e1, Nat.mul_comm]; omega, ?_, l1, l2, hv.1, hv.2.1, top, hD.get _, hv.2.2⟩
  rw [e2, Nat.add_mul, Nat.pow_succ]
  have e5 : Rl[k + 1]?.getD 0 * B64 * B64 ^ k = B64 ^ k * B64 * Rl[k + 1]?.getD 0 := by ac_rfl
  rw [e5, Nat.mul_comm (Rl[k]?.getD 0)]
  omega

theorem big_lit : (18446744073709551615 : Int) = ((B64 - 1 : Nat) : Int) := by unfold B64; omega

/-- A call has answered a guess. -/
def GotG (w : World) (R D : Nat) (e : Ending) (w' : World) : Prop := ∃ t : Nat, e = .returned (.int .u64 (t : Int)) ∧ Good R D t ∧ Below w.heap.size w w'

set_option maxHeartbeats 4000000 in
theorem guess_N (w : World) (g i cr b o cb k : Nat) (Rl Dl : List Nat) (hR : Lim w.heap.size w (some ⟨g, i, none⟩) (k + 2) cr Rl) (hD : Lim w.heap.size w (some ⟨b, o, none⟩) (k + 1) cb Dl)
    (hk : k ≤ 1000000) (top : B64 ≤ 2 * Dl[k]?.getD 0) (hlt : val Rl < B64 * val Dl) :
    Calls Tryz.prog 118 #[.slice (some ⟨g, i, none⟩) (k + 2) cr, .slice (some ⟨b, o, none⟩) (k + 1) cb] w (GotG w (val Rl) (val Dl)) := by
  obtain ⟨v2, hv2⟩ : ∃ v2, v2 = if k = 0 then 0 else Dl[k - 1]?.getD 0 := ⟨_, rfl⟩
  have hS := seen_rows hR.2.2.1 hD.2.2.1 hR.1.symm hD.1.symm top hv2
  have HS := Lib.hid hS
  have HV2 := Lib.hid hv2
  obtain ⟨v1, hv1⟩ : ∃ v1, v1 = Dl[k]?.getD 0 := ⟨_, rfl⟩
  have HV1 := Lib.hid hv1
  clear hS hv2 hv1
  have HLT := Lib.hid hlt
  have HT := Lib.hid top
  clear hlt top
  go_enter Tryz.func118, Tryz.ntmps118
  go_wp2_with fail
  go_step3
  go_upto_region 2 with fail
  go_cut [6, 7] (fun tv sv wx => tv = .int .u64 (v1 : Int) ∧ sv = .int .u64 (v2 : Int) ∧ Below w.heap.size w wx)
  case first =>
    obtain ⟨b', o', e, hb, hcell⟩ := hD.2.2.2 (by omega)
    injection e with e
    injection e with e1 e2
    subst e1; subst e2
    have h1 := hcell k (by omega)
    rw [← HV1.out] at h1
    have i1 : (0 : Int) ≤ (k : Int) := by omega
    have i2 : (k : Int) < (k : Int) + 1 := by omega
    clear hcell
    by_cases hk0 : k = 0
    · have hw : IntKind.i64.wrap ((k : Int) - 1) = -1 := by rw [hk0]; rfl
      have hz : v2 = 0 := by rw [HV2.out, if_pos hk0]
      have HZ := Lib.hid hz
      clear hk0 hz
      go_region_held3 (fun w' => w'.cell? ⟨b, o + k, none⟩ = some (.int .u64 (v1 : Int))) (go_keep) ((go_at_call 121; refine (dlimb_neg _ _ _ _).mono ?_; rintro e w' ⟨rfl, rfl⟩))
      clear hw
      go_wp2_with fail
      go_meet
      exact ⟨rfl, by rw [HZ.out]; rfl, below_drewN (Below.refl _ w) 1⟩
    · obtain ⟨j, hj⟩ : ∃ j, k = j + 1 := ⟨k - 1, by omega⟩
      have hw : IntKind.i64.wrap ((k : Int) - 1) = (j : Int) := by rw [IntWalk.i64_in _ (by omega)]; omega
      have hz : v2 = Dl[j]?.getD 0 := by rw [HV2.out, if_neg hk0, hj, Nat.add_sub_cancel]
      have hjk : j ≤ 1000000 := by omega
      have HZ := Lib.hid hz
      clear hk0 hz hj
      have hc := dlimb_any _ _ _ _ j _ w.drew hD (by omega) (by omega)
      have HC := Lib.hid hc
      clear hc
      go_region_held3 (fun w' => w'.cell? ⟨b, o + k, none⟩ = some (.int .u64 (v1 : Int))) (go_keep) ((go_at_call 121; refine HC.out.mono ?_; rintro e w' ⟨rfl, rfl⟩))
      clear hw
      go_wp2_with fail
      go_meet
      exact ⟨rfl, by rw [HZ.out], below_drewN (Below.refl _ w) 1⟩
  case rest =>
    obtain ⟨rfl, rfl, hB⟩ := hcut
    have hR' := hR.on hB
    obtain ⟨g', i', e, hg, hcell⟩ := hR'.2.2.2 (by omega)
    injection e with e
    injection e with e1 e2
    subst e1; subst e2
    obtain ⟨u2, hu2⟩ : ∃ u, u = Rl[k + 1]?.getD 0 := ⟨_, rfl⟩
    obtain ⟨u1, hu1⟩ : ∃ u, u = Rl[k]?.getD 0 := ⟨_, rfl⟩
    have h1 := hcell (k + 1) (by omega)
    have h2 := hcell k (by omega)
    rw [← hu2] at h1
    rw [← hu1] at h2
    have hS := HS.out
    rw [← hu2, ← hu1, ← HV1.out] at hS
    have hu2l : u2 < B64 := by rw [hu2]; exact hR.2.2.1.get _
    have hu1l : u1 < B64 := by rw [hu1]; exact hR.2.2.1.get _
    have hv1l := hS.v1lt
    have hv2l := hS.v2lt
    have htop := hS.top
    have HSS := Lib.hid hS
    clear hcell hu2 hu1 hS HS
    by_cases hge : v1 ≤ u2
    · have hgood := HSS.out.great (by
        have h3 : v1 * B64 ≤ u2 * B64 := Nat.mul_le_mul_right _ hge
        omega) HLT.out
      have HG := Lib.hid hgood
      clear hgood
      go_wp2_with fail
      try rw [Exit.noGoto_ret]
      go_ret
      exact ⟨B64 - 1, by rw [← big_lit]; rfl, HG.out, hB⟩
    · have hlt2 : u2 < v1 := by omega
      obtain ⟨t0, ht0⟩ : ∃ t, t = (u2 * B64 + u1) / v1 := ⟨_, rfl⟩
      obtain ⟨h0, hh0⟩ : ∃ h, h = (u2 * B64 + u1) % v1 := ⟨_, rfl⟩
      have hdv : ∀ W, Calls Tryz.prog 127 #[.int .u64 (u2 : Int), .int .u64 (u1 : Int), .int .u64 (v1 : Int)] W fun e w' => e = .returned (.tuple #[.int .u64 (t0 : Int), .int .u64 (h0 : Int)]) ∧ ∃ n, w' = W.drewN n := by
        rw [ht0, hh0]
        exact fun W => div64_any u2 u1 v1 W hlt2 hu1l hv1l htop
      have HDV := Lib.hid hdv
      have hv1p : 0 < v1 := by omega
      have hh0l : h0 < v1 := by rw [hh0]; exact Nat.mod_lt _ hv1p
      have hsum : t0 * v1 + h0 = u2 * B64 + u1 := by rw [ht0, hh0, Nat.mul_comm]; exact Nat.div_add_mod _ _
      have ht0l : t0 < B64 := by
        rw [ht0, Nat.div_lt_iff_lt_mul hv1p, Nat.mul_comm B64]
        have h3 : (u2 + 1) * B64 ≤ v1 * B64 := Nat.mul_le_mul_right _ hlt2
        rw [Nat.add_mul] at h3
        omega
      have hfirst := HSS.out.first hsum hh0l
      have HSU := Lib.hid hsum
      have HFI := Lib.hid hfirst
      have i1 : (0 : Int) ≤ (k : Int) := by omega
      have i2 : (k : Int) < (k : Int) + 2 := by omega
      have i3 : IntKind.i64.wrap ((k : Int) + 1) = (k : Int) + 1 := IntWalk.i64_in _ (by omega)
      have i4 : (0 : Int) ≤ (k : Int) + 1 := by omega
      have i5 : (k : Int) + 1 < (k : Int) + 2 := by omega
      clear hdv ht0 hh0 hsum hfirst
      go_wp2_with fail
      go_region_held3 (fun w' => w'.cell? ⟨g, i + (k + 1), none⟩ = some (.int .u64 (u2 : Int)) ∧ w'.cell? ⟨g, i + k, none⟩ = some (.int .u64 (u1 : Int))) (first | go_keep | (rw [World.cell?_drewN, World.cell?_drewN]; go_keep)) ((go_at_call 127; refine (HDV.out _).mono ?_; rintro e w' ⟨rfl, nq, rfl⟩))
      clear i1 i2 i3 i4 i5
      go_wp2_with fail
      go_step3
      go_wp2_with fail
      have hW : Below w.heap.size w (wc.drewN (1 + nq)) := below_drewN hB _
      generalize wc.drewN (1 + nq) = W at *
      go_loop [8, 9, 10] (fun tv lv ov => ∃ t l o : Nat, tv = .int .u64 (t : Int) ∧ lv = .int .u64 (l : Int) ∧ ov = .int .u64 (o : Int) ∧ o ≤ 1 ∧ t < B64 ∧ l < B64 ∧ Hid (t * v1 + (l + B64 * o) = u2 * B64 + u1) ∧ Hid (val Rl < (t + 1) * val Dl)) (fun tv _ _ => (intOf tv).toNat)
      case atStart => exact ⟨t0, h0, 0, rfl, rfl, rfl, by omega, ht0l, by omega, Lib.hid (by rw [Nat.mul_zero, Nat.add_zero]; exact HSU.out), HFI⟩
      case round =>
        obtain ⟨t, l, ov, rfl, rfl, rfl, ho, htl, hll, HE, HL⟩ := hrel
        have hfin : t * v2 < (l + B64 * ov + 1) * B64 → GotG w (val Rl) (val Dl) (.returned (.int .u64 (t : Int))) W := fun h => ⟨t, rfl, ⟨HL.out, HSS.out.done HE.out htl h, htl⟩, hW⟩
        have HFN := Lib.hid hfin
        clear hfin
        by_cases ho1 : ov = 0
        · subst ho1
          by_cases hp : l < mulHi t v2
          · have hc : (l + 1) * B64 ≤ t * v2 := by
              rcases Nat.lt_or_ge (t * v2) ((l + 1) * B64) with h3 | h3
              · have := mulHi_le_iff.2 h3; omega
              · exact h3
            have hE := HE.out
            rw [Nat.mul_zero, Nat.add_zero] at hE
            have hless := HSS.out.less hE hc
            have htp : 0 < t := by
              rcases Nat.eq_zero_or_pos t with h3 | h3
              · subst h3; have := B64_pos; rw [Nat.zero_mul, Nat.add_mul] at hc; omega
              · exact h3
            obtain ⟨t', ht'⟩ : ∃ t', t = t' + 1 := ⟨t - 1, by omega⟩
            have c1 : IntKind.u64.wrap ((t : Int) - 1) = (t' : Int) := by rw [IntKind.wrap_u64]; unfold B64 at htl; omega
            have c2 := add64_run0 l v1
            have hss := sum_split l v1 0
            have hsl := sumLo_lt l v1 0
            have hsh := sumHi_le hll hv1l (Nat.zero_le 1)
            have HE' : Hid (t' * v1 + (sumLo l v1 0 + B64 * sumHi l v1 0) = u2 * B64 + u1) := Lib.hid (by
              rw [hss, ← hE, ht', Nat.add_mul]; omega)
            have HL' : Hid (val Rl < (t' + 1) * val Dl) := Lib.hid (by rw [← ht']; exact hless)
            have htt : t' < t := by omega
            have ht'l : t' < B64 := by omega
            clear hE hless hss hc ht' htp HE HL
            go_wp2_with (go_at_call 87; refine (mul64_any _ _ _ htl hv2l).mono ?_; rintro e w' ⟨rfl, rfl⟩)
            go_round
            case rel => exact ⟨t', sumLo l v1 0, sumHi l v1 0, rfl, rfl, rfl, hsh, ht'l, hsl, HE', HL'⟩
            case measure => simp [intOf]; omega
          · have hc : t * v2 < (l + 1) * B64 := mulHi_le_iff.1 (by omega)
            have HC := Lib.hid hc
            clear hc
            go_wp2_with (go_at_call 87; refine (mul64_any _ _ _ htl hv2l).mono ?_; rintro e w' ⟨rfl, rfl⟩)
            try rw [Exit.noGoto_ret]
            go_ret
            exact HFN.out (by rw [Nat.mul_zero, Nat.add_zero]; exact HC.out)
        · obtain rfl : ov = 1 := by omega
          have hc : t * v2 < (l + B64 * 1 + 1) * B64 := by
            have h3 : t * v2 ≤ B64 * B64 := Nat.mul_le_mul (by omega) (by omega)
            have h4 : B64 * B64 < (l + B64 * 1 + 1) * B64 := Nat.mul_lt_mul_of_pos_right (by omega) B64_pos
            omega
          have HC := Lib.hid hc
          clear hc
          go_wp2_with fail
          try rw [Exit.noGoto_ret]
          go_ret
          exact HFN.out HC.out
end Go.Proofs.YtpephogadljncaaGreat

/-
  The contracts of div's lessTimes, addBack and takeOff: a window of a row of digits is changed in place.
-/
namespace Go.Proofs.YtpephogadljncaaGreat
set_option maxRecDepth 100000
set_option maxHeartbeats 2000000
open Go.RowKit

theorem sub64_run0 (x y : Nat) (w : World) :
    (callFunc 77 #[.int .u64 (x : Int), .int .u64 (y : Int), .int .u64 0]).run Tryz.prog w = .ok (.value (.tuple #[.int .u64 (subLo x y 0 : Int), .int .u64 (subHi x y 0 : Int)])) w := sub64_run x y 0 (by omega) w

/-- A slice of digits in another block than the one that is written is kept. -/
theorem Lim.apart {B : Nat} {w w' : World} {b o n c g : Nat} {l : List Nat} (h : Lim B w (some ⟨b, o, none⟩) n c l) (hg : w.grownBy w' (some g)) (hne : b ≠ g) (hB : B ≤ w.heap.size) : Lim B w' (some ⟨b, o, none⟩) n c l :=
  ⟨h.1, h.2.1, h.2.2.1, fun hn => by
    obtain ⟨b', o', e, hlt, hc⟩ := h.2.2.2 hn
    injection e with e
    injection e with e1 e2
    subst e1; subst e2
    exact ⟨b, o, rfl, hlt, fun j hj => (World.cell?_of_block (a := ⟨b, o + j, none⟩) (hg.block b (by omega) (by simp; omega))).trans (hc j hj)⟩⟩

theorem win_get {pre Q post : List Nat} {i k : Nat} (hi : pre.length = i) (hk : k < Q.length) : ((pre ++ (Q ++ post)).map encD)[i + k]? = some (.int .u64 ((Q[k]?.getD 0 : Nat) : Int)) := by
  rw [List.getElem?_map, List.getElem?_append_right (by omega), hi, Nat.add_sub_cancel_left, List.getElem?_append_left hk, List.getElem?_eq_getElem hk]
  rfl
theorem win_set {pre Q post : List Nat} {i k : Nat} (d : Nat) (hi : pre.length = i) (hk : k < Q.length) : ((pre ++ (Q ++ post)).map encD).set (i + k) (.int .u64 (d : Int)) = (pre ++ (Q.set k d ++ post)).map encD := by
  rw [show (Value.int IntKind.u64 (d : Int)) = encD d from rfl, ← List.map_set, List.set_append_right _ _ (by omega), hi, Nat.add_sub_cancel_left, List.set_append_left _ _ hk]

theorem wrap_owed {x y q c : Nat} (hx : x < B64) (hy : y < B64) (hc : c < B64) :
    IntKind.u64.wrap (IntKind.u64.wrap ((mulHi y x : Int) + (sumHi (mulLo y x) c 0 : Int)) + (subHi q (sumLo (mulLo y x) c 0) 0 : Int)) = (owed x y q c : Int) := by
  obtain ⟨h1, h2⟩ := owed_lt (q := q) hx hy hc
  unfold owed at h2 ⊢
  generalize mulHi y x = a at *
  generalize sumHi (mulLo y x) c 0 = b at *
  generalize subHi q (sumLo (mulLo y x) c 0) 0 = d at *
  simp only [IntKind.wrap_u64]
  unfold B64 at h1 h2
  omega

theorem lessD_eq (x y q c : Nat) : subLo q (sumLo (mulLo y x) c 0) 0 = lessD x y q c := rfl
theorem times_none {a p M h : Nat} (e : a = p + M * h) (hz : h = 0) : a = p := by
  subst hz
  rw [e, Nat.mul_zero, Nat.add_zero]
theorem times_once {a p M h : Nat} (e : a = p + M * h) (hz : h = 1) : a = p + M := by
  subst hz
  rw [e, Nat.mul_one]
/-- A row of the caller's, with a window. -/
def Win (w : World) (base g N cap : Nat) (pre Q post : List Nat) : Prop := w.ownsRow base 37 1 (.slice (some ⟨g, 0, none⟩) N cap) N ((pre ++ (Q ++ post)).map encD)

theorem less_N (w : World) (base g N cap i cr b o cb m x : Nat) (pre P post Dl : List Nat) (hW : Win w base g N cap pre P post) (hi : pre.length = i) (hP : Dig P) (lP : P.length = m + 1) (hD : Lim w.heap.size w (some ⟨b, o, none⟩) m cb Dl) (hne : b ≠ g) (hm : m ≤ 1000000) (hx : x < B64) (hin : i ≤ 1000000) :
    Calls Tryz.prog 119 #[.slice (some ⟨g, i, none⟩) (m + 1) cr, .slice (some ⟨b, o, none⟩) m cb, .int .u64 (x : Int)] w fun e w' => ∃ Q, Dig Q ∧ Q.length = m + 1 ∧ Win w' base g N cap pre Q post ∧ w.grownBy w' (some g) ∧
      ((e = .returned (.bool false) ∧ val Q + x * val Dl = val P) ∨ (e = .returned (.bool true) ∧ val Q + x * val Dl = val P + B64 ^ (m + 1))) := by
  have hbg := World.ownsRow.lt hW g rfl
  have HI := Lib.hid hi
  have HP := Lib.hid lP
  have HD := Lib.hid hD.1
  clear hi lP
  go_enter Tryz.func119, Tryz.ntmps119
  go_wp2
  go_loopw [7, 16] (fun ov iv wr => ∃ (k : Nat) (Q : List Nat) (c : Nat), k ≤ m ∧ iv = .int .i64 (k : Int) ∧ ov = .int .u64 (c : Int) ∧ LessAt P Q k x Dl c ∧ Win wr base g N cap pre Q post ∧ w.grownBy wr (some g)) (fun _ iv _ => m - (intOf iv).toNat)
  case atStart => exact ⟨0, P, 0, Nat.zero_le _, rfl, rfl, LessAt.start hP x Dl, hW, World.grownBy.refl w _⟩
  case round =>
    obtain ⟨k, Q, c, hk, rfl, rfl, hT, hown, hgr⟩ := hrel
    have hQl : Q.length = m + 1 := by rw [hT.2.1]; exact HP.out
    have h2 : wr.cell? ⟨g, i + k, none⟩ = some (.int .u64 ((Q[k]?.getD 0 : Nat) : Int)) := by
      have hlN : (pre ++ (Q ++ post)).length = N := by have := hown.1; simpa using this
      rw [World.ownsRow.cellAt hown (i + k) (by have := HI.out; simp at hlN; omega), win_get HI.out (by omega)]
    have h3 := World.ownsRow.frozenAt hown (i + k)
    have hql : Q[k]?.getD 0 < B64 := hT.1.get _
    have hcc : c < B64 := hT.2.2.1
    have hs0 := sub64_run0
    have ha0 := add64_run0
    have HT := Lib.hid hT
    have HO := Lib.hid hown
    have HG := Lib.hid hgr
    have HQ := Lib.hid hQl
    clear hT hown hgr hQl
    by_cases hlt : k < m
    · obtain ⟨b', o', e, hblt, hcell⟩ := (hD.apart HG.out hne (Nat.le_refl _)).2.2.2 (by omega)
      injection e with e
      injection e with e1 e2
      subst e1; subst e2
      have h1 := hcell k hlt
      have hyl : Dl[k]?.getD 0 < B64 := hD.2.2.1.get k
      clear hcell
      go_wp2_with (go_at_call 87; refine (mul64_any _ _ _ hyl hx).mono ?_; rintro e w' ⟨rfl, rfl⟩)
      have hst := World.ownsRow.stored HO.out (i + k) (.int .u64 (subLo (Q[k]?.getD 0) (sumLo (mulLo (Dl[k]?.getD 0) x) c 0) 0 : Int))
      refine ⟨⟨k + 1, Q.set k (lessD x (Dl[k]?.getD 0) (Q[k]?.getD 0) c), owed x (Dl[k]?.getD 0) (Q[k]?.getD 0) c, by omega, by go_num, ?_, HT.out.step hx hD.2.2.1 (by have := HP.out; omega), ?_, HG.out.trans hst.2⟩, by simp [intOf]; omega⟩
      · rw [wrap_owed hx hyl hcc]
      · have h5 := hst.1
        rw [win_set _ HI.out (by have := HQ.out; omega), lessD_eq] at h5
        rw [lessD_eq]
        exact h5
    · obtain rfl : k = m := by omega
      have hT := HT.out
      rw [HD.out] at hT
      obtain ⟨q1, q2, q3⟩ := hT.done (by rw [HP.out, HD.out])
      rw [← HD.out] at q1 q2 q3
      have HQ1 := Lib.hid q1
      have HQ2 := Lib.hid q2
      have HQ3 := Lib.hid q3
      clear hT q1 q2 q3
      have hst := World.ownsRow.stored HO.out (i + k) (.int .u64 (subLo (Q[k]?.getD 0) c 0 : Int))
      have hW1 := hst.1
      rw [win_set _ HI.out (by have := HQ.out; omega)] at hW1
      have HW1 := Lib.hid hW1
      have HW2 := Lib.hid (HG.out.trans hst.2)
      clear hst hW1
      have hsub := subHi_le (Q[k]?.getD 0) c 0
      by_cases hz : subHi (Q[k]?.getD 0) c 0 = 0
      · have hzb : (((subHi (Q[k]?.getD 0) c 0 : Nat) : Int) != 0) = false := by simp [hz]
        have HZ := Lib.hid hz
        clear hz
        go_wp2
        go_ret
        exact ⟨_, HQ1.out, HQ2.out, HW1.out, HW2.out, .inl ⟨rfl, times_none HQ3.out HZ.out⟩⟩
      · have hzb : (((subHi (Q[k]?.getD 0) c 0 : Nat) : Int) != 0) = true := by simp [hz]
        have HZ := Lib.hid hz
        clear hz
        go_wp2
        go_ret
        exact ⟨_, HQ1.out, HQ2.out, HW1.out, HW2.out, .inr ⟨rfl, times_once HQ3.out (by have := HZ.out; omega)⟩⟩

theorem wrap_sum (x c : Nat) : IntKind.u64.wrap ((x : Int) + (c : Int)) = ((sumLo x c 0 : Nat) : Int) := by
  rw [IntKind.wrap_u64, show (18446744073709551616 : Int) = (B64 : Int) from rfl]
  unfold sumLo
  simp

theorem back_N (w : World) (base g N cap i cr b o cb m : Nat) (pre P post Dl : List Nat) (hW : Win w base g N cap pre P post) (hi : pre.length = i) (hP : Dig P) (lP : P.length = m + 1) (hD : Lim w.heap.size w (some ⟨b, o, none⟩) m cb Dl) (hne : b ≠ g) (hm : m ≤ 1000000) (hin : i ≤ 1000000) :
    Calls Tryz.prog 120 #[.slice (some ⟨g, i, none⟩) (m + 1) cr, .slice (some ⟨b, o, none⟩) m cb] w fun e w' => e = .returned (.tuple #[]) ∧ ∃ Q v, Dig Q ∧ Q.length = m + 1 ∧ Win w' base g N cap pre Q post ∧ w.grownBy w' (some g) ∧ val Q + B64 ^ (m + 1) * v = val P + val Dl := by
  have hbg := World.ownsRow.lt hW g rfl
  have HI := Lib.hid hi
  have HP := Lib.hid lP
  have HD := Lib.hid hD.1
  clear hi lP
  go_enter Tryz.func120, Tryz.ntmps120
  go_wp2
  go_loopw [4, 9] (fun ov iv wr => ∃ (k : Nat) (Q : List Nat) (c : Nat), k ≤ m ∧ iv = .int .i64 (k : Int) ∧ ov = .int .u64 (c : Int) ∧ BackAt P Q k Dl c ∧ Win wr base g N cap pre Q post ∧ w.grownBy wr (some g)) (fun _ iv _ => m - (intOf iv).toNat)
  case atStart => exact ⟨0, P, 0, Nat.zero_le _, rfl, rfl, BackAt.start hP Dl, hW, World.grownBy.refl w _⟩
  case round =>
    obtain ⟨k, Q, c, hk, rfl, rfl, hT, hown, hgr⟩ := hrel
    have hQl : Q.length = m + 1 := by rw [hT.2.1]; exact HP.out
    have h2 : wr.cell? ⟨g, i + k, none⟩ = some (.int .u64 ((Q[k]?.getD 0 : Nat) : Int)) := by
      have hlN : (pre ++ (Q ++ post)).length = N := by have := hown.1; simpa using this
      rw [World.ownsRow.cellAt hown (i + k) (by have := HI.out; simp at hlN; omega), win_get HI.out (by omega)]
    have h3 := World.ownsRow.frozenAt hown (i + k)
    have hcc : c ≤ 1 := hT.2.2.1
    have HT := Lib.hid hT
    have HO := Lib.hid hown
    have HG := Lib.hid hgr
    have HQ := Lib.hid hQl
    clear hT hown hgr hQl
    by_cases hlt : k < m
    · obtain ⟨b', o', e, hblt, hcell⟩ := (hD.apart HG.out hne (Nat.le_refl _)).2.2.2 (by omega)
      injection e with e
      injection e with e1 e2
      subst e1; subst e2
      have h1 := hcell k hlt
      have ha0 := add64_run (Q[k]?.getD 0) (Dl[k]?.getD 0) c hcc
      clear hcell
      go_wp2
      have hst := World.ownsRow.stored HO.out (i + k) (.int .u64 (sumLo (Q[k]?.getD 0) (Dl[k]?.getD 0) c : Int))
      refine ⟨⟨k + 1, Q.set k (sumLo (Q[k]?.getD 0) (Dl[k]?.getD 0) c), sumHi (Q[k]?.getD 0) (Dl[k]?.getD 0) c, by omega, by go_num, rfl, HT.out.step hD.2.2.1 (by have := HP.out; omega), ?_, HG.out.trans hst.2⟩, by simp [intOf]; omega⟩
      have h5 := hst.1
      rw [win_set _ HI.out (by have := HQ.out; omega)] at h5
      exact h5
    · obtain rfl : k = m := by omega
      have hT := HT.out
      rw [HD.out] at hT
      obtain ⟨q1, q2, v, q3⟩ := hT.done (by rw [HP.out, HD.out])
      rw [← HD.out] at q1 q2 q3
      have HQ1 := Lib.hid q1
      have HQ2 := Lib.hid q2
      have HQ3 := Lib.hid q3
      clear hT q1 q2 q3
      have hst := World.ownsRow.stored HO.out (i + k) (.int .u64 (sumLo (Q[k]?.getD 0) c 0 : Int))
      have hW1 := hst.1
      rw [win_set _ HI.out (by have := HQ.out; omega)] at hW1
      have HW1 := Lib.hid hW1
      have HW2 := Lib.hid (HG.out.trans hst.2)
      have hws := wrap_sum (Q[k]?.getD 0) c
      clear hst hW1
      go_wp2
      go_end0
      exact ⟨rfl, _, v, HQ1.out, HQ2.out, HW1.out, HW2.out, HQ3.out⟩

end Go.Proofs.YtpephogadljncaaGreat

/-
  The contract of div's takeOff, and the arithmetic of a round of the long division.
-/
namespace Go.Proofs.YtpephogadljncaaGreat
set_option maxRecDepth 100000
open Go.RowKit

theorem Win.lim {w : World} {base g N cap i cr n : Nat} {pre P post : List Nat} (h : Win w base g N cap pre P post) (hi : pre.length = i) (hP : Dig P) (lP : P.length = n) (hcr : n ≤ cr) : Lim w.heap.size w (some ⟨g, i, none⟩) n cr P := by
  refine ⟨lP.symm, hcr, hP, fun _ => ⟨g, i, rfl, (World.ownsRow.lt h g rfl).2, fun j hj => ?_⟩⟩
  have hlN : (pre ++ (P ++ post)).length = N := by have := h.1; simpa using this
  rw [World.ownsRow.cellAt h (i + j) (by simp at hlN; omega), win_get hi (by omega)]

theorem grown_of_below {w w' : World} {row : Option Nat} (h : Below w.heap.size w w') : w.grownBy w' row := ⟨h.os, h.tape, h.output, h.size, fun k hk _ => h.block k hk⟩

theorem pred_wrap {t : Nat} (h0 : t ≠ 0) (ht : t < B64) : IntKind.u64.wrap ((t : Int) - 1) = ((t - 1 : Nat) : Int) := by
  rw [IntKind.wrap_u64]
  unfold B64 at ht
  omega

theorem ret_u64 {a b : Int} (h : a = b) : Ending.returned (.int .u64 a) = .returned (.int .u64 b) := by rw [h]

set_option maxHeartbeats 2000000 in
theorem take_N (w : World) (base g N cap i cr b o cb k : Nat) (pre P post Dl : List Nat) (hW : Win w base g N cap pre P post) (hi : pre.length = i) (hP : Dig P) (lP : P.length = k + 2) (hcr : k + 2 ≤ cr) (hD : Lim w.heap.size w (some ⟨b, o, none⟩) (k + 1) cb Dl) (hne : b ≠ g) (hk : k ≤ 100000) (hin : i ≤ 1000000)
    (top : B64 ≤ 2 * Dl[k]?.getD 0) (hlt : val P < B64 * val Dl) :
    Calls Tryz.prog 100 #[.slice (some ⟨g, i, none⟩) (k + 2) cr, .slice (some ⟨b, o, none⟩) (k + 1) cb] w fun e w' => ∃ Q, e = .returned (.int .u64 ((val P / val Dl : Nat) : Int)) ∧ Dig Q ∧ Q.length = k + 2 ∧ val Q = val P % val Dl ∧ Win w' base g N cap pre Q post ∧ w.grownBy w' (some g) := by
  have hR := hW.lim hi hP lP hcr
  have hDlt : val Dl < B64 ^ (k + 1) := by rw [hD.1]; exact val_lt hD.2.2.1
  have hDM : val Dl ≤ B64 ^ (k + 2) := Nat.le_trans (Nat.le_of_lt hDlt) (Nat.pow_le_pow_right B64_pos (by omega))
  have HDM := Lib.hid hDM
  have HI := Lib.hid hi
  have HL := Lib.hid lP
  clear hDlt hDM hi lP
  go_enter Tryz.func100, Tryz.ntmps100
  go_wp2_with fail
  refine (guess_N w g i cr b o cb k P Dl hR hD (by omega) top hlt).mono ?_
  rintro e w1 ⟨t, rfl, hG, hB⟩
  have hW1 : Win w1 base g N cap pre P post := ownsRow_below hW hB
  have hD1 := hD.on hB
  have ht := hG.2.2
  have HG := Lib.hid hG
  have HB := Lib.hid (grown_of_below (row := some g) hB)
  clear hW hD hR hG hB
  go_wp2_with fail
  refine (less_N w1 base g N cap i cr b o cb (k + 1) t pre P post Dl hW1 HI.out hP HL.out hD1 hne (by omega) ht hin).mono ?_
  rintro e w2 ⟨Q, hQd, hQl, hW2, hg2, hcase⟩
  have HQL := Lib.hid hQl
  have HG2 := Lib.hid hg2
  clear hQl
  rcases hcase with ⟨rfl, hv⟩ | ⟨rfl, hv⟩
  · obtain ⟨e1, e2⟩ := good_zero HG.out hv
    have E1 := Lib.hid e1
    have E2 := Lib.hid e2
    clear hv e1 e2 hg2
    go_wp2_with fail
    go_ret
    exact ⟨Q, by rw [E1.out]; rfl, hQd, HQL.out, E2.out.symm, hW2, HB.out.trans HG2.out⟩
  · have hD2 := (hD1.apart hg2 hne (Nat.le_refl _)).more hg2.size
    have HV := Lib.hid hv
    clear hv hg2
    go_wp2_with fail
    refine (back_N w2 base g N cap i cr b o cb (k + 1) pre Q post Dl hW2 HI.out hQd HQL.out hD2 hne (by omega) hin).mono ?_
    rintro e w3 ⟨rfl, Q2, v, hQ2, hQ2l, hW3, hg3, hv3⟩
    have hvlt : val Q < B64 ^ (k + 2) := by have := val_lt hQd; rw [HQL.out] at this; exact this
    have hv2lt : val Q2 < B64 ^ (k + 2) := by have := val_lt hQ2; rw [hQ2l] at this; exact this
    obtain ⟨t0, e1, e2⟩ := good_one HG.out HV.out hvlt HDM.out hv3 hv2lt
    have E1 := Lib.hid e1
    have E2 := Lib.hid e2
    have HQ2 := Lib.hid hQ2l
    have HT0 := Lib.hid t0
    have HG3 := Lib.hid hg3
    clear e1 e2 hv3 hvlt hv2lt t0 hQ2l hg3 HV
    go_wp2_with fail
    go_ret
    refine ⟨Q2, ?_, hQ2, HQ2.out, E2.out.symm, hW3, (HB.out.trans HG2.out).trans HG3.out⟩
    rw [E1.out]
    exact ret_u64 (pred_wrap HT0.out ht)

/-- A round of the division: what the window holds, and what becomes of the row. -/
theorem long_step {Rl : List Nat} {t k D : Nat} (hR : Dig Rl) (hD : D < B64 ^ (k + 1)) (hD0 : 0 < D) (hl : t + (k + 2) ≤ Rl.length) (hlt : val Rl < D * B64 ^ (t + 1)) :
    val ((Rl.drop t).take (k + 2)) < B64 * D ∧ ∀ Q : List Nat, Q.length = k + 2 → val Q = val ((Rl.drop t).take (k + 2)) % D →
      val (Rl.take t ++ (Q ++ Rl.drop (t + (k + 2)))) + D * (B64 ^ t * (val ((Rl.drop t).take (k + 2)) / D)) = val Rl ∧ val (Rl.take t ++ (Q ++ Rl.drop (t + (k + 2)))) < D * B64 ^ t := by
  have e0 : Rl = Rl.take t ++ ((Rl.drop t).take (k + 2) ++ Rl.drop (t + (k + 2))) := by
    rw [← List.drop_drop, List.take_append_drop, List.take_append_drop]
  have lt : (Rl.take t).length = t := by rw [List.length_take, Nat.min_eq_left (by omega)]
  have lP : ((Rl.drop t).take (k + 2)).length = k + 2 := by rw [List.length_take, List.length_drop, Nat.min_eq_left (by omega)]
  have hpre : val (Rl.take t) < B64 ^ t := by have := val_lt (hR.take t); rw [lt] at this; exact this
  have ev : val Rl = val (Rl.take t) + B64 ^ t * (val ((Rl.drop t).take (k + 2)) + B64 ^ (k + 2) * val (Rl.drop (t + (k + 2)))) := by
    have h := congrArg val e0
    rw [val_append, val_append, lt, lP] at h
    exact h
  have hBt : 0 < B64 ^ t := Nat.pow_pos B64_pos
  generalize hp : val (Rl.take t) = pre at *
  generalize hP : val ((Rl.drop t).take (k + 2)) = P at *
  generalize hpo : val (Rl.drop (t + (k + 2))) = po at *
  generalize val Rl = X at *
  have h1 : P + B64 ^ (k + 2) * po < D * B64 := by
    rcases Nat.lt_or_ge (P + B64 ^ (k + 2) * po) (D * B64) with h | h
    · exact h
    · have h2 : B64 ^ t * (D * B64) ≤ B64 ^ t * (P + B64 ^ (k + 2) * po) := Nat.mul_le_mul_left _ h
      have h3 : D * B64 ^ (t + 1) = B64 ^ t * (D * B64) := by rw [Nat.pow_succ]; ac_rfl
      omega
  have h2 : D * B64 ≤ B64 ^ (k + 2) := by
    rw [Nat.pow_succ B64 (k + 1)]
    exact Nat.mul_le_mul_right _ (Nat.le_of_lt hD)
  have hpo0 : po = 0 := by
    rcases Nat.eq_zero_or_pos po with h | h
    · exact h
    · have h3 : B64 ^ (k + 2) * 1 ≤ B64 ^ (k + 2) * po := Nat.mul_le_mul_left _ h
      rw [Nat.mul_one] at h3
      omega
  subst hpo0
  rw [Nat.mul_zero, Nat.add_zero] at h1 ev
  refine ⟨by rw [Nat.mul_comm]; exact h1, fun Q hQ hv => ?_⟩
  rw [val_append, val_append, lt, hp, hQ, hpo, hv, Nat.mul_zero, Nat.add_zero]
  have h4 := Nat.mod_add_div P D
  have h5 := Nat.mod_lt P hD0
  generalize P % D = m at *
  generalize P / D = q at *
  have h6 : D * (B64 ^ t * q) = B64 ^ t * (D * q) := by ac_rfl
  have h7 : B64 ^ t * (m + D * q) = B64 ^ t * m + B64 ^ t * (D * q) := Nat.mul_add ..
  rw [h4] at h7
  refine ⟨by rw [h6]; omega, ?_⟩
  have h8 : B64 ^ t * (m + 1) ≤ B64 ^ t * D := Nat.mul_le_mul_left _ h5
  rw [Nat.mul_add, Nat.mul_one] at h8
  rw [Nat.mul_comm D]
  omega

/-- The divisor's top bit is set by the shift. -/
theorem norm_top {y k s : Nat} (hl : (limbs y).length = k + 1) (hs : s = 64 - blen ((limbs y)[k]?.getD 0)) : s < 64 ∧ y * 2 ^ s < B64 ^ (k + 1) ∧ (limbs (y * 2 ^ s)).length = k + 1 ∧ B64 ≤ 2 * (limbs (y * 2 ^ s))[k]?.getD 0 := by
  have hd := limbs_dig y
  have hv : val ((limbs y).take k) + B64 ^ k * (limbs y)[k]?.getD 0 = y := by rw [← val_take_succ, List.take_of_length_le (by omega), val_limbs]
  have hlo : val ((limbs y).take k) < B64 ^ k := by have := val_lt (hd.take k); rw [List.length_take, Nat.min_eq_left (by omega)] at this; exact this
  have htl : (limbs y)[k]?.getD 0 < B64 := hd.get k
  have ht0 : (limbs y)[k]?.getD 0 ≠ 0 := fun h => by
    have hge := limbs_ge (n := y) (by omega)
    rw [hl, Nat.add_sub_cancel] at hge
    rw [h, Nat.mul_zero, Nat.add_zero] at hv
    omega
  generalize (limbs y)[k]?.getD 0 = T at *
  have hb1 := blen_pos ht0
  have hb2 : blen T ≤ 64 := blen_le (by rw [← B64_two]; exact htl)
  have hs64 : s < 64 := by omega
  have h1 : T + 1 ≤ 2 ^ blen T := lt_blen T
  have h2 := blen_ge ht0
  have e1 : 2 ^ blen T * 2 ^ s = B64 := by rw [B64_two, ← Nat.pow_add]; congr 1; omega
  have e2 : 2 * (2 ^ (blen T - 1) * 2 ^ s) = B64 := by
    rw [← e1, ← Nat.mul_assoc]
    congr 1
    rw [Nat.mul_comm, ← Nat.pow_succ]
    congr 1
    omega
  have h3 : (T + 1) * 2 ^ s ≤ B64 := by rw [← e1]; exact Nat.mul_le_mul_right _ h1
  have h4 : B64 ≤ 2 * (T * 2 ^ s) := by rw [← e2]; exact Nat.mul_le_mul_left _ (Nat.mul_le_mul_right _ h2)
  have hp : 0 < 2 ^ s := Nat.pow_pos (by omega)
  have h5 : y * 2 ^ s < B64 ^ (k + 1) := by
    have h6 : y < B64 ^ k * (T + 1) := by rw [Nat.mul_add, Nat.mul_one]; omega
    have h7 : y * 2 ^ s < B64 ^ k * (T + 1) * 2 ^ s := Nat.mul_lt_mul_of_pos_right h6 hp
    have h8 : B64 ^ k * ((T + 1) * 2 ^ s) ≤ B64 ^ k * B64 := Nat.mul_le_mul_left _ h3
    rw [Nat.pow_succ]
    rw [Nat.mul_assoc] at h7
    omega
  have h6 : B64 ^ k * (T * 2 ^ s) ≤ y * 2 ^ s := by
    rw [← Nat.mul_assoc]
    exact Nat.mul_le_mul_right _ (by omega)
  have hBk : 0 < B64 ^ k := Nat.pow_pos B64_pos
  have hlen : (limbs (y * 2 ^ s)).length = k + 1 := by
    have a := limbs_length_le h5
    rcases Nat.lt_or_ge (limbs (y * 2 ^ s)).length (k + 1) with b | b
    · have c := lt_of_limbs_length (n := y * 2 ^ s) (k := k) (by omega)
      have d : B64 ^ k * 1 ≤ B64 ^ k * (T * 2 ^ s) := Nat.mul_le_mul_left _ (by have := B64_pos; omega)
      omega
    · omega
  refine ⟨hs64, h5, hlen, ?_⟩
  rw [limbs_get]
  unfold dig
  have h7 : y * 2 ^ s / B64 ^ k < B64 := by rw [Nat.div_lt_iff_lt_mul hBk, Nat.mul_comm B64, ← Nat.pow_succ]; exact h5
  rw [Nat.mod_eq_of_lt h7]
  have h8 : T * 2 ^ s ≤ y * 2 ^ s / B64 ^ k := by rw [Nat.le_div_iff_mul_le hBk, Nat.mul_comm _ (B64 ^ k)]; exact h6
  omega

/-- The end of the division. -/
theorem long_end {x y s R q : Nat} (hy : 0 < y) (hR : R < y * 2 ^ s) (e : R + y * 2 ^ s * q = x * 2 ^ s) : q = x / y ∧ R / 2 ^ s = x % y := by
  have hp : 0 < 2 ^ s := Nat.pow_pos (by omega)
  have hD : 0 < y * 2 ^ s := Nat.mul_pos hy hp
  have h1 : x * 2 ^ s / (y * 2 ^ s) = q := by rw [← e, Nat.add_mul_div_left _ _ hD, Nat.div_eq_of_lt hR, Nat.zero_add]
  have h2 : x * 2 ^ s % (y * 2 ^ s) = R := by rw [← e, Nat.add_mul_mod_self_left, Nat.mod_eq_of_lt hR]
  rw [Nat.mul_div_mul_right _ _ hp] at h1
  rw [Nat.mul_mod_mul_right] at h2
  exact ⟨h1.symm, by rw [← h2, Nat.mul_div_cancel _ hp]⟩

theorem long_start {x y k n s : Nat} (hn : (limbs x).length = n) (hl : (limbs y).length = k + 1) (hkn : k + 1 ≤ n) : x * 2 ^ s < y * 2 ^ s * B64 ^ (n - (k + 1) + 1) := by
  have h1 : x < B64 ^ n := lt_of_limbs_length (by omega)
  have h2 := limbs_ge (n := y) (by omega)
  rw [hl, Nat.add_sub_cancel] at h2
  have h3 : B64 ^ k * B64 ^ (n - (k + 1) + 1) ≤ y * B64 ^ (n - (k + 1) + 1) := Nat.mul_le_mul_right _ h2
  rw [← Nat.pow_add, show k + (n - (k + 1) + 1) = n by omega] at h3
  have h4 : y * 2 ^ s * B64 ^ (n - (k + 1) + 1) = y * B64 ^ (n - (k + 1) + 1) * 2 ^ s := by ac_rfl
  rw [h4]
  exact Nat.mul_lt_mul_of_pos_right (by omega) (Nat.pow_pos (by omega))

end Go.Proofs.YtpephogadljncaaGreat
