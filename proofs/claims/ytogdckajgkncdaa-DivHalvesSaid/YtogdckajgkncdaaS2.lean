/-
  The contracts of div's lowered, and of the library's Clone and LeadingZeros64.
-/
import Derived.Deep.RegionHeld3
import Derived.Lib.SliceRun
import Derived.Test.YtogdckajgkncdaaS1
namespace Go.Proofs.Ytogdckajgkncdaa
open Go.RowKit

theorem or_low {x : Nat} (hx : x < B64) (y : Nat) {s : Nat} (hs : s ≤ 64) : bits .or .u64 ((x : Int) / 2 ^ s) (IntKind.u64.wrap ((y : Int) * 2 ^ (64 - s))) = ((x / 2 ^ s + shlD y (64 - s) : Nat) : Int) := by
  have h1 : x / 2 ^ s < 2 ^ (64 - s) := by
    rw [Nat.div_lt_iff_lt_mul (Nat.pow_pos (by omega)), Nat.mul_comm, B64_parts hs]; exact hx
  have h2 := or_shl y (s := 64 - s) (by omega) h1
  rw [Nat.add_comm, ← h2]
  show IntKind.u64.wrap ((BitVec.ofInt 64 _ ||| BitVec.ofInt 64 _).toNat : Nat) = IntKind.u64.wrap ((BitVec.ofInt 64 _ ||| BitVec.ofInt 64 _).toNat : Nat)
  rw [BitVec.or_comm]
  simp

set_option maxRecDepth 100000 in
set_option maxHeartbeats 2000000 in
theorem lowered_lim (A : Option Addr) (n c s : Nat) (l : List Nat) (w : World) (h : Lim w.heap.size w A n c l) (hn : n ≤ 2147483648) (hs : s < 64) :
    Calls Try.prog 35 #[.slice A n c, .int .i64 (s : Int)] w fun e w' => ∃ g cap, e = .returned (.slice (some ⟨g, 0, none⟩) n cap) ∧ w'.ownsRow w.heap.size 38 1 (.slice (some ⟨g, 0, none⟩) n cap) n ((digs (val l / 2 ^ s) n).map encD) ∧ Below w.heap.size w w' := by
  obtain ⟨i0, hi, hz0, hz1, hz2⟩ := info_parts info24
  have HL := Lib.hid h.1
  obtain ⟨t, ht⟩ : ∃ t, w.heap.size = t := ⟨_, rfl⟩
  have HT := Lib.hid ht
  rw [ht] at h ⊢
  clear ht
  go_enter Try.func35, Try.ntmps35
  go_wp2_with (at_make; refine wpList_make_own _ rfl _ _ 23 rfl t 38 i0 (.int .u64 0) 1 Try.underlying23 hi hz0 hz1 .i64 .i64 _ n rfl rfl (by omega) (by rw [hz2]; omega) (by unfold maxLen; omega) (by rw [HT.out]; omega) ?_; intro w1 hown1 hgrow1)
  rw [HT.out] at hown1 ⊢
  go_loopw [5, 13] (fun ov iv wr => ∃ (k cap g : Nat), k ≤ n ∧ iv = .int .i64 (k : Int) ∧ ov = .slice (some ⟨g, 0, none⟩) k cap ∧ wr.ownsRow t 38 1 (.slice (some ⟨g, 0, none⟩) k cap) k ((digs (val l / 2 ^ s) k).map encD) ∧ Below t w wr) (fun _ iv _ => n - (intOf iv).toNat)
  case atStart => exact ⟨0, n, t, Nat.zero_le _, rfl, rfl, hown1, (Below.refl t w).grown hgrow1 (by have := HT.out; omega) (fun k h => by cases h)⟩
  case round =>
    obtain ⟨k, cap, g, hk, rfl, rfl, hown, hbl⟩ := hrel
    have hgl := hown.lt g rfl
    have HO := Lib.hid hown
    clear hown
    by_cases hlt : k < n
    · have hlim := h.below hbl
      obtain ⟨b, off, rfl, hb, hcell⟩ := hlim.2.2.2 (by omega)
      have h1 := hcell k hlt
      have hs1 : (0 : Int) ≤ (s : Int) := by omega
      have hs2 : (s : Int) ≤ 64 := by omega
      have hs3 : (0 : Int) ≤ 64 - (s : Int) := by omega
      have hs4 : 64 - (s : Int) ≤ 64 := by omega
      have hw1 : IntKind.i64.wrap ((k : Int) + 1) = ((k + 1 : Nat) : Int) := by rw [IntWalk.i64_in _ (by omega)]; omega
      have hw2 : IntKind.i64.wrap (64 - (s : Int)) = 64 - (s : Int) := IntWalk.i64_in _ (by omega)
      clear hcell
      have HD := Lib.hid (low_row h.2.2.1 hs k)
      have hx : l[k]?.getD 0 < B64 := h.2.2.1.get k
      have hor := or_low hx (l[k + 1]?.getD 0) (s := s) (by omega)
      have HOR := Lib.hid hor
      clear hor
      have hc := dlimb_any t (some ⟨b, off, none⟩) n c (k + 1) l wr.drew hlim (by omega) (by omega)
      have HC := Lib.hid hc
      clear hc
      go_wp2_with fail
      go_region_held3 (fun w' => True) (trivial) (first
        | (go_at_call 46; refine HC.out.mono ?_; rintro e w' ⟨rfl, rfl⟩)
        | (refine step_append_lies _ rfl _ _ 23 rfl t 38 i0 (.int .u64 0) 1 8 Try.underlying23 hi hz0 hz1 hz2 rfl (by decide) _ _ _ rfl ((HO.out.alloc _).drew) ⟨wr.heap.size, 0, none⟩ 1 1 [.int .u64 (bits .or .u64 (((l[k]?.getD 0 : Nat) : Int) / 2 ^ s) (IntKind.u64.wrap (((l[k + 1]?.getD 0 : Nat) : Int) * 2 ^ (64 - s))))] rfl rfl (cell_one_new _ _ _) (by simp [Value.oneCell']) (by omega) (by unfold maxLen; omega) (by omega) (by simp; have := hbl.size; have := HT.out; omega) _ rfl ?_; intro g1 cap1 w1 hown1 hgrow1 hat hlt1))
      clear hw1 hw2 hs1 hs2 hs3 hs4
      go_wp2
      go_roundw
      case rel =>
        refine ⟨k + 1, cap1, g1, by omega, by go_num, rfl, ?_, ?_⟩
        · rw [HOR.out, HD.out] at hown1
          rw [digs_succ, List.map_append]
          exact hown1
        · exact (below_drewN (hbl.alloc (by have := hbl.size; have := HT.out; omega) _) 1).grown hgrow1 (by simp; have := hbl.size; have := HT.out; omega) (fun q e => by injection (show some g = some q from e) with e1; omega)
      case measure => simp [intOf]; omega
    · obtain rfl : k = n := by omega
      go_wp2
      go_ret
      exact ⟨g, cap, rfl, HO.out, hbl⟩

/-- A number of digits, copied into new memory. -/
theorem append_src {w : World} {b off n c : Nat} {l : List Nat} (h : Lim w.heap.size w (some ⟨b, off, none⟩) n c l) (h0 : 0 < n) (o : Obj) : ∀ (j : Nat) u, (l.map encD)[j]? = some u → (w.alloc o).cell? ((⟨b, off, none⟩ : Addr).add j) = some u := by
  intro j u hu
  obtain ⟨b', off', e, hb, hcell⟩ := h.2.2.2 h0
  injection e with e
  injection e with e1 e2
  subst e1; subst e2
  have hj : j < n := by
    have := (List.getElem?_eq_some_iff.1 hu).1
    rw [List.length_map] at this
    have := h.1; omega
  have e1 : ((⟨b, off, none⟩ : Addr).add j) = ⟨b, off + j, none⟩ := by unfold Addr.add; split <;> simp_all
  rw [e1, World.cell?_alloc_lt _ _ _ hb, hcell j hj]
  rw [List.getElem?_map] at hu
  have hjl : j < l.length := by have := h.1; omega
  rw [List.getElem?_eq_getElem hjl] at hu ⊢
  exact hu

set_option maxHeartbeats 2000000 in
theorem clone_F {w : World} {A : Option Addr} {n c x : Nat} (h : Num w A n c x) (hn : n ≤ 2147483648) : Calls Try.prog 38 #[.slice A n c] w (GotNF w x) := by
  obtain ⟨i0, hi, hz0, hz1, hz2⟩ := info_parts info24
  have q23 : ∀ (w : World) (a : Option Addr) (n c n' c' : Nat), (binOp .eql 23 (.slice a n c) (.slice none n' c')).run Try.prog w = .ok (.bool a.isNone) w := fun w a n c n' c' => Lib.run_eql_slice_nil w _ _ a n c n' c' Try.underlying23
  have HL := Lib.hid h.len
  by_cases h0 : n = 0
  · subst h0
    have hx : x = 0 := by
      have h2 := val_limbs x
      rw [List.eq_nil_of_length_eq_zero HL.out.symm] at h2
      exact h2.symm
    subst hx
    cases A with
    | none =>
      have e : GotNF w 0 (.returned (.slice none 0 0)) w := ⟨_, _, _, rfl, num_empty _ _ _, Below.refl _ _, fun h => by omega⟩
      have HE := Lib.hid e
      clear e
      go_enter Try.func38, Try.ntmps38
      go_wp2
      go_ret
      exact HE.out
    | some ad =>
      go_enter Try.func38, Try.ntmps38
      go_wp2_with (at_builtin; refine wpList_append_own _ rfl _ _ 23 rfl w.heap.size 38 i0 (.int .u64 0) 1 8 Try.underlying23 hi hz0 hz1 hz2 rfl (by decide) _ _ _ rfl (own_empty w w.heap.size (Nat.le_refl _)) ad 0 _ [] rfl rfl (by intro j u h; simp at h) (by simp) (by unfold maxLen; omega) (by omega) (by simp) ?_; intro v' w1 hown1 hgrow1 _)
      go_ret
      obtain ⟨A', c', rfl, hl'⟩ := isL_of_own (l := []) hown1 Dig.nil
      exact ⟨_, _, _, rfl, num_empty _ _ _, ((Below.refl _ w).alloc (Nat.le_refl _) _).grown hgrow1 (by simp) (fun q e => by injection (show some w.heap.size = some q from e) with e1; omega), fun h => by simp at h⟩
  · obtain ⟨b, off, rfl, hb, _⟩ := h.2.2.2 (by omega)
    have HC := Lib.hid (append_src h (by omega) (.cells #[] 38))
    go_enter Try.func38, Try.ntmps38
    go_wp2_with (at_builtin; refine wpList_append_own _ rfl _ _ 23 rfl w.heap.size 38 i0 (.int .u64 0) 1 8 Try.underlying23 hi hz0 hz1 hz2 rfl (by decide) _ _ _ rfl (own_empty w w.heap.size (Nat.le_refl _)) ⟨b, off, none⟩ n _ ((limbs x).map encD) rfl (by have := HL.out; simp only [List.length_map]; omega) HC.out (encD_one _) (by unfold maxLen; omega) (by omega) (by simp) ?_; intro v' w1 hown1 hgrow1 _)
    go_ret
    rw [List.nil_append] at hown1
    obtain ⟨A', c', rfl, hl'⟩ := isL_of_own hown1 (limbs_dig x)
    exact ⟨_, _, _, rfl, hl', ((Below.refl _ w).alloc (Nat.le_refl _) _).grown hgrow1 (by simp) (fun q e => by injection (show some w.heap.size = some q from e) with e1; omega), fresh_of_own hown1⟩

set_option maxHeartbeats 400000 in
theorem lead_any (x : Nat) (w : World) (hx : x < B64) : Calls Try.prog 39 #[.int .u64 (x : Int)] w fun e w' => e = .returned (.int .i64 ((64 - blen x : Nat) : Int)) ∧ w = w' := by
  have hb : blen x ≤ 64 := blen_le (by rw [← B64_two]; exact hx)
  go_enter Try.func39, Try.ntmps39
  go_wp2_with (go_at_call 49; refine (len64_any _ _ hx).mono ?_; rintro e w' ⟨rfl, rfl⟩)
  go_ret
  exact ⟨ret_i64 (by omega), rfl⟩

end Go.Proofs.Ytogdckajgkncdaa
