/-
  The contracts of div's Shl and Shr.
-/
import Derived.Test.YtogdckajgkncdaaS3
namespace Go.Proofs.Ytogdckajgkncdaa
open Go.RowKit

theorem val_drop {l : List Nat} (hl : Dig l) (q : Nat) : val (l.drop q) = val l / B64 ^ q := by
  induction q generalizing l with
  | zero => simp
  | succ q ih =>
    cases l with
    | nil => simp [val_nil]
    | cons x xs => rw [List.drop_succ_cons, ih hl.tail, val_cons, Nat.pow_succ, Nat.mul_comm _ B64, ← Nat.div_div_eq_div_mul, Nat.add_mul_div_left _ _ B64_pos, Nat.div_eq_of_lt hl.head, Nat.zero_add]
theorem Dig.drop {l : List Nat} (h : Dig l) (k : Nat) : Dig (l.drop k) := fun x hx => h x (List.mem_of_mem_drop hx)
theorem Lim.dropped {B : Nat} {w : World} {b off n c q : Nat} {l : List Nat} (h : Lim B w (some ⟨b, off, none⟩) n c l) (hq : q < n) : Lim B w (some ⟨b, off + q, none⟩) (n - q) (c - q) (l.drop q) := by
  refine ⟨by rw [List.length_drop, ← h.1], by have := h.2.1; omega, h.2.2.1.drop q, fun _ => ⟨b, off + q, rfl, ?_, fun j hj => ?_⟩⟩
  · obtain ⟨b', off', e, hb, _⟩ := h.2.2.2 (by omega)
    injection e with e
    injection e with e1 e2
    omega
  · obtain ⟨b', off', e, _, hc⟩ := h.2.2.2 (by omega)
    injection e with e
    injection e with e1 e2
    subst e1; subst e2
    have := hc (q + j) (by omega)
    rw [← Nat.add_assoc] at this
    rw [this, List.getElem?_drop]

theorem GotNF.from {w w1 : World} {x : Nat} {e : Ending} {w' : World} (h : GotNF w1 x e w') (hb : Below w.heap.size w w1) : GotNF w x e w' := by
  obtain ⟨A, n, c, he, hl, hb', hf⟩ := h
  exact ⟨A, n, c, he, hl, hb.trans (hb'.mono hb.size), hf.mono hb.size⟩

set_option maxHeartbeats 1000000 in
theorem dshl_no (w : World) (A : Option Addr) (n c : Nat) (k : Int) (hk : k < 0 ∨ 20000 < k) : Calls Try.prog 12 #[.slice A n c, .int .i64 k] w (GotV w (.tuple #[.slice none 0 0, .int .i64 1])) := by
  go_enter Try.func12, Try.ntmps12
  go_wp2_with (go_at_call 30; refine (isShift_no _ _ hk).mono ?_; rintro e w' ⟨rfl, rfl⟩)
  go_ret2
  exact ⟨rfl, Below.refl _ _⟩
set_option maxHeartbeats 1000000 in
theorem dshr_no (w : World) (A : Option Addr) (n c : Nat) (k : Int) (hk : k < 0 ∨ 20000 < k) : Calls Try.prog 14 #[.slice A n c, .int .i64 k] w (GotV w (.tuple #[.slice none 0 0, .int .i64 1])) := by
  go_enter Try.func14, Try.ntmps14
  go_wp2_with (go_at_call 30; refine (isShift_no _ _ hk).mono ?_; rintro e w' ⟨rfl, rfl⟩)
  go_ret2
  exact ⟨rfl, Below.refl _ _⟩

/-- A row's digits, shifted down and trimmed: the number that is left. -/
theorem shr_shr (x k : Nat) : x / B64 ^ (k / 64) / 2 ^ (k % 64) = x / 2 ^ k := by
  rw [B64_pow2, Nat.div_div_eq_div_mul, ← Nat.pow_add]
  congr 2
  omega
theorem shl_shl (x k : Nat) : B64 ^ (k / 64) * (x * 2 ^ (k % 64)) = x * 2 ^ k := by
  rw [B64_pow2, ← Nat.mul_assoc, Nat.mul_comm _ x, Nat.mul_assoc, ← Nat.pow_add]
  congr 2
  omega
theorem val_append (a b : List Nat) : val (a ++ b) = val a + B64 ^ a.length * val b := by
  induction a with
  | nil => simp [val_nil]
  | cons x xs ih =>
    have e : B64 * (B64 ^ xs.length * val b) = B64 ^ xs.length * B64 * val b := by ac_rfl
    rw [List.cons_append, val_cons, ih, val_cons, List.length_cons, Nat.pow_succ, Nat.mul_add, e]
    omega
/-- A row of noughts. -/
def zrow (q : Nat) : Obj := .cells (madeCells #[.int .u64 0] q) 38
theorem zrow_run (q : Nat) (hq : q ≤ 1000000) (W : World) : (Instr.makeSlice 23 (.int .i64 (q : Int)) (.int .i64 (q : Int))).run Try.prog W = .ok (.slice (some ⟨W.heap.size, 0, none⟩) q q) (W.alloc (zrow q)) := by
  obtain ⟨i0, hi, hz0, hz1, hz2⟩ := info_parts info24
  have h := run_make (P := Try.prog) W 23 38 i0 (.int .u64 0) Try.underlying23 hi hz0 .i64 .i64 (q : Int) (q : Int) (by omega) (Int.le_refl _) (by rw [hz2]; omega) (by omega)
  rw [hz1, Int.toNat_natCast, Nat.mul_one] at h
  exact h
theorem zrow_lim (q : Nat) (hq : q ≤ 1000000) (W : World) : Lim (W.alloc (zrow q)).heap.size (W.alloc (zrow q)) (some ⟨W.heap.size, 0, none⟩) q q (List.replicate q 0) := by
  refine Lim.of_own (base := 0) (e := 38) ?_ (dig_zeros q)
  refine ⟨by simp, .inr ⟨W.heap.size, q, madeCells #[.int .u64 0] q, rfl, Nat.zero_le _, heap_alloc_new W _, Nat.le_refl _, by unfold maxLen; omega, by rw [size_madeCells, Nat.mul_one], ?_⟩⟩
  rw [toList_madeCells_one, List.map_replicate, Nat.mul_one, List.take_of_length_le (by simp)]
  rfl
theorem Lim.alloc {w : World} {A : Option Addr} {n c : Nat} {l : List Nat} (h : Lim w.heap.size w A n c l) (o : Obj) : Lim (w.alloc o).heap.size (w.alloc o) A n c l :=
  (h.below ((Below.refl _ w).alloc (Nat.le_refl _) o)).more (by simp)

/-- Two rows, side by side in a new row of slices, joined. -/
theorem concat_new (W : World) (s : Nat) (hs : W.heap.size = s) (b1 o1 n c b2 o2 m d : Nat) (la lb : List Nat) (h1 : Lim W.heap.size W (some ⟨b1, o1, none⟩) n c la) (h2 : Lim W.heap.size W (some ⟨b2, o2, none⟩) m d lb) (hn : n ≤ 1073741824) (hm : m ≤ 1073741824) (h0 : 0 < n + m) :
    Calls Try.prog 32 #[.slice (some ⟨s, 0, none⟩) 2 2] (W.alloc (.cells #[.slice (some ⟨b1, o1, none⟩) n c, .slice (some ⟨b2, o2, none⟩) m d] 23)) fun e w' => ∃ A' c', e = .returned (.slice A' (n + m) c') ∧ Lim w'.heap.size w' A' (n + m) c' (la ++ lb) ∧ Below W.heap.size W w' := by
  subst hs
  refine (concat_two _ W.heap.size b1 o1 n c b2 o2 m d la lb (h1.alloc _) (h2.alloc _) ?_ ?_ (by simp) hn hm h0).mono ?_
  · exact cell_two_new W _ _ 23 0 _ rfl
  · exact cell_two_new W _ _ 23 1 _ rfl
  · rintro e w' ⟨A', c', rfl, hl, _, hb⟩
    exact ⟨A', c', rfl, hl, ((Below.refl _ W).alloc (Nat.le_refl _) _).trans (hb.mono (by simp))⟩

set_option maxRecDepth 100000 in
set_option maxHeartbeats 2000000 in
theorem dshr_N {w : World} {A : Option Addr} {n c x k : Nat} (ha : Num w A n c x) (hx : (limbs x).length ≤ 300) (hk : k ≤ 20000) : Calls Try.prog 14 #[.slice A n c, .int .i64 (k : Int)] w (GotP w (x / 2 ^ k) 0) := by
  have hn : n ≤ 300 := by rw [ha.len]; exact hx
  have HL := Lib.hid ha.len
  by_cases hlt : k / 64 < n
  · obtain ⟨b, off, rfl, hb, _⟩ := ha.2.2.2 (by omega)
    have hcap := ha.2.1
    have hd := ha.dropped hlt
    have hne : ¬ c = k / 64 := by omega
    have e1 : val ((limbs x).drop (k / 64)) / 2 ^ (k % 64) = x / 2 ^ k := by rw [val_drop (limbs_dig x), val_limbs]; exact shr_shr x k
    have HE := Lib.hid e1
    have HV := Lib.hid (low_done ((limbs_dig x).drop (k / 64)) (k % 64))
    have HLD := Lib.hid hd.1
    clear e1 hx
    go_enter Try.func14, Try.ntmps14
    go_wp2_with (go_at_call 30; refine (isShift_yes _ _ hk).mono ?_; rintro e w' ⟨rfl, rfl⟩)
    refine (lowered_lim _ _ _ (k % 64) _ _ hd (by omega) (by omega)).mono ?_
    rintro e w1 ⟨g, cap, rfl, hown, hb1⟩
    have hl1 := Lim.of_own hown (digs_dig _ _)
    clear hown
    go_wp2_with fail
    refine (dtrim_lim _ _ _ _ _ _ hl1 (by omega)).mono ?_
    rintro e w2 ⟨j, rfl, hj, rfl⟩
    go_wp2_with fail
    go_ret2
    refine ⟨_, _, _, rfl, ?_, hb1⟩
    rw [HLD.out, HV.out, HE.out] at hj
    exact hj
  · have h0 : x / 2 ^ k = 0 := by
      refine Nat.div_eq_of_lt (Nat.lt_of_lt_of_le (lt_of_limbs_length (k := k / 64) (by rw [← HL.out]; omega)) ?_)
      rw [B64_pow2]
      exact Nat.pow_le_pow_right (by omega) (by omega)
    have HZ := Lib.hid h0
    clear h0
    go_enter Try.func14, Try.ntmps14
    go_wp2_with (go_at_call 30; refine (isShift_yes _ _ hk).mono ?_; rintro e w' ⟨rfl, rfl⟩)
    go_ret2
    rw [HZ.out]
    exact ⟨_, _, _, rfl, num_empty _ _ _, Below.refl _ _⟩

set_option maxRecDepth 100000 in
set_option maxHeartbeats 2000000 in
theorem dshl_N {w : World} {A : Option Addr} {n c x k : Nat} (ha : Num w A n c x) (hx : (limbs x).length ≤ 300) (hk : k ≤ 20000) : Calls Try.prog 12 #[.slice A n c, .int .i64 (k : Int)] w (GotP w (x * 2 ^ k) 0) := by
  have hn : n ≤ 300 := by rw [ha.len]; exact hx
  have HL := Lib.hid ha.len
  go_enter Try.func12, Try.ntmps12
  go_wp2_with (go_at_call 30; refine (isShift_yes _ _ hk).mono ?_; rintro e w' ⟨rfl, rfl⟩)
  obtain ⟨q, hq⟩ : ∃ q, q = k / 64 := ⟨_, rfl⟩
  obtain ⟨r, hr⟩ : ∃ r, r = k % 64 := ⟨_, rfl⟩
  have hq2 : q ≤ 1000 := by omega
  have hr2 : r < 64 := by omega
  have hmk := zrow_run q (by omega)
  have hw1 : IntKind.i64.wrap ((k : Int) / 64) = (q : Int) := by rw [IntWalk.i64_in _ (by omega)]; omega
  have hw2 : ((k : Int)).tmod 64 = (r : Int) := by rw [Int.tmod_eq_emod_of_nonneg (by omega)]; omega
  have HQ := Lib.hid hq
  have HR := Lib.hid hr
  clear hq hr
  have e1 : ∀ R : List Nat, val R = val (limbs x) * 2 ^ r → val (List.replicate q 0 ++ R) = x * 2 ^ k := fun R h => by
    rw [val_append, val_zeros, List.length_replicate, h, val_limbs, HQ.out, HR.out, Nat.zero_add]; exact shl_shl x k
  have HE := Lib.hid e1
  clear e1
  have hr1 : Calls Try.prog 33 #[.slice A n c, .int .i64 (r : Int)] w.drew fun e w2 => ∃ g cap R, e = .returned (.slice (some ⟨g, 0, none⟩) (n + 1) cap) ∧ Lim w2.heap.size w2 (some ⟨g, 0, none⟩) (n + 1) cap R ∧ Below w.heap.size w w2 ∧ Hid (val (List.replicate q 0 ++ R) = x * 2 ^ k) := by
    refine (raised_lim A n c r (limbs x) w.drew ha (by omega) hr2).mono ?_
    rintro e w2 ⟨g, cap, R, rfl, hown, hdR, hvR, hbR⟩
    exact ⟨g, cap, R, rfl, Lim.of_own hown hdR, ⟨hbR.os, hbR.tape, hbR.output, hbR.size, hbR.block⟩, Lib.hid (HE.out R hvR)⟩
  have hr2' : Calls Try.prog 33 #[.slice A n c, .int .i64 (r : Int)] (w.alloc (zrow q)).drew fun e w2 => ∃ g cap R, e = .returned (.slice (some ⟨g, 0, none⟩) (n + 1) cap) ∧ Lim w2.heap.size w2 (some ⟨g, 0, none⟩) (n + 1) cap R ∧ Lim w2.heap.size w2 (some ⟨w.heap.size, 0, none⟩) q q (List.replicate q 0) ∧ Below w.heap.size w w2 ∧ Hid (val (List.replicate q 0 ++ R) = x * 2 ^ k) := by
    refine (raised_lim A n c r (limbs x) (w.alloc (zrow q)).drew (Lim.alloc (w := w) ha _) (by omega) hr2).mono ?_
    rintro e w2 ⟨g, cap, R, rfl, hown, hdR, hvR, hbR⟩
    have hb2 : Below (w.alloc (zrow q)).heap.size (w.alloc (zrow q)) w2 := ⟨hbR.os, hbR.tape, hbR.output, hbR.size, hbR.block⟩
    exact ⟨g, cap, R, rfl, Lim.of_own hown hdR, (zrow_lim q (by omega) w).on hb2, ((Below.refl _ w).alloc (Nat.le_refl _) (zrow q)).trans (hb2.mono (by simp)), Lib.hid (HE.out R hvR)⟩
  have HR1 := Lib.hid hr1
  have HR2 := Lib.hid hr2'
  clear hr1 hr2'
  go_region_held3 (fun w' => True) (trivial) (first
    | (go_at_call 33; (with_reducible refine HR1.out.mono ?_); rintro e w2 ⟨g, cap, R, rfl, hL, hB, HV⟩)
    | (go_at_call 33; (with_reducible refine HR2.out.mono ?_); rintro e w2 ⟨g, cap, R, rfl, hL, hZ, hB, HV⟩)
    | (go_at_call 32; (with_reducible refine (concat_new w2 w2.heap.size rfl _ _ _ _ _ _ _ _ _ _ hZ hL (by omega) (by omega) (by omega)).mono ?_); rintro e w3 ⟨A', c', rfl, hl, hb3⟩; have hB3 := hB.trans (hb3.mono hB.size); clear hb3 hZ hL hB)
    | (go_at_call 32; (with_reducible refine (concat_new (w2.alloc (zrow q)) (w2.heap.size + 1) (by simp) _ _ _ _ _ _ _ _ _ _ (zrow_lim q (by omega) w2) (hL.alloc _) (by omega) (by omega) (by omega)).mono ?_); rintro e w3 ⟨A', c', rfl, hl, hb3⟩; have hB3 := (hB.alloc hB.size (zrow q)).trans (hb3.mono (by have := hB.size; simp; omega)); clear hb3 hL hB)
    | (go_at_call 31; (with_reducible refine (dtrim_lim _ _ _ _ _ _ hl (by omega)).mono ?_); rintro e w4 ⟨j, rfl, hj, rfl⟩; clear hl))
  all_goals
    clear hw1 hw2 hmk
    go_wp2_with fail
    go_ret2
    rw [HV.out] at hj
    exact ⟨A', j, c', rfl, hj, hB3⟩
end Go.Proofs.Ytogdckajgkncdaa
