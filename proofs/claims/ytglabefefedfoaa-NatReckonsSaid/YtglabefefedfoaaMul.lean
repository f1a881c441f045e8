/-
  The contract of nat.Mul.
-/
import Derived.Test.YtglabefefedfoaaTimes
namespace Go.Proofs.Ytglabefefedfoaa
open Go.RowKit

theorem made_zero (n : Nat) : (madeCells (Value.int .u64 0).cells (n * 1)).toList = (List.replicate n 0).map encD := by
  rw [Nat.mul_one, show (Value.int .u64 0).cells = #[Value.int .u64 0] from rfl, toList_madeCells_one, List.map_replicate]
  rfl

theorem val_zeros (n : Nat) : val (List.replicate n 0) = 0 := by
  induction n with
  | zero => rfl
  | succ n ih => rw [List.replicate_succ, val_cons, ih]; simp
theorem dig_zeros (n : Nat) : Dig (List.replicate n 0) := fun x hx => by rw [(List.mem_replicate.1 hx).2]; exact B64_pos
theorem get_zeros (n j : Nat) : (List.replicate n 0)[j]?.getD 0 = 0 := by
  by_cases h : j < n <;> simp [h]

set_option maxRecDepth 100000 in
set_option maxHeartbeats 2000000 in
theorem mul_lim (A B : Option Addr) (n c m d : Nat) (la lb : List Nat) (w : World) (ha : Lim w.heap.size w A n c la) (hb : Lim w.heap.size w B m d lb) (hn : n ≤ 2147483648) (hm : m ≤ 2147483648) :
    Calls Try.prog 27 #[.slice A n c, .slice B m d] w fun e w' => ∃ v, e = .returned v ∧ IsN w' v (val la * val lb) ∧ Below w.heap.size w w' := by
  obtain ⟨i0, hi, hz0, hz1, hz2⟩ := info_parts info24
  obtain ⟨s, hs⟩ : ∃ s, w.heap.size = s := ⟨_, rfl⟩
  rw [hs] at ha hb
  have HS := Lib.hid hs
  clear hs
  have hnl := Lib.hid ha.1
  have hml := Lib.hid hb.1
  go_enter Try.func27, Try.ntmps27
  go_wp2_with (at_make; refine wpList_make_full _ rfl _ _ 23 rfl s 24 i0 (.int .u64 0) 1 Try.underlying23 hi hz0 hz1 .i64 .i64 _ _ (n + m) rfl rfl (by omega) (by omega) (by rw [hz2]; omega) (by unfold maxLen; omega) (by rw [HS.out]; omega) ?_; intro w1 hown1 hgrow1; rw [made_zero] at hown1)
  rw [HS.out] at hown1 ⊢
  go_loopw [16] (fun iv wr => ∃ (k : Nat) (P : List Nat), k ≤ n ∧ iv = .int .i64 k ∧ Dig P ∧ Hid (val P = val (la.take k) * val lb) ∧ (∀ j, k + m ≤ j → Hid (P[j]?.getD 0 = 0)) ∧ wr.ownsRow s 24 1 (.slice (some ⟨s, 0, none⟩) (n + m) (n + m)) (n + m) (P.map encD) ∧ Below s w wr)
    (fun iv _ => n - (intOf iv).toNat)
  case atStart => exact ⟨0, List.replicate (n + m) 0, Nat.zero_le _, rfl, dig_zeros _, by rw [val_zeros]; simp [val_nil, Hid], fun j _ => get_zeros _ _, hown1, (Below.refl s w).grown hgrow1 (by have := HS.out; omega) (fun k h => by cases h)⟩
  case round =>
    obtain ⟨k, P, hk, rfl, hP, hv, hzs, hown, hbl⟩ := hrel
    by_cases hlt : k < n
    · obtain ⟨b, off, rfl, hblt, hcell⟩ := (ha.below hbl).2.2.2 (by omega)
      have h1 := hcell k hlt
      have hxl : la[k]?.getD 0 < B64 := ha.2.2.1.get k
      have hb' := hb.below hbl
      clear hcell
      have HV := Lib.hid hv
      clear hv
      go_wp2_with (go_at_call 40; refine (times_any s s (n + m) (n + m) k (n + m - k) (n + m - k) m d (la[k]?.getD 0) B P lb _ hb' hown hP hxl (by omega) (by omega) (by omega) (hzs _ (Nat.le_refl _)).out).mono ?_; rintro e w' ⟨rfl, P', q1, q2, q3, q4, q5⟩; have HQ := Lib.hid q3; clear q3)
      refine ⟨⟨k + 1, P', by omega, by go_num, q1, ?_, fun j hj => ?_, q4, hbl.grown q5 (by have := hbl.size; have := HS.out; omega) (fun j e => by cases e; exact Nat.le_refl _)⟩, by simp [intOf]; omega⟩
      · have e1 := HQ.out
        have e2 := HV.out
        rw [e2] at e1
        rw [e1, val_take_succ, Nat.add_mul, Nat.mul_assoc]
        exact Lib.hid rfl
      · have := q2 j (by omega)
        rw [this]
        exact hzs j (by omega)
    · obtain rfl : k = n := by omega
      have hlim := (Lim.of_own hown hP)
      have HV := Lib.hid hv
      clear hv
      go_wp2_with (go_at_call 35; refine (trim_lim _ _ _ _ _ _ hlim (by omega)).mono ?_; rintro e w' ⟨j, rfl, hj, rfl⟩)
      go_ret
      refine ⟨_, rfl, ⟨_, _, _, rfl, ?_⟩, by rw [HS.out]; exact hbl⟩
      rw [HV.out, List.take_of_length_le (by have := hnl.out; omega)] at hj
      exact hj

end Go.Proofs.Ytglabefefedfoaa
