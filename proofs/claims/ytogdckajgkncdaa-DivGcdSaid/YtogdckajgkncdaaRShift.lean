/-
  The contracts of the second reference's power, bit, Shl and Shr.
-/
import Derived.Test.YtogdckajgkncdaaMathD
import Derived.Test.YtogdckajgkncdaaRMul
namespace Go.Proofs.Ytogdckajgkncdaa
open Go.RowKit

theorem made_zeros (n : Nat) : (madeCells (Value.int .u64 0).cells (n * 1)).toList = (List.replicate n 0).map encD := by
  rw [Nat.mul_one, show (Value.int .u64 0).cells = #[Value.int .u64 0] from rfl, toList_madeCells_one, List.map_replicate]
  rfl

theorem wrap_pw {k : Nat} (h : k + 1 < 64) : IntKind.u64.wrap ((pw k : Int) * 2) = (pw (k + 1) : Int) := by
  have h1 := pw_lt h
  rw [pw_succ] at h1 ⊢
  rw [IntKind.wrap_u64]
  unfold B64 at h1
  omega

set_option maxRecDepth 100000 in
set_option maxHeartbeats 2000000 in
theorem power_N (w : World) (n : Nat) (hn : n ≤ 20000) : Calls Try.prog 34 #[.int .i64 (n : Int)] w (GotN w (2 ^ n)) := by
  obtain ⟨i0, hi, hz0, hz1, hz2⟩ := info_parts info24
  obtain ⟨s, hs⟩ : ∃ s, w.heap.size = s := ⟨_, rfl⟩
  have HS := Lib.hid hs
  clear hs
  go_enter Try.func34, Try.ntmps34
  go_wp2_with (at_make; refine wpList_make_full _ rfl _ _ 23 rfl s 38 i0 (.int .u64 0) 1 Try.underlying23 hi hz0 hz1 .i64 .i64 _ _ (n / 64 + 1) rfl rfl (by omega) (by omega) (by rw [hz2]; omega) (by unfold maxLen; omega) (by rw [HS.out]; omega) ?_; intro w1 hown1 hgrow1; rw [made_zeros] at hown1)
  rw [HS.out] at hown1 ⊢
  go_loop [4, 5] (fun ov iv => ∃ k : Nat, k ≤ n % 64 ∧ iv = .int .i64 (k : Int) ∧ ov = .int .u64 (pw k : Int)) (fun _ iv => n % 64 - (intOf iv).toNat)
  case atStart => exact ⟨0, Nat.zero_le _, rfl, rfl⟩
  case round =>
    obtain ⟨k, hk, rfl, rfl⟩ := hrel
    by_cases hlt : k < n % 64
    · go_wp2
      go_round
      case rel => exact ⟨k + 1, by omega, by go_num, congrArg (Value.int .u64) (wrap_pw (by omega))⟩
      case measure => simp [intOf]; omega
    · have hk' : k = n % 64 := by omega
      have hf := hown1.frozenAt (n / 64)
      have hc : w1.cell? ⟨s, n / 64, none⟩ = some (.int .u64 0) := by
        rw [hown1.cellAt (n / 64) (by omega)]
        simp [encD]
      have hst := hown1.stored (n / 64) (.int .u64 (pw k : Int))
      have HK := Lib.hid hk'
      have HST := Lib.hid hst
      have HO := Lib.hid hown1
      clear hk' hst hown1
      go_wp2
      go_ret
      have hl : (List.replicate (n / 64 + 1) 0).set (n / 64) (pw k) = limbs (2 ^ n) := by rw [HK.out]; exact pw_limbs n
      have hrow := HST.out.1
      rw [show (Value.int IntKind.u64 (pw k : Int)) = encD (pw k) from rfl, ← List.map_set, hl] at hrow
      refine ⟨_, _, _, rfl, Lim.of_own hrow (limbs_dig _), ?_⟩
      rw [HS.out]
      exact ((Below.refl s w).grown hgrow1 (by have := HS.out; omega) (fun k h => by cases h)).grown HST.out.2 (by have := hgrow1.size; have := HS.out; omega) (fun q e => by cases e; exact Nat.le_refl _)

theorem wrap_sh {g k : Nat} (h : g < B64) : IntKind.u64.wrap (((g / 2 ^ k : Nat) : Int) / 2) = ((g / 2 ^ (k + 1) : Nat) : Int) := by
  have h1 : g / 2 ^ k < B64 := Nat.lt_of_le_of_lt (Nat.div_le_self _ _) h
  rw [Nat.pow_succ, ← Nat.div_div_eq_div_mul]
  generalize g / 2 ^ k = t at *
  rw [IntKind.wrap_u64]
  unfold B64 at h1
  omega
/-- Shifted down by k places, behind a name. -/
def sd (g k : Nat) : Nat := g / 2 ^ k
theorem sd_step {g k : Nat} (h : g < B64) : IntKind.u64.wrap ((sd g k : Int) / 2) = (sd g (k + 1) : Int) := wrap_sh h
theorem sd_zero (g : Nat) : sd g 0 = g := Nat.div_one g

set_option maxRecDepth 100000 in
set_option maxHeartbeats 2000000 in
theorem bit_N {w : World} {A : Option Addr} {n c x i : Nat} (ha : Num w A n c x) (hn : n ≤ 1000000) (hin : i < 64 * n) : Calls Try.prog 41 #[.slice A n c, .int .i64 (i : Int)] w fun e w' => e = .returned (.int .u64 (bitN x i : Int)) ∧ w = w' := by
  obtain ⟨b, off, rfl, hb, hcell⟩ := ha.2.2.2 (by omega)
  have hc := hcell (i / 64) (by omega)
  rw [limbs_get] at hc
  have hd := dig_lt x (i / 64)
  have hbd := bitN_dig x i
  have HB := Lib.hid hbd
  clear hcell hbd
  generalize dig x (i / 64) = g at *
  go_enter Try.func41, Try.ntmps41
  go_wp2
  go_loop [5, 6] (fun ov iv => ∃ k : Nat, k ≤ i % 64 ∧ iv = .int .i64 (k : Int) ∧ ov = .int .u64 (sd g k : Int)) (fun _ iv => i % 64 - (intOf iv).toNat)
  case atStart => exact ⟨0, Nat.zero_le _, rfl, by rw [sd_zero]⟩
  case round =>
    obtain ⟨k, hk, rfl, rfl⟩ := hrel
    by_cases hlt : k < i % 64
    · go_wp2
      go_round
      case rel => exact ⟨k + 1, by omega, by go_num, congrArg (Value.int .u64) (sd_step hd)⟩
      case measure => simp [intOf]; omega
    · have hk' : k = i % 64 := by omega
      have HK := Lib.hid hk'
      clear hk'
      go_wp2
      go_ret
      refine ⟨?_, rfl⟩
      rw [← HB.out, ← HK.out]
      refine congrArg Ending.returned (congrArg (Value.int .u64) ?_)
      show ((sd g k : Int)).tmod 2 = ((sd g k % 2 : Nat) : Int)
      rw [Int.tmod_eq_emod_of_nonneg (by omega)]
      omega

set_option maxHeartbeats 2000000 in
theorem rshl_N {w : World} {A : Option Addr} {m c x n : Nat} (ha : Num w A m c x) (hx : (limbs x).length ≤ 1000) (hn : n ≤ 20000) : Calls Try.prog 13 #[.slice A m c, .int .i64 (n : Int)] w (GotP w (x * 2 ^ n) 0) := by
  have hp : (limbs (2 ^ n)).length ≤ 1000 := by
    refine Nat.le_trans (limbs_length_le (k := n / 64 + 1) ?_) (by omega)
    rw [B64_pow2]
    exact (Nat.pow_lt_pow_iff_right (by omega)).2 (by omega)
  have HP := Lib.hid hp
  clear hp
  go_enter Try.func13, Try.ntmps13
  go_wp2_with fail
  refine (power_N _ n hn).mono ?_
  rintro e w1 ⟨A1, n1, c1, rfl, h1, b1⟩
  go_wp2_with fail
  refine (rmul_N (ha.on b1) h1 (by omega) (by have := HP.out; omega)).mono ?_
  rintro e w2 ⟨A2, n2, c2, rfl, h2, b2⟩
  go_wp2_with fail
  go_ret2
  exact ⟨A2, n2, c2, rfl, h2, b1.trans (b2.mono b1.size)⟩

set_option maxHeartbeats 1000000 in
theorem rshl_no (w : World) (A : Option Addr) (m c : Nat) (n : Int) (hn : n < 0 ∨ 20000 < n) : Calls Try.prog 13 #[.slice A m c, .int .i64 n] w (GotV w (.tuple #[.slice none 0 0, .int .i64 1])) := by
  rcases hn with h | h
  · go_enter Try.func13, Try.ntmps13
    go_wp2
    go_ret2
    exact ⟨rfl, Below.refl _ _⟩
  · have h0 : ¬ n < 0 := by omega
    go_enter Try.func13, Try.ntmps13
    go_wp2
    go_ret2
    exact ⟨rfl, Below.refl _ _⟩

set_option maxHeartbeats 1000000 in
theorem rshr_no (w : World) (A : Option Addr) (m c : Nat) (n : Int) (hn : n < 0 ∨ 20000 < n) : Calls Try.prog 15 #[.slice A m c, .int .i64 n] w (GotV w (.tuple #[.slice none 0 0, .int .i64 1])) := by
  rcases hn with h | h
  · go_enter Try.func15, Try.ntmps15
    go_wp2
    go_ret2
    exact ⟨rfl, Below.refl _ _⟩
  · have h0 : ¬ n < 0 := by omega
    go_enter Try.func15, Try.ntmps15
    go_wp2
    go_ret2
    exact ⟨rfl, Below.refl _ _⟩

/-- A step of the inner loop, as the walk has it. -/
theorem wrap_step {x y k : Nat} (hx : x < B64) :
    IntKind.u64.wrap (IntKind.u64.wrap ((sh2 x y k : Int) / 2) + (sd y k : Int) % 2 * 9223372036854775808) = (sh2 x y (k + 1) : Int) := by
  have h1 := sh2_lt x y (k + 1)
  have h2 := sh2_succ hx y k
  rw [show y / 2 ^ k = sd y k from rfl] at h2
  have h3 := sh2_lt x y k
  generalize sh2 x y k = a at *
  generalize sh2 x y (k + 1) = b at *
  generalize sd y k = c at *
  simp only [IntKind.wrap_u64]
  unfold B64 at h1 h3
  omega

set_option maxRecDepth 100000 in
set_option maxHeartbeats 4000000 in
theorem rshr_F {w : World} {A : Option Addr} {m c x n : Nat} (ha : Num w A m c x) (hx : (limbs x).length ≤ 1000) (hn : n ≤ 20000) : Calls Try.prog 15 #[.slice A m c, .int .i64 (n : Int)] w (GotPF w (x / 2 ^ n) 0) := by
  obtain ⟨i0, hi, hz0, hz1, hz2⟩ := info_parts info24
  have hm : m ≤ 1000 := by rw [ha.len]; exact hx
  have hlt0 : x / 2 ^ n < B64 ^ (m - n / 64) := shr_lt (by rw [ha.len]; exact lt_of_limbs_length (Nat.le_refl _))
  have HLT := Lib.hid hlt0
  clear hlt0 hx
  go_enter Try.func15, Try.ntmps15
  go_wp2_with fail
  go_loopw [6, 7] (fun ov iv wr => ∃ k g cap : Nat, (k ≤ m - n / 64) ∧ iv = .int .i64 ((n / 64 + k : Nat) : Int) ∧ ov = .slice (some ⟨g, 0, none⟩) k cap ∧ wr.ownsRow w.heap.size 38 1 (.slice (some ⟨g, 0, none⟩) k cap) k ((digs (x / 2 ^ n) k).map encD) ∧ Below w.heap.size w wr) (fun _ iv _ => m - (intOf iv).toNat)
  case atStart => exact ⟨0, w.heap.size, 0, Nat.zero_le _, by go_num, rfl, own_empty w _ (Nat.le_refl _), (Below.refl _ w).alloc (Nat.le_refl _) _⟩
  case round =>
    obtain ⟨k, g, cap, hk, rfl, rfl, hown, hbl⟩ := hrel
    by_cases hlt : n / 64 + k < m
    · obtain ⟨b, off, rfl, hb, hcell⟩ := (ha.on hbl).2.2.2 (by omega)
      have h1 := hcell (n / 64 + k) hlt
      rw [limbs_get] at h1
      have hd1 := dig_lt x (n / 64 + k)
      have hd2 := dig_lt x (n / 64 + k + 1)
      have hsd := shr_dig x n k
      have HSD := Lib.hid hsd
      have hgl := hown.lt g rfl
      have HO := Lib.hid hown
      clear hown hsd
      obtain ⟨wo, hwo⟩ : ∃ wo : World, wo = wr := ⟨_, rfl⟩
      subst hwo
      have h2 : n / 64 + k + 1 < m → wo.cell? ⟨b, off + (n / 64 + k + 1), none⟩ = some (.int .u64 ((dig x (n / 64 + k + 1) : Nat) : Int)) := fun h => by
        have := hcell (n / 64 + k + 1) h
        rw [limbs_get] at this
        exact this
      have h2z : ¬ n / 64 + k + 1 < m → dig x (n / 64 + k + 1) = 0 := fun h => by
        rw [← limbs_get, List.getElem?_eq_none (by have := ha.len; omega)]; rfl
      clear hcell
      by_cases hlt2 : n / 64 + k + 1 < m
      · have h3 := h2 hlt2
        clear h2 h2z
        generalize dig x (n / 64 + k) = p at *
        generalize dig x (n / 64 + k + 1) = q at *
        go_wp2_with fail
        go_loop [8, 9, 10] (fun xv yv jv => ∃ j : Nat, j ≤ n % 64 ∧ jv = .int .i64 (j : Int) ∧ xv = .int .u64 (sh2 p q j : Int) ∧ yv = .int .u64 (sd q j : Int)) (fun _ _ jv => n % 64 - (intOf jv).toNat)
        case atStart => exact ⟨0, Nat.zero_le _, rfl, by rw [sh2_zero hd1], by rw [sd_zero]⟩
        case round =>
          obtain ⟨j, hj, rfl, rfl, rfl⟩ := hrel
          by_cases hltj : j < n % 64
          · go_wp2
            go_round
            case rel => exact ⟨j + 1, by omega, by go_num, congrArg (Value.int .u64) (wrap_step hd1), congrArg (Value.int .u64) (sd_step hd2)⟩
            case measure => simp [intOf]; omega
          · have hje : j = n % 64 := by omega
            have HJ := Lib.hid hje
            clear hje
            go_wp2_with (at_builtin; refine wpList_append_lies _ rfl _ _ 23 rfl w.heap.size 38 i0 (.int .u64 0) 1 8 Try.underlying23 hi hz0 hz1 hz2 rfl (by decide) _ _ _ rfl (HO.out.alloc _) ⟨wo.heap.size, 0, none⟩ 1 1 [.int .u64 (sh2 p q j : Int)] rfl rfl (cell_one_new _ _ _) (by simp [Value.oneCell']) (by omega) (by unfold maxLen; omega) (by omega) (by simp; have := hbl.size; omega) _ rfl ?_; intro g1 cap1 w1 hown1 hgrow1 hat hlt1)
            go_roundw
            case rel =>
              refine ⟨k + 1, g1, cap1, by omega, by go_num, rfl, ?_, ?_⟩
              · rw [HJ.out, HSD.out] at hown1
                rw [digs_succ, List.map_append]
                exact hown1
              · exact (hbl.alloc hbl.size _).grown hgrow1 (by simp; have := hbl.size; omega) (fun q e => by injection (show some g = some q from e) with e1; omega)
            case measure => simp [intOf]; omega
      · have h3 := h2z hlt2
        clear h2 h2z
        generalize dig x (n / 64 + k) = p at *
        generalize dig x (n / 64 + k + 1) = q at *
        have HQ := Lib.hid h3
        clear h3
        go_wp2_with fail
        go_loop [8, 9, 10] (fun xv yv jv => ∃ j : Nat, j ≤ n % 64 ∧ jv = .int .i64 (j : Int) ∧ xv = .int .u64 (sh2 p q j : Int) ∧ yv = .int .u64 (sd q j : Int)) (fun _ _ jv => n % 64 - (intOf jv).toNat)
        case atStart => exact ⟨0, Nat.zero_le _, rfl, by rw [sh2_zero hd1], by rw [sd_zero, HQ.out]; rfl⟩
        case round =>
          obtain ⟨j, hj, rfl, rfl, rfl⟩ := hrel
          by_cases hltj : j < n % 64
          · go_wp2
            go_round
            case rel => exact ⟨j + 1, by omega, by go_num, congrArg (Value.int .u64) (wrap_step hd1), congrArg (Value.int .u64) (sd_step hd2)⟩
            case measure => simp [intOf]; omega
          · have hje : j = n % 64 := by omega
            have HJ := Lib.hid hje
            clear hje
            go_wp2_with (at_builtin; refine wpList_append_lies _ rfl _ _ 23 rfl w.heap.size 38 i0 (.int .u64 0) 1 8 Try.underlying23 hi hz0 hz1 hz2 rfl (by decide) _ _ _ rfl (HO.out.alloc _) ⟨wo.heap.size, 0, none⟩ 1 1 [.int .u64 (sh2 p q j : Int)] rfl rfl (cell_one_new _ _ _) (by simp [Value.oneCell']) (by omega) (by unfold maxLen; omega) (by omega) (by simp; have := hbl.size; omega) _ rfl ?_; intro g1 cap1 w1 hown1 hgrow1 hat hlt1)
            go_roundw
            case rel =>
              refine ⟨k + 1, g1, cap1, by omega, by go_num, rfl, ?_, ?_⟩
              · rw [HJ.out, HSD.out] at hown1
                rw [digs_succ, List.map_append]
                exact hown1
              · exact (hbl.alloc hbl.size _).grown hgrow1 (by simp; have := hbl.size; omega) (fun q e => by injection (show some g = some q from e) with e1; omega)
            case measure => simp [intOf]; omega
    · have hlim := Lim.of_own hown (digs_dig _ _)
      have hkm : m - n / 64 ≤ k := by omega
      have hv : val (digs (x / 2 ^ n) k) = x / 2 ^ n := digs_all (Nat.lt_of_lt_of_le HLT.out (Nat.pow_le_pow_right B64_pos hkm))
      have HV := Lib.hid hv
      clear hv hown
      go_wp2_with fail
      refine (bare_limF hlim (by omega)).mono ?_
      rintro e w1 ⟨A1, n1, c1, rfl, hl1, b1, f1⟩
      go_wp2_with fail
      go_ret2
      rw [HV.out] at hl1
      exact ⟨A1, n1, c1, rfl, hl1, hbl.trans (b1.mono hbl.size), f1.mono hbl.size⟩

theorem rshr_N {w : World} {A : Option Addr} {m c x n : Nat} (ha : Num w A m c x) (hx : (limbs x).length ≤ 1000) (hn : n ≤ 20000) : Calls Try.prog 15 #[.slice A m c, .int .i64 (n : Int)] w (GotP w (x / 2 ^ n) 0) := (rshr_F ha hx hn).mono fun _ _ h => h.weak

end Go.Proofs.Ytogdckajgkncdaa
