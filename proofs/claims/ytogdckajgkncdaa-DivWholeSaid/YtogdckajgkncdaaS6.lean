/-
  The contract of div's guess.
-/
import Derived.WalkMore
import Derived.Test.YtogdckajgkncdaaS5
namespace Go.Proofs.Ytogdckajgkncdaa
open Go.RowKit

/-- What a guess sees of two rows of digits. -/
theorem seen_rows {Rl Dl : List Nat} {k v2 : Nat} (hR : Dig Rl) (hD : Dig Dl) (lR : Rl.length = k + 2) (lD : Dl.length = k + 1) (top : B64 ≤ 2 * Dl[k]?.getD 0) (hv2 : v2 = if k = 0 then 0 else Dl[k - 1]?.getD 0) :
    Seen (val Rl) (val Dl) (B64 ^ k) (Rl[k + 1]?.getD 0 * B64 + Rl[k]?.getD 0) (Dl[k]?.getD 0) v2 (val (Dl.take k)) (val (Rl.take k)) := by
  have e1 : val Dl = val (Dl.take k) + B64 ^ k * Dl[k]?.getD 0 := by rw [← val_take_succ, List.take_of_length_le (by omega)]
  have e2 : val Rl = val (Rl.take k) + B64 ^ k * Rl[k]?.getD 0 + B64 ^ (k + 1) * Rl[k + 1]?.getD 0 := by rw [← val_take_succ, ← val_take_succ, List.take_of_length_le (by omega)]
  have l1 : val (Dl.take k) < B64 ^ k := by have := val_lt (hD.take k); rw [List.length_take, Nat.min_eq_left (by omega)] at this; exact this
  have l2 : val (Rl.take k) < B64 ^ k := by have := val_lt (hR.take k); rw [List.length_take, Nat.min_eq_left (by omega)] at this; exact this
  have hv : v2 * B64 ^ k ≤ B64 * val (Dl.take k) ∧ B64 * val (Dl.take k) < (v2 + 1) * B64 ^ k ∧ v2 < B64 := by
    cases k with
    | zero => rw [hv2]; simp [val_nil, B64_pos]
    | succ j =>
      rw [if_neg (by omega), Nat.add_sub_cancel] at hv2
      have l3 : val (Dl.take j) < B64 ^ j := by have := val_lt (hD.take j); rw [List.length_take, Nat.min_eq_left (by omega)] at this; exact this
      rw [val_take_succ, ← hv2, Nat.pow_succ, Nat.mul_add, Nat.add_mul]
      have e3 : B64 * (B64 ^ j * v2) = v2 * (B64 ^ j * B64) := by ac_rfl
      have e4 : B64 * val (Dl.take j) < B64 ^ j * B64 := by rw [Nat.mul_comm]; exact Nat.mul_lt_mul_of_pos_right l3 B64_pos
      rw [e3]
      refine ⟨by omega, by omega, ?_⟩
      rw [hv2]; exact hD.get _
  refine ⟨by rw [e1, Nat.mul_comm]; omega, ?_, l1, l2, hv.1, hv.2.1, top, hD.get _, hv.2.2⟩
  rw [e2, Nat.add_mul, Nat.pow_succ]
  have e5 : Rl[k + 1]?.getD 0 * B64 * B64 ^ k = B64 ^ k * B64 * Rl[k + 1]?.getD 0 := by ac_rfl
  rw [e5, Nat.mul_comm (Rl[k]?.getD 0)]
  omega

theorem big_lit : (18446744073709551615 : Int) = ((B64 - 1 : Nat) : Int) := by unfold B64; omega

/-- A call has answered a guess. -/
def GotG (w : World) (R D : Nat) (e : Ending) (w' : World) : Prop := ∃ t : Nat, e = .returned (.int .u64 (t : Int)) ∧ Good R D t ∧ Below w.heap.size w w'

set_option maxRecDepth 100000 in
set_option maxHeartbeats 4000000 in
theorem guess_N (w : World) (g i cr b o cb k : Nat) (Rl Dl : List Nat) (hR : Lim w.heap.size w (some ⟨g, i, none⟩) (k + 2) cr Rl) (hD : Lim w.heap.size w (some ⟨b, o, none⟩) (k + 1) cb Dl)
    (hk : k ≤ 1000000) (top : B64 ≤ 2 * Dl[k]?.getD 0) (hlt : val Rl < B64 * val Dl) :
    Calls Try.prog 50 #[.slice (some ⟨g, i, none⟩) (k + 2) cr, .slice (some ⟨b, o, none⟩) (k + 1) cb] w (GotG w (val Rl) (val Dl)) := by
  obtain ⟨v2, hv2⟩ : ∃ v2, v2 = if k = 0 then 0 else Dl[k - 1]?.getD 0 := ⟨_, rfl⟩
  have hS := seen_rows hR.2.2.1 hD.2.2.1 hR.1.symm hD.1.symm top hv2
  have HS := Lib.hid hS
  have HV2 := Lib.hid hv2
  obtain ⟨v1, hv1⟩ : ∃ v1, v1 = Dl[k]?.getD 0 := ⟨_, rfl⟩
  have HV1 := Lib.hid hv1
  clear hS hv2 hv1
  have HLT := Lib.hid hlt
  have HT := Lib.hid top
  clear hlt top
  go_enter Try.func50, Try.ntmps50
  go_wp2_with fail
  go_step3
  go_upto_region 2 with fail
  go_cut [6, 7] (fun tv sv wx => tv = .int .u64 (v1 : Int) ∧ sv = .int .u64 (v2 : Int) ∧ Below w.heap.size w wx)
  case first =>
    obtain ⟨b', o', e, hb, hcell⟩ := hD.2.2.2 (by omega)
    injection e with e
    injection e with e1 e2
    subst e1; subst e2
    have h1 := hcell k (by omega)
    rw [← HV1.out] at h1
    have i1 : (0 : Int) ≤ (k : Int) := by omega
    have i2 : (k : Int) < (k : Int) + 1 := by omega
    clear hcell
    by_cases hk0 : k = 0
    · have hw : IntKind.i64.wrap ((k : Int) - 1) = -1 := by rw [hk0]; rfl
      have hz : v2 = 0 := by rw [HV2.out, if_pos hk0]
      have HZ := Lib.hid hz
      clear hk0 hz
      go_region_held3 (fun w' => w'.cell? ⟨b, o + k, none⟩ = some (.int .u64 (v1 : Int))) (go_keep) ((go_at_call 46; refine (dlimb_neg _ _ _ _).mono ?_; rintro e w' ⟨rfl, rfl⟩))
      clear hw
      go_wp2_with fail
      go_meet
      exact ⟨rfl, by rw [HZ.out]; rfl, below_drewN (Below.refl _ w) 1⟩
    · obtain ⟨j, hj⟩ : ∃ j, k = j + 1 := ⟨k - 1, by omega⟩
      have hw : IntKind.i64.wrap ((k : Int) - 1) = (j : Int) := by rw [IntWalk.i64_in _ (by omega)]; omega
      have hz : v2 = Dl[j]?.getD 0 := by rw [HV2.out, if_neg hk0, hj, Nat.add_sub_cancel]
      have hjk : j ≤ 1000000 := by omega
      have HZ := Lib.hid hz
      clear hk0 hz hj
      have hc := dlimb_any _ _ _ _ j _ w.drew hD (by omega) (by omega)
      have HC := Lib.hid hc
      clear hc
      go_region_held3 (fun w' => w'.cell? ⟨b, o + k, none⟩ = some (.int .u64 (v1 : Int))) (go_keep) ((go_at_call 46; refine HC.out.mono ?_; rintro e w' ⟨rfl, rfl⟩))
      clear hw
      go_wp2_with fail
      go_meet
      exact ⟨rfl, by rw [HZ.out], below_drewN (Below.refl _ w) 1⟩
  case rest =>
    obtain ⟨rfl, rfl, hB⟩ := hcut
    have hR' := hR.on hB
    obtain ⟨g', i', e, hg, hcell⟩ := hR'.2.2.2 (by omega)
    injection e with e
    injection e with e1 e2
    subst e1; subst e2
    obtain ⟨u2, hu2⟩ : ∃ u, u = Rl[k + 1]?.getD 0 := ⟨_, rfl⟩
    obtain ⟨u1, hu1⟩ : ∃ u, u = Rl[k]?.getD 0 := ⟨_, rfl⟩
    have h1 := hcell (k + 1) (by omega)
    have h2 := hcell k (by omega)
    rw [← hu2] at h1
    rw [← hu1] at h2
    have hS := HS.out
    rw [← hu2, ← hu1, ← HV1.out] at hS
    have hu2l : u2 < B64 := by rw [hu2]; exact hR.2.2.1.get _
    have hu1l : u1 < B64 := by rw [hu1]; exact hR.2.2.1.get _
    have hv1l := hS.v1lt
    have hv2l := hS.v2lt
    have htop := hS.top
    have HSS := Lib.hid hS
    clear hcell hu2 hu1 hS HS
    by_cases hge : v1 ≤ u2
    · have hgood := HSS.out.great (by
        have h3 : v1 * B64 ≤ u2 * B64 := Nat.mul_le_mul_right _ hge
        omega) HLT.out
      have HG := Lib.hid hgood
      clear hgood
      go_wp2_with fail
      try rw [Exit.noGoto_ret]
      go_ret
      exact ⟨B64 - 1, by rw [← big_lit]; rfl, HG.out, hB⟩
    · have hlt2 : u2 < v1 := by omega
      obtain ⟨t0, ht0⟩ : ∃ t, t = (u2 * B64 + u1) / v1 := ⟨_, rfl⟩
      obtain ⟨h0, hh0⟩ : ∃ h, h = (u2 * B64 + u1) % v1 := ⟨_, rfl⟩
      have hdv : ∀ W, Calls Try.prog 56 #[.int .u64 (u2 : Int), .int .u64 (u1 : Int), .int .u64 (v1 : Int)] W fun e w' => e = .returned (.tuple #[.int .u64 (t0 : Int), .int .u64 (h0 : Int)]) ∧ ∃ n, w' = W.drewN n := by
        rw [ht0, hh0]
        exact fun W => div64_any u2 u1 v1 W hlt2 hu1l hv1l htop
      have HDV := Lib.hid hdv
      have hv1p : 0 < v1 := by omega
      have hh0l : h0 < v1 := by rw [hh0]; exact Nat.mod_lt _ hv1p
      have hsum : t0 * v1 + h0 = u2 * B64 + u1 := by rw [ht0, hh0, Nat.mul_comm]; exact Nat.div_add_mod _ _
      have ht0l : t0 < B64 := by
        rw [ht0, Nat.div_lt_iff_lt_mul hv1p, Nat.mul_comm B64]
        have h3 : (u2 + 1) * B64 ≤ v1 * B64 := Nat.mul_le_mul_right _ hlt2
        rw [Nat.add_mul] at h3
        omega
      have hfirst := HSS.out.first hsum hh0l
      have HSU := Lib.hid hsum
      have HFI := Lib.hid hfirst
      have i1 : (0 : Int) ≤ (k : Int) := by omega
      have i2 : (k : Int) < (k : Int) + 2 := by omega
      have i3 : IntKind.i64.wrap ((k : Int) + 1) = (k : Int) + 1 := IntWalk.i64_in _ (by omega)
      have i4 : (0 : Int) ≤ (k : Int) + 1 := by omega
      have i5 : (k : Int) + 1 < (k : Int) + 2 := by omega
      clear hdv ht0 hh0 hsum hfirst
      go_wp2_with fail
      go_region_held3 (fun w' => w'.cell? ⟨g, i + (k + 1), none⟩ = some (.int .u64 (u2 : Int)) ∧ w'.cell? ⟨g, i + k, none⟩ = some (.int .u64 (u1 : Int))) (first | go_keep | (rw [World.cell?_drewN, World.cell?_drewN]; go_keep)) ((go_at_call 56; refine (HDV.out _).mono ?_; rintro e w' ⟨rfl, nq, rfl⟩))
      clear i1 i2 i3 i4 i5
      go_wp2_with fail
      go_step3
      go_wp2_with fail
      have hW : Below w.heap.size w (wc.drewN (1 + nq)) := below_drewN hB _
      generalize wc.drewN (1 + nq) = W at *
      go_loop [8, 9, 10] (fun tv lv ov => ∃ t l o : Nat, tv = .int .u64 (t : Int) ∧ lv = .int .u64 (l : Int) ∧ ov = .int .u64 (o : Int) ∧ o ≤ 1 ∧ t < B64 ∧ l < B64 ∧ Hid (t * v1 + (l + B64 * o) = u2 * B64 + u1) ∧ Hid (val Rl < (t + 1) * val Dl)) (fun tv _ _ => (intOf tv).toNat)
      case atStart => exact ⟨t0, h0, 0, rfl, rfl, rfl, by omega, ht0l, by omega, Lib.hid (by rw [Nat.mul_zero, Nat.add_zero]; exact HSU.out), HFI⟩
      case round =>
        obtain ⟨t, l, ov, rfl, rfl, rfl, ho, htl, hll, HE, HL⟩ := hrel
        have hfin : t * v2 < (l + B64 * ov + 1) * B64 → GotG w (val Rl) (val Dl) (.returned (.int .u64 (t : Int))) W := fun h => ⟨t, rfl, ⟨HL.out, HSS.out.done HE.out htl h, htl⟩, hW⟩
        have HFN := Lib.hid hfin
        clear hfin
        by_cases ho1 : ov = 0
        · subst ho1
          by_cases hp : l < mulHi t v2
          · have hc : (l + 1) * B64 ≤ t * v2 := by
              rcases Nat.lt_or_ge (t * v2) ((l + 1) * B64) with h3 | h3
              · have := mulHi_le_iff.2 h3; omega
              · exact h3
            have hE := HE.out
            rw [Nat.mul_zero, Nat.add_zero] at hE
            have hless := HSS.out.less hE hc
            have htp : 0 < t := by
              rcases Nat.eq_zero_or_pos t with h3 | h3
              · subst h3; have := B64_pos; rw [Nat.zero_mul, Nat.add_mul] at hc; omega
              · exact h3
            obtain ⟨t', ht'⟩ : ∃ t', t = t' + 1 := ⟨t - 1, by omega⟩
            have c1 : IntKind.u64.wrap ((t : Int) - 1) = (t' : Int) := by rw [IntKind.wrap_u64]; unfold B64 at htl; omega
            have c2 := add64_run0 l v1
            have hss := sum_split l v1 0
            have hsl := sumLo_lt l v1 0
            have hsh := sumHi_le hll hv1l (Nat.zero_le 1)
            have HE' : Hid (t' * v1 + (sumLo l v1 0 + B64 * sumHi l v1 0) = u2 * B64 + u1) := Lib.hid (by
              rw [hss, ← hE, ht', Nat.add_mul]; omega)
            have HL' : Hid (val Rl < (t' + 1) * val Dl) := Lib.hid (by rw [← ht']; exact hless)
            have htt : t' < t := by omega
            have ht'l : t' < B64 := by omega
            clear hE hless hss hc ht' htp HE HL
            go_wp2_with (go_at_call 57; refine (mul64_any _ _ _ htl hv2l).mono ?_; rintro e w' ⟨rfl, rfl⟩)
            go_round
            case rel => exact ⟨t', sumLo l v1 0, sumHi l v1 0, rfl, rfl, rfl, hsh, ht'l, hsl, HE', HL'⟩
            case measure => simp [intOf]; omega
          · have hc : t * v2 < (l + 1) * B64 := mulHi_le_iff.1 (by omega)
            have HC := Lib.hid hc
            clear hc
            go_wp2_with (go_at_call 57; refine (mul64_any _ _ _ htl hv2l).mono ?_; rintro e w' ⟨rfl, rfl⟩)
            try rw [Exit.noGoto_ret]
            go_ret
            exact HFN.out (by rw [Nat.mul_zero, Nat.add_zero]; exact HC.out)
        · obtain rfl : ov = 1 := by omega
          have hc : t * v2 < (l + B64 * 1 + 1) * B64 := by
            have h3 : t * v2 ≤ B64 * B64 := Nat.mul_le_mul (by omega) (by omega)
            have h4 : B64 * B64 < (l + B64 * 1 + 1) * B64 := Nat.mul_lt_mul_of_pos_right (by omega) B64_pos
            omega
          have HC := Lib.hid hc
          clear hc
          go_wp2_with fail
          try rw [Exit.noGoto_ret]
          go_ret
          exact HFN.out HC.out
end Go.Proofs.Ytogdckajgkncdaa
