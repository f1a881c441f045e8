/-
  Several texts in one: S6, S7, S8, D, QR, QS.
-/
import Derived.WalkMore
import Derived.Test.YtanpklbconflmaaGreatA7
import Derived.Test.YtanpklbconflmaaGreatA4
import Derived.Test.YtanpklbconflmaaGreatA3

/-
  The contract of div's guess.
-/
namespace Go.Proofs.YtanpklbconflmaaGreat
set_option maxRecDepth 100000
open Go.RowKit

/-- What a guess sees of two rows of digits. -/
theorem seen_rows {Rl Dl : List Nat} {k v2 : Nat} (hR : Dig Rl) (hD : Dig Dl) (lR : Rl.length = k + 2) (lD : Dl.length = k + 1) (top : B64 ≤ 2 * Dl[k]?.getD 0) (hv2 : v2 = if k = 0 then 0 else Dl[k - 1]?.getD 0) :
    Seen (val Rl) (val Dl) (B64 ^ k) (Rl[k + 1]?.getD 0 * B64 + Rl[k]?.getD 0) (Dl[k]?.getD 0) v2 (val (Dl.take k)) (val (Rl.take k)) := by
  have e1 : val Dl = val (Dl.take k) + B64 ^ k * Dl[k]?.getD 0 := by rw [← val_take_succ, List.take_of_length_le (by omega)]
  have e2 : val Rl = val (Rl.take k) + B64 ^ k * Rl[k]?.getD 0 + B64 ^ (k + 1) * Rl[k + 1]?.getD 0 := by rw [← val_take_succ, ← val_take_succ, List.take_of_length_le (by omega)]
  have l1 : val (Dl.take k) < B64 ^ k := by have := val_lt (hD.take k); rw [List.length_take, Nat.min_eq_left (by omega)] at this; exact this
  have l2 : val (Rl.take k) < B64 ^ k := by have := val_lt (hR.take k); rw [List.length_take, Nat.min_eq_left (by omega)] at this; exact this
  have hv : v2 * B64 ^ k ≤ B64 * val (Dl.take k) ∧ B64 * val (Dl.take k) < (v2 + 1) * B64 ^ k ∧ v2 < B64 := by
    cases k with
    | zero => rw [hv2]; simp [val_nil, B64_pos]
    | succ j =>
      rw [if_neg (by omega), Nat.add_sub_cancel] at hv2
      have l3 : val (Dl.take j) < B64 ^ j := by have := val_lt (hD.take j); rw [List.length_take, Nat.min_eq_left (by omega)] at this; exact this
      rw [val_take_succ, ← hv2, Nat.pow_succ, Nat.mul_add, Nat.add_mul]
      have e3 : B64 * (B64 ^ j * v2) = v2 * (B64 ^ j * B64) := by ac_rfl
      have e4 : B64 * val (Dl.take j) < B64 ^ j * B64 := by rw [Nat.mul_comm]; exact Nat.mul_lt_mul_of_pos_right l3 B64_pos
      rw [e3]
      refine ⟨by omega, by omega, ?_⟩
      rw [hv2]; exact hD.get _
  refine ⟨by rw [e1, Nat.mul_comm]; omega, ?_, l1, l2, hv.1, hv.2.1, top, hD.get _, hv.2.2⟩
  rw [e2, Nat.add_mul, Nat.pow_succ]
  have e5 : Rl[k + 1]?.getD 0 * B64 * B64 ^ k = B64 ^ k * B64 * Rl[k + 1]?.getD 0 := by ac_rfl
  rw [e5, Nat.mul_comm (Rl[k]?.getD 0)]
  omega

theorem big_lit : (18446744073709551615 : Int) = ((B64 - 1 : Nat) : Int) := by unfold B64; omega

/-- A call has answered a guess. -/
def GotG (w : World) (R D : Nat) (e : Ending) (w' : World) : Prop := ∃ t : Nat, e = .returned (.int .u64 (t : Int)) ∧ Good R D t ∧ Below w.heap.size w w'

set_option maxHeartbeats 4000000 in
theorem guess_N (w : World) (g i cr b o cb k : Nat) (Rl Dl : List Nat) (hR : Lim w.heap.size w (some ⟨g, i, none⟩) (k + 2) cr Rl) (hD : Lim w.heap.size w (some ⟨b, o, none⟩) (k + 1) cb Dl)
    (hk : k ≤ 1000000) (top : B64 ≤ 2 * Dl[k]?.getD 0) (hlt : val Rl < B64 * val Dl) :
    Calls Tryz.prog 148 #[.slice (some ⟨g, i, none⟩) (k + 2) cr, .slice (some ⟨b, o, none⟩) (k + 1) cb] w (GotG w (val Rl) (val Dl)) := by
  obtain ⟨v2, hv2⟩ : ∃ v2, v2 = if k = 0 then 0 else Dl[k - 1]?.getD 0 := ⟨_, rfl⟩
  have hS := seen_rows hR.2.2.1 hD.2.2.1 hR.1.symm hD.1.symm top hv2
  have HS := Lib.hid hS
  have HV2 := Lib.hid hv2
  obtain ⟨v1, hv1⟩ : ∃ v1, v1 = Dl[k]?.getD 0 := ⟨_, rfl⟩
  have HV1 := Lib.hid hv1
  clear hS hv2 hv1
  have HLT := Lib.hid hlt
  have HT := Lib.hid top
  clear hlt top
  go_enter Tryz.func148, Tryz.ntmps148
  go_wp2_with fail
  go_step3
  go_upto_region 2 with fail
  go_cut [6, 7] (fun tv sv wx => tv = .int .u64 (v1 : Int) ∧ sv = .int .u64 (v2 : Int) ∧ Below w.heap.size w wx)
  case first =>
    obtain ⟨b', o', e, hb, hcell⟩ := hD.2.2.2 (by omega)
    injection e with e
    injection e with e1 e2
    subst e1; subst e2
    have h1 := hcell k (by omega)
    rw [← HV1.out] at h1
    have i1 : (0 : Int) ≤ (k : Int) := by omega
    have i2 : (k : Int) < (k : Int) + 1 := by omega
    clear hcell
    by_cases hk0 : k = 0
    · have hw : IntKind.i64.wrap ((k : Int) - 1) = -1 := by rw [hk0]; rfl
      have hz : v2 = 0 := by rw [HV2.out, if_pos hk0]
      have HZ := Lib.hid hz
      clear hk0 hz
      go_region_held3 (fun w' => w'.cell? ⟨b, o + k, none⟩ = some (.int .u64 (v1 : Int))) (go_keep) ((go_at_call 151; refine (dlimb_neg _ _ _ _).mono ?_; rintro e w' ⟨rfl, rfl⟩))
      clear hw
      go_wp2_with fail
      go_meet
      exact ⟨rfl, by rw [HZ.out]; rfl, below_drewN (Below.refl _ w) 1⟩
    · obtain ⟨j, hj⟩ : ∃ j, k = j + 1 := ⟨k - 1, by omega⟩
      have hw : IntKind.i64.wrap ((k : Int) - 1) = (j : Int) := by rw [IntWalk.i64_in _ (by omega)]; omega
      have hz : v2 = Dl[j]?.getD 0 := by rw [HV2.out, if_neg hk0, hj, Nat.add_sub_cancel]
      have hjk : j ≤ 1000000 := by omega
      have HZ := Lib.hid hz
      clear hk0 hz hj
      have hc := dlimb_any _ _ _ _ j _ w.drew hD (by omega) (by omega)
      have HC := Lib.hid hc
      clear hc
      go_region_held3 (fun w' => w'.cell? ⟨b, o + k, none⟩ = some (.int .u64 (v1 : Int))) (go_keep) ((go_at_call 151; refine HC.out.mono ?_; rintro e w' ⟨rfl, rfl⟩))
      clear hw
      go_wp2_with fail
      go_meet
      exact ⟨rfl, by rw [HZ.out], below_drewN (Below.refl _ w) 1⟩
  case rest =>
    obtain ⟨rfl, rfl, hB⟩ := hcut
    have hR' := hR.on hB
    obtain ⟨g', i', e, hg, hcell⟩ := hR'.2.2.2 (by omega)
    injection e with e
    injection e with e1 e2
    subst e1; subst e2
    obtain ⟨u2, hu2⟩ : ∃ u, u = Rl[k + 1]?.getD 0 := ⟨_, rfl⟩
    obtain ⟨u1, hu1⟩ : ∃ u, u = Rl[k]?.getD 0 := ⟨_, rfl⟩
    have h1 := hcell (k + 1) (by omega)
    have h2 := hcell k (by omega)
    rw [← hu2] at h1
    rw [← hu1] at h2
    have hS := HS.out
    rw [← hu2, ← hu1, ← HV1.out] at hS
    have hu2l : u2 < B64 := by rw [hu2]; exact hR.2.2.1.get _
    have hu1l : u1 < B64 := by rw [hu1]; exact hR.2.2.1.get _
    have hv1l := hS.v1lt
    have hv2l := hS.v2lt
    have htop := hS.top
    have HSS := Lib.hid hS
    clear hcell hu2 hu1 hS HS
    by_cases hge : v1 ≤ u2
    · have hgood := HSS.out.great (by
        have h3 : v1 * B64 ≤ u2 * B64 := Nat.mul_le_mul_right _ hge
        omega) HLT.out
      have HG := Lib.hid hgood
      clear hgood
      go_wp2_with fail
      try rw [Exit.noGoto_ret]
      go_ret
      exact ⟨B64 - 1, by rw [← big_lit]; rfl, HG.out, hB⟩
    · have hlt2 : u2 < v1 := by omega
      obtain ⟨t0, ht0⟩ : ∃ t, t = (u2 * B64 + u1) / v1 := ⟨_, rfl⟩
      obtain ⟨h0, hh0⟩ : ∃ h, h = (u2 * B64 + u1) % v1 := ⟨_, rfl⟩
      have hdv : ∀ W, Calls Tryz.prog 153 #[.int .u64 (u2 : Int), .int .u64 (u1 : Int), .int .u64 (v1 : Int)] W fun e w' => e = .returned (.tuple #[.int .u64 (t0 : Int), .int .u64 (h0 : Int)]) ∧ ∃ n, w' = W.drewN n := by
        rw [ht0, hh0]
        exact fun W => div64_any u2 u1 v1 W hlt2 hu1l hv1l htop
      have HDV := Lib.hid hdv
      have hv1p : 0 < v1 := by omega
      have hh0l : h0 < v1 := by rw [hh0]; exact Nat.mod_lt _ hv1p
      have hsum : t0 * v1 + h0 = u2 * B64 + u1 := by rw [ht0, hh0, Nat.mul_comm]; exact Nat.div_add_mod _ _
      have ht0l : t0 < B64 := by
        rw [ht0, Nat.div_lt_iff_lt_mul hv1p, Nat.mul_comm B64]
        have h3 : (u2 + 1) * B64 ≤ v1 * B64 := Nat.mul_le_mul_right _ hlt2
        rw [Nat.add_mul] at h3
        omega
      have hfirst := HSS.out.first hsum hh0l
      have HSU := Lib.hid hsum
      have HFI := Lib.hid hfirst
      have i1 : (0 : Int) ≤ (k : Int) := by omega
      have i2 : (k : Int) < (k : Int) + 2 := by omega
      have i3 : IntKind.i64.wrap ((k : Int) + 1) = (k : Int) + 1 := IntWalk.i64_in _ (by omega)
      have i4 : (0 : Int) ≤ (k : Int) + 1 := by omega
      have i5 : (k : Int) + 1 < (k : Int) + 2 := by omega
      clear hdv ht0 hh0 hsum hfirst
      go_wp2_with fail
      go_region_held3 (fun w' => w'.cell? ⟨g, i + (k + 1), none⟩ = some (.int .u64 (u2 : Int)) ∧ w'.cell? ⟨g, i + k, none⟩ = some (.int .u64 (u1 : Int))) (first | go_keep | (rw [World.cell?_drewN, World.cell?_drewN]; go_keep)) ((go_at_call 153; refine (HDV.out _).mono ?_; rintro e w' ⟨rfl, nq, rfl⟩))
      clear i1 i2 i3 i4 i5
      go_wp2_with fail
      go_step3
      go_wp2_with fail
      have hW : Below w.heap.size w (wc.drewN (1 + nq)) := below_drewN hB _
      generalize wc.drewN (1 + nq) = W at *
      go_loop [8, 9, 10] (fun tv lv ov => ∃ t l o : Nat, tv = .int .u64 (t : Int) ∧ lv = .int .u64 (l : Int) ∧ ov = .int .u64 (o : Int) ∧ o ≤ 1 ∧ t < B64 ∧ l < B64 ∧ Hid (t * v1 + (l + B64 * o) = u2 * B64 + u1) ∧ Hid (val Rl < (t + 1) * val Dl)) (fun tv _ _ => (intOf tv).toNat)
      case atStart => exact ⟨t0, h0, 0, rfl, rfl, rfl, by omega, ht0l, by omega, Lib.hid (by rw [Nat.mul_zero, Nat.add_zero]; exact HSU.out), HFI⟩
      case round =>
        obtain ⟨t, l, ov, rfl, rfl, rfl, ho, htl, hll, HE, HL⟩ := hrel
        have hfin : t * v2 < (l + B64 * ov + 1) * B64 → GotG w (val Rl) (val Dl) (.returned (.int .u64 (t : Int))) W := fun h => ⟨t, rfl, ⟨HL.out, HSS.out.done HE.out htl h, htl⟩, hW⟩
        have HFN := Lib.hid hfin
        clear hfin
        by_cases ho1 : ov = 0
        · subst ho1
          by_cases hp : l < mulHi t v2
          · have hc : (l + 1) * B64 ≤ t * v2 := by
              rcases Nat.lt_or_ge (t * v2) ((l + 1) * B64) with h3 | h3
              · have := mulHi_le_iff.2 h3; omega
              · exact h3
            have hE := HE.out
            rw [Nat.mul_zero, Nat.add_zero] at hE
            have hless := HSS.out.less hE hc
            have htp : 0 < t := by
              rcases Nat.eq_zero_or_pos t with h3 | h3
              · subst h3; have := B64_pos; rw [Nat.zero_mul, Nat.add_mul] at hc; omega
              · exact h3
            obtain ⟨t', ht'⟩ : ∃ t', t = t' + 1 := ⟨t - 1, by omega⟩
            have c1 : IntKind.u64.wrap ((t : Int) - 1) = (t' : Int) := by rw [IntKind.wrap_u64]; unfold B64 at htl; omega
            have c2 := add64_run0 l v1
            have hss := sum_split l v1 0
            have hsl := sumLo_lt l v1 0
            have hsh := sumHi_le hll hv1l (Nat.zero_le 1)
            have HE' : Hid (t' * v1 + (sumLo l v1 0 + B64 * sumHi l v1 0) = u2 * B64 + u1) := Lib.hid (by
              rw [hss, ← hE, ht', Nat.add_mul]; omega)
            have HL' : Hid (val Rl < (t' + 1) * val Dl) := Lib.hid (by rw [← ht']; exact hless)
            have htt : t' < t := by omega
            have ht'l : t' < B64 := by omega
            clear hE hless hss hc ht' htp HE HL
            go_wp2_with (go_at_call 143; refine (mul64_any _ _ _ htl hv2l).mono ?_; rintro e w' ⟨rfl, rfl⟩)
            go_round
            case rel => exact ⟨t', sumLo l v1 0, sumHi l v1 0, rfl, rfl, rfl, hsh, ht'l, hsl, HE', HL'⟩
            case measure => simp [intOf]; omega
          · have hc : t * v2 < (l + 1) * B64 := mulHi_le_iff.1 (by omega)
            have HC := Lib.hid hc
            clear hc
            go_wp2_with (go_at_call 143; refine (mul64_any _ _ _ htl hv2l).mono ?_; rintro e w' ⟨rfl, rfl⟩)
            try rw [Exit.noGoto_ret]
            go_ret
            exact HFN.out (by rw [Nat.mul_zero, Nat.add_zero]; exact HC.out)
        · obtain rfl : ov = 1 := by omega
          have hc : t * v2 < (l + B64 * 1 + 1) * B64 := by
            have h3 : t * v2 ≤ B64 * B64 := Nat.mul_le_mul (by omega) (by omega)
            have h4 : B64 * B64 < (l + B64 * 1 + 1) * B64 := Nat.mul_lt_mul_of_pos_right (by omega) B64_pos
            omega
          have HC := Lib.hid hc
          clear hc
          go_wp2_with fail
          try rw [Exit.noGoto_ret]
          go_ret
          exact HFN.out HC.out
end Go.Proofs.YtanpklbconflmaaGreat

/-
  The contracts of div's lessTimes, addBack and takeOff: a window of a row of digits is changed in place.
-/
namespace Go.Proofs.YtanpklbconflmaaGreat
set_option maxRecDepth 100000
set_option maxHeartbeats 2000000
open Go.RowKit

theorem sub64_run0 (x y : Nat) (w : World) :
    (callFunc 142 #[.int .u64 (x : Int), .int .u64 (y : Int), .int .u64 0]).run Tryz.prog w = .ok (.value (.tuple #[.int .u64 (subLo x y 0 : Int), .int .u64 (subHi x y 0 : Int)])) w := sub64_run x y 0 (by omega) w

/-- A slice of digits in another block than the one that is written is kept. -/
theorem Lim.apart {B : Nat} {w w' : World} {b o n c g : Nat} {l : List Nat} (h : Lim B w (some ⟨b, o, none⟩) n c l) (hg : w.grownBy w' (some g)) (hne : b ≠ g) (hB : B ≤ w.heap.size) : Lim B w' (some ⟨b, o, none⟩) n c l :=
  ⟨h.1, h.2.1, h.2.2.1, fun hn => by
    obtain ⟨b', o', e, hlt, hc⟩ := h.2.2.2 hn
    injection e with e
    injection e with e1 e2
    subst e1; subst e2
    exact ⟨b, o, rfl, hlt, fun j hj => (World.cell?_of_block (a := ⟨b, o + j, none⟩) (hg.block b (by omega) (by simp; omega))).trans (hc j hj)⟩⟩

theorem win_get {pre Q post : List Nat} {i k : Nat} (hi : pre.length = i) (hk : k < Q.length) : ((pre ++ (Q ++ post)).map encD)[i + k]? = some (.int .u64 ((Q[k]?.getD 0 : Nat) : Int)) := by
  rw [List.getElem?_map, List.getElem?_append_right (by omega), hi, Nat.add_sub_cancel_left, List.getElem?_append_left hk, List.getElem?_eq_getElem hk]
  rfl
theorem win_set {pre Q post : List Nat} {i k : Nat} (d : Nat) (hi : pre.length = i) (hk : k < Q.length) : ((pre ++ (Q ++ post)).map encD).set (i + k) (.int .u64 (d : Int)) = (pre ++ (Q.set k d ++ post)).map encD := by
  rw [show (Value.int IntKind.u64 (d : Int)) = encD d from rfl, ← List.map_set, List.set_append_right _ _ (by omega), hi, Nat.add_sub_cancel_left, List.set_append_left _ _ hk]

theorem wrap_owed {x y q c : Nat} (hx : x < B64) (hy : y < B64) (hc : c < B64) :
    IntKind.u64.wrap (IntKind.u64.wrap ((mulHi y x : Int) + (sumHi (mulLo y x) c 0 : Int)) + (subHi q (sumLo (mulLo y x) c 0) 0 : Int)) = (owed x y q c : Int) := by
  obtain ⟨h1, h2⟩ := owed_lt (q := q) hx hy hc
  unfold owed at h2 ⊢
  generalize mulHi y x = a at *
  generalize sumHi (mulLo y x) c 0 = b at *
  generalize subHi q (sumLo (mulLo y x) c 0) 0 = d at *
  simp only [IntKind.wrap_u64]
  unfold B64 at h1 h2
  omega

theorem lessD_eq (x y q c : Nat) : subLo q (sumLo (mulLo y x) c 0) 0 = lessD x y q c := rfl
theorem times_none {a p M h : Nat} (e : a = p + M * h) (hz : h = 0) : a = p := by
  subst hz
  rw [e, Nat.mul_zero, Nat.add_zero]
theorem times_once {a p M h : Nat} (e : a = p + M * h) (hz : h = 1) : a = p + M := by
  subst hz
  rw [e, Nat.mul_one]
/-- A row of the caller's, with a window. -/
def Win (w : World) (base g N cap : Nat) (pre Q post : List Nat) : Prop := w.ownsRow base 53 1 (.slice (some ⟨g, 0, none⟩) N cap) N ((pre ++ (Q ++ post)).map encD)

theorem less_N (w : World) (base g N cap i cr b o cb m x : Nat) (pre P post Dl : List Nat) (hW : Win w base g N cap pre P post) (hi : pre.length = i) (hP : Dig P) (lP : P.length = m + 1) (hD : Lim w.heap.size w (some ⟨b, o, none⟩) m cb Dl) (hne : b ≠ g) (hm : m ≤ 1000000) (hx : x < B64) (hin : i ≤ 1000000) :
    Calls Tryz.prog 149 #[.slice (some ⟨g, i, none⟩) (m + 1) cr, .slice (some ⟨b, o, none⟩) m cb, .int .u64 (x : Int)] w fun e w' => ∃ Q, Dig Q ∧ Q.length = m + 1 ∧ Win w' base g N cap pre Q post ∧ w.grownBy w' (some g) ∧
      ((e = .returned (.bool false) ∧ val Q + x * val Dl = val P) ∨ (e = .returned (.bool true) ∧ val Q + x * val Dl = val P + B64 ^ (m + 1))) := by
  have hbg := World.ownsRow.lt hW g rfl
  have HI := Lib.hid hi
  have HP := Lib.hid lP
  have HD := Lib.hid hD.1
  clear hi lP
  go_enter Tryz.func149, Tryz.ntmps149
  go_wp2
  go_loopw [7, 16] (fun ov iv wr => ∃ (k : Nat) (Q : List Nat) (c : Nat), k ≤ m ∧ iv = .int .i64 (k : Int) ∧ ov = .int .u64 (c : Int) ∧ LessAt P Q k x Dl c ∧ Win wr base g N cap pre Q post ∧ w.grownBy wr (some g)) (fun _ iv _ => m - (intOf iv).toNat)
  case atStart => exact ⟨0, P, 0, Nat.zero_le _, rfl, rfl, LessAt.start hP x Dl, hW, World.grownBy.refl w _⟩
  case round =>
    obtain ⟨k, Q, c, hk, rfl, rfl, hT, hown, hgr⟩ := hrel
    have hQl : Q.length = m + 1 := by rw [hT.2.1]; exact HP.out
    have h2 : wr.cell? ⟨g, i + k, none⟩ = some (.int .u64 ((Q[k]?.getD 0 : Nat) : Int)) := by
      have hlN : (pre ++ (Q ++ post)).length = N := by have := hown.1; simpa using this
      rw [World.ownsRow.cellAt hown (i + k) (by have := HI.out; simp at hlN; omega), win_get HI.out (by omega)]
    have h3 := World.ownsRow.frozenAt hown (i + k)
    have hql : Q[k]?.getD 0 < B64 := hT.1.get _
    have hcc : c < B64 := hT.2.2.1
    have hs0 := sub64_run0
    have ha0 := add64_run0
    have HT := Lib.hid hT
    have HO := Lib.hid hown
    have HG := Lib.hid hgr
    have HQ := Lib.hid hQl
    clear hT hown hgr hQl
    by_cases hlt : k < m
    · obtain ⟨b', o', e, hblt, hcell⟩ := (hD.apart HG.out hne (Nat.le_refl _)).2.2.2 (by omega)
      injection e with e
      injection e with e1 e2
      subst e1; subst e2
      have h1 := hcell k hlt
      have hyl : Dl[k]?.getD 0 < B64 := hD.2.2.1.get k
      clear hcell
      go_wp2_with (go_at_call 143; refine (mul64_any _ _ _ hyl hx).mono ?_; rintro e w' ⟨rfl, rfl⟩)
      have hst := World.ownsRow.stored HO.out (i + k) (.int .u64 (subLo (Q[k]?.getD 0) (sumLo (mulLo (Dl[k]?.getD 0) x) c 0) 0 : Int))
      refine ⟨⟨k + 1, Q.set k (lessD x (Dl[k]?.getD 0) (Q[k]?.getD 0) c), owed x (Dl[k]?.getD 0) (Q[k]?.getD 0) c, by omega, by go_num, ?_, HT.out.step hx hD.2.2.1 (by have := HP.out; omega), ?_, HG.out.trans hst.2⟩, by simp [intOf]; omega⟩
      · rw [wrap_owed hx hyl hcc]
      · have h5 := hst.1
        rw [win_set _ HI.out (by have := HQ.out; omega), lessD_eq] at h5
        rw [lessD_eq]
        exact h5
    · obtain rfl : k = m := by omega
      have hT := HT.out
      rw [HD.out] at hT
      obtain ⟨q1, q2, q3⟩ := hT.done (by rw [HP.out, HD.out])
      rw [← HD.out] at q1 q2 q3
      have HQ1 := Lib.hid q1
      have HQ2 := Lib.hid q2
      have HQ3 := Lib.hid q3
      clear hT q1 q2 q3
      have hst := World.ownsRow.stored HO.out (i + k) (.int .u64 (subLo (Q[k]?.getD 0) c 0 : Int))
      have hW1 := hst.1
      rw [win_set _ HI.out (by have := HQ.out; omega)] at hW1
      have HW1 := Lib.hid hW1
      have HW2 := Lib.hid (HG.out.trans hst.2)
      clear hst hW1
      have hsub := subHi_le (Q[k]?.getD 0) c 0
      by_cases hz : subHi (Q[k]?.getD 0) c 0 = 0
      · have hzb : (((subHi (Q[k]?.getD 0) c 0 : Nat) : Int) != 0) = false := by simp [hz]
        have HZ := Lib.hid hz
        clear hz
        go_wp2
        go_ret
        exact ⟨_, HQ1.out, HQ2.out, HW1.out, HW2.out, .inl ⟨rfl, times_none HQ3.out HZ.out⟩⟩
      · have hzb : (((subHi (Q[k]?.getD 0) c 0 : Nat) : Int) != 0) = true := by simp [hz]
        have HZ := Lib.hid hz
        clear hz
        go_wp2
        go_ret
        exact ⟨_, HQ1.out, HQ2.out, HW1.out, HW2.out, .inr ⟨rfl, times_once HQ3.out (by have := HZ.out; omega)⟩⟩

theorem wrap_sum (x c : Nat) : IntKind.u64.wrap ((x : Int) + (c : Int)) = ((sumLo x c 0 : Nat) : Int) := by
  rw [IntKind.wrap_u64, show (18446744073709551616 : Int) = (B64 : Int) from rfl]
  unfold sumLo
  simp

theorem back_N (w : World) (base g N cap i cr b o cb m : Nat) (pre P post Dl : List Nat) (hW : Win w base g N cap pre P post) (hi : pre.length = i) (hP : Dig P) (lP : P.length = m + 1) (hD : Lim w.heap.size w (some ⟨b, o, none⟩) m cb Dl) (hne : b ≠ g) (hm : m ≤ 1000000) (hin : i ≤ 1000000) :
    Calls Tryz.prog 150 #[.slice (some ⟨g, i, none⟩) (m + 1) cr, .slice (some ⟨b, o, none⟩) m cb] w fun e w' => e = .returned (.tuple #[]) ∧ ∃ Q v, Dig Q ∧ Q.length = m + 1 ∧ Win w' base g N cap pre Q post ∧ w.grownBy w' (some g) ∧ val Q + B64 ^ (m + 1) * v = val P + val Dl := by
  have hbg := World.ownsRow.lt hW g rfl
  have HI := Lib.hid hi
  have HP := Lib.hid lP
  have HD := Lib.hid hD.1
  clear hi lP
  go_enter Tryz.func150, Tryz.ntmps150
  go_wp2
  go_loopw [4, 9] (fun ov iv wr => ∃ (k : Nat) (Q : List Nat) (c : Nat), k ≤ m ∧ iv = .int .i64 (k : Int) ∧ ov = .int .u64 (c : Int) ∧ BackAt P Q k Dl c ∧ Win wr base g N cap pre Q post ∧ w.grownBy wr (some g)) (fun _ iv _ => m - (intOf iv).toNat)
  case atStart => exact ⟨0, P, 0, Nat.zero_le _, rfl, rfl, BackAt.start hP Dl, hW, World.grownBy.refl w _⟩
  case round =>
    obtain ⟨k, Q, c, hk, rfl, rfl, hT, hown, hgr⟩ := hrel
    have hQl : Q.length = m + 1 := by rw [hT.2.1]; exact HP.out
    have h2 : wr.cell? ⟨g, i + k, none⟩ = some (.int .u64 ((Q[k]?.getD 0 : Nat) : Int)) := by
      have hlN : (pre ++ (Q ++ post)).length = N := by have := hown.1; simpa using this
      rw [World.ownsRow.cellAt hown (i + k) (by have := HI.out; simp at hlN; omega), win_get HI.out (by omega)]
    have h3 := World.ownsRow.frozenAt hown (i + k)
    have hcc : c ≤ 1 := hT.2.2.1
    have HT := Lib.hid hT
    have HO := Lib.hid hown
    have HG := Lib.hid hgr
    have HQ := Lib.hid hQl
    clear hT hown hgr hQl
    by_cases hlt : k < m
    · obtain ⟨b', o', e, hblt, hcell⟩ := (hD.apart HG.out hne (Nat.le_refl _)).2.2.2 (by omega)
      injection e with e
      injection e with e1 e2
      subst e1; subst e2
      have h1 := hcell k hlt
      have ha0 := add64_run (Q[k]?.getD 0) (Dl[k]?.getD 0) c hcc
      clear hcell
      go_wp2
      have hst := World.ownsRow.stored HO.out (i + k) (.int .u64 (sumLo (Q[k]?.getD 0) (Dl[k]?.getD 0) c : Int))
      refine ⟨⟨k + 1, Q.set k (sumLo (Q[k]?.getD 0) (Dl[k]?.getD 0) c), sumHi (Q[k]?.getD 0) (Dl[k]?.getD 0) c, by omega, by go_num, rfl, HT.out.step hD.2.2.1 (by have := HP.out; omega), ?_, HG.out.trans hst.2⟩, by simp [intOf]; omega⟩
      have h5 := hst.1
      rw [win_set _ HI.out (by have := HQ.out; omega)] at h5
      exact h5
    · obtain rfl : k = m := by omega
      have hT := HT.out
      rw [HD.out] at hT
      obtain ⟨q1, q2, v, q3⟩ := hT.done (by rw [HP.out, HD.out])
      rw [← HD.out] at q1 q2 q3
      have HQ1 := Lib.hid q1
      have HQ2 := Lib.hid q2
      have HQ3 := Lib.hid q3
      clear hT q1 q2 q3
      have hst := World.ownsRow.stored HO.out (i + k) (.int .u64 (sumLo (Q[k]?.getD 0) c 0 : Int))
      have hW1 := hst.1
      rw [win_set _ HI.out (by have := HQ.out; omega)] at hW1
      have HW1 := Lib.hid hW1
      have HW2 := Lib.hid (HG.out.trans hst.2)
      have hws := wrap_sum (Q[k]?.getD 0) c
      clear hst hW1
      go_wp2
      go_end0
      exact ⟨rfl, _, v, HQ1.out, HQ2.out, HW1.out, HW2.out, HQ3.out⟩

end Go.Proofs.YtanpklbconflmaaGreat

/-
  The contract of div's takeOff, and the arithmetic of a round of the long division.
-/
namespace Go.Proofs.YtanpklbconflmaaGreat
set_option maxRecDepth 100000
open Go.RowKit

theorem Win.lim {w : World} {base g N cap i cr n : Nat} {pre P post : List Nat} (h : Win w base g N cap pre P post) (hi : pre.length = i) (hP : Dig P) (lP : P.length = n) (hcr : n ≤ cr) : Lim w.heap.size w (some ⟨g, i, none⟩) n cr P := by
  refine ⟨lP.symm, hcr, hP, fun _ => ⟨g, i, rfl, (World.ownsRow.lt h g rfl).2, fun j hj => ?_⟩⟩
  have hlN : (pre ++ (P ++ post)).length = N := by have := h.1; simpa using this
  rw [World.ownsRow.cellAt h (i + j) (by simp at hlN; omega), win_get hi (by omega)]

theorem grown_of_below {w w' : World} {row : Option Nat} (h : Below w.heap.size w w') : w.grownBy w' row := ⟨h.os, h.tape, h.output, h.size, fun k hk _ => h.block k hk⟩

theorem pred_wrap {t : Nat} (h0 : t ≠ 0) (ht : t < B64) : IntKind.u64.wrap ((t : Int) - 1) = ((t - 1 : Nat) : Int) := by
  rw [IntKind.wrap_u64]
  unfold B64 at ht
  omega

theorem ret_u64 {a b : Int} (h : a = b) : Ending.returned (.int .u64 a) = .returned (.int .u64 b) := by rw [h]

set_option maxHeartbeats 2000000 in
theorem take_N (w : World) (base g N cap i cr b o cb k : Nat) (pre P post Dl : List Nat) (hW : Win w base g N cap pre P post) (hi : pre.length = i) (hP : Dig P) (lP : P.length = k + 2) (hcr : k + 2 ≤ cr) (hD : Lim w.heap.size w (some ⟨b, o, none⟩) (k + 1) cb Dl) (hne : b ≠ g) (hk : k ≤ 100000) (hin : i ≤ 1000000)
    (top : B64 ≤ 2 * Dl[k]?.getD 0) (hlt : val P < B64 * val Dl) :
    Calls Tryz.prog 140 #[.slice (some ⟨g, i, none⟩) (k + 2) cr, .slice (some ⟨b, o, none⟩) (k + 1) cb] w fun e w' => ∃ Q, e = .returned (.int .u64 ((val P / val Dl : Nat) : Int)) ∧ Dig Q ∧ Q.length = k + 2 ∧ val Q = val P % val Dl ∧ Win w' base g N cap pre Q post ∧ w.grownBy w' (some g) := by
  have hR := hW.lim hi hP lP hcr
  have hDlt : val Dl < B64 ^ (k + 1) := by rw [hD.1]; exact val_lt hD.2.2.1
  have hDM : val Dl ≤ B64 ^ (k + 2) := Nat.le_trans (Nat.le_of_lt hDlt) (Nat.pow_le_pow_right B64_pos (by omega))
  have HDM := Lib.hid hDM
  have HI := Lib.hid hi
  have HL := Lib.hid lP
  clear hDlt hDM hi lP
  go_enter Tryz.func140, Tryz.ntmps140
  go_wp2_with fail
  refine (guess_N w g i cr b o cb k P Dl hR hD (by omega) top hlt).mono ?_
  rintro e w1 ⟨t, rfl, hG, hB⟩
  have hW1 : Win w1 base g N cap pre P post := ownsRow_below hW hB
  have hD1 := hD.on hB
  have ht := hG.2.2
  have HG := Lib.hid hG
  have HB := Lib.hid (grown_of_below (row := some g) hB)
  clear hW hD hR hG hB
  go_wp2_with fail
  refine (less_N w1 base g N cap i cr b o cb (k + 1) t pre P post Dl hW1 HI.out hP HL.out hD1 hne (by omega) ht hin).mono ?_
  rintro e w2 ⟨Q, hQd, hQl, hW2, hg2, hcase⟩
  have HQL := Lib.hid hQl
  have HG2 := Lib.hid hg2
  clear hQl
  rcases hcase with ⟨rfl, hv⟩ | ⟨rfl, hv⟩
  · obtain ⟨e1, e2⟩ := good_zero HG.out hv
    have E1 := Lib.hid e1
    have E2 := Lib.hid e2
    clear hv e1 e2 hg2
    go_wp2_with fail
    go_ret
    exact ⟨Q, by rw [E1.out]; rfl, hQd, HQL.out, E2.out.symm, hW2, HB.out.trans HG2.out⟩
  · have hD2 := (hD1.apart hg2 hne (Nat.le_refl _)).more hg2.size
    have HV := Lib.hid hv
    clear hv hg2
    go_wp2_with fail
    refine (back_N w2 base g N cap i cr b o cb (k + 1) pre Q post Dl hW2 HI.out hQd HQL.out hD2 hne (by omega) hin).mono ?_
    rintro e w3 ⟨rfl, Q2, v, hQ2, hQ2l, hW3, hg3, hv3⟩
    have hvlt : val Q < B64 ^ (k + 2) := by have := val_lt hQd; rw [HQL.out] at this; exact this
    have hv2lt : val Q2 < B64 ^ (k + 2) := by have := val_lt hQ2; rw [hQ2l] at this; exact this
    obtain ⟨t0, e1, e2⟩ := good_one HG.out HV.out hvlt HDM.out hv3 hv2lt
    have E1 := Lib.hid e1
    have E2 := Lib.hid e2
    have HQ2 := Lib.hid hQ2l
    have HT0 := Lib.hid t0
    have HG3 := Lib.hid hg3
    clear e1 e2 hv3 hvlt hv2lt t0 hQ2l hg3 HV
    go_wp2_with fail
    go_ret
    refine ⟨Q2, ?_, hQ2, HQ2.out, E2.out.symm, hW3, (HB.out.trans HG2.out).trans HG3.out⟩
    rw [E1.out]
    exact ret_u64 (pred_wrap HT0.out ht)

/-- A round of the division: what the window holds, and what becomes of the row. -/
theorem long_step {Rl : List Nat} {t k D : Nat} (hR : Dig Rl) (hD : D < B64 ^ (k + 1)) (hD0 : 0 < D) (hl : t + (k + 2) ≤ Rl.length) (hlt : val Rl < D * B64 ^ (t + 1)) :
    val ((Rl.drop t).take (k + 2)) < B64 * D ∧ ∀ Q : List Nat, Q.length = k + 2 → val Q = val ((Rl.drop t).take (k + 2)) % D →
      val (Rl.take t ++ (Q ++ Rl.drop (t + (k + 2)))) + D * (B64 ^ t * (val ((Rl.drop t).take (k + 2)) / D)) = val Rl ∧ val (Rl.take t ++ (Q ++ Rl.drop (t + (k + 2)))) < D * B64 ^ t := by
  have e0 : Rl = Rl.take t ++ ((Rl.drop t).take (k + 2) ++ Rl.drop (t + (k + 2))) := by
    rw [← List.drop_drop, List.take_append_drop, List.take_append_drop]
  have lt : (Rl.take t).length = t := by rw [List.length_take, Nat.min_eq_left (by omega)]
  have lP : ((Rl.drop t).take (k + 2)).length = k + 2 := by rw [List.length_take, List.length_drop, Nat.min_eq_left (by omega)]
  have hpre : val (Rl.take t) < B64 ^ t := by have := val_lt (hR.take t); rw [lt] at this; exact this
  have ev : val Rl = val (Rl.take t) + B64 ^ t * (val ((Rl.drop t).take (k + 2)) + B64 ^ (k + 2) * val (Rl.drop (t + (k + 2)))) := by
    have h := congrArg val e0
    rw [val_append, val_append, lt, lP] at h
    exact h
  have hBt : 0 < B64 ^ t := Nat.pow_pos B64_pos
  generalize hp : val (Rl.take t) = pre at *
  generalize hP : val ((Rl.drop t).take (k + 2)) = P at *
  generalize hpo : val (Rl.drop (t + (k + 2))) = po at *
  generalize val Rl = X at *
  have h1 : P + B64 ^ (k + 2) * po < D * B64 := by
    rcases Nat.lt_or_ge (P + B64 ^ (k + 2) * po) (D * B64) with h | h
    · exact h
    · have h2 : B64 ^ t * (D * B64) ≤ B64 ^ t * (P + B64 ^ (k + 2) * po) := Nat.mul_le_mul_left _ h
      have h3 : D * B64 ^ (t + 1) = B64 ^ t * (D * B64) := by rw [Nat.pow_succ]; ac_rfl
      omega
  have h2 : D * B64 ≤ B64 ^ (k + 2) := by
    rw [Nat.pow_succ B64 (k + 1)]
    exact Nat.mul_le_mul_right _ (Nat.le_of_lt hD)
  have hpo0 : po = 0 := by
    rcases Nat.eq_zero_or_pos po with h | h
    · exact h
    · have h3 : B64 ^ (k + 2) * 1 ≤ B64 ^ (k + 2) * po := Nat.mul_le_mul_left _ h
      rw [Nat.mul_one] at h3
      omega
  subst hpo0
  rw [Nat.mul_zero, Nat.add_zero] at h1 ev
  refine ⟨by rw [Nat.mul_comm]; exact h1, fun Q hQ hv => ?_⟩
  rw [val_append, val_append, lt, hp, hQ, hpo, hv, Nat.mul_zero, Nat.add_zero]
  have h4 := Nat.mod_add_div P D
  have h5 := Nat.mod_lt P hD0
  generalize P % D = m at *
  generalize P / D = q at *
  have h6 : D * (B64 ^ t * q) = B64 ^ t * (D * q) := by ac_rfl
  have h7 : B64 ^ t * (m + D * q) = B64 ^ t * m + B64 ^ t * (D * q) := Nat.mul_add ..
  rw [h4] at h7
  refine ⟨by rw [h6]; omega, ?_⟩
  have h8 : B64 ^ t * (m + 1) ≤ B64 ^ t * D := Nat.mul_le_mul_left _ h5
  rw [Nat.mul_add, Nat.mul_one] at h8
  rw [Nat.mul_comm D]
  omega

/-- The divisor's top bit is set by the shift. -/
theorem norm_top {y k s : Nat} (hl : (limbs y).length = k + 1) (hs : s = 64 - blen ((limbs y)[k]?.getD 0)) : s < 64 ∧ y * 2 ^ s < B64 ^ (k + 1) ∧ (limbs (y * 2 ^ s)).length = k + 1 ∧ B64 ≤ 2 * (limbs (y * 2 ^ s))[k]?.getD 0 := by
  have hd := limbs_dig y
  have hv : val ((limbs y).take k) + B64 ^ k * (limbs y)[k]?.getD 0 = y := by rw [← val_take_succ, List.take_of_length_le (by omega), val_limbs]
  have hlo : val ((limbs y).take k) < B64 ^ k := by have := val_lt (hd.take k); rw [List.length_take, Nat.min_eq_left (by omega)] at this; exact this
  have htl : (limbs y)[k]?.getD 0 < B64 := hd.get k
  have ht0 : (limbs y)[k]?.getD 0 ≠ 0 := fun h => by
    have hge := limbs_ge (n := y) (by omega)
    rw [hl, Nat.add_sub_cancel] at hge
    rw [h, Nat.mul_zero, Nat.add_zero] at hv
    omega
  generalize (limbs y)[k]?.getD 0 = T at *
  have hb1 := blen_pos ht0
  have hb2 : blen T ≤ 64 := blen_le (by rw [← B64_two]; exact htl)
  have hs64 : s < 64 := by omega
  have h1 : T + 1 ≤ 2 ^ blen T := lt_blen T
  have h2 := blen_ge ht0
  have e1 : 2 ^ blen T * 2 ^ s = B64 := by rw [B64_two, ← Nat.pow_add]; congr 1; omega
  have e2 : 2 * (2 ^ (blen T - 1) * 2 ^ s) = B64 := by
    rw [← e1, ← Nat.mul_assoc]
    congr 1
    rw [Nat.mul_comm, ← Nat.pow_succ]
    congr 1
    omega
  have h3 : (T + 1) * 2 ^ s ≤ B64 := by rw [← e1]; exact Nat.mul_le_mul_right _ h1
  have h4 : B64 ≤ 2 * (T * 2 ^ s) := by rw [← e2]; exact Nat.mul_le_mul_left _ (Nat.mul_le_mul_right _ h2)
  have hp : 0 < 2 ^ s := Nat.pow_pos (by omega)
  have h5 : y * 2 ^ s < B64 ^ (k + 1) := by
    have h6 : y < B64 ^ k * (T + 1) := by rw [Nat.mul_add, Nat.mul_one]; omega
    have h7 : y * 2 ^ s < B64 ^ k * (T + 1) * 2 ^ s := Nat.mul_lt_mul_of_pos_right h6 hp
    have h8 : B64 ^ k * ((T + 1) * 2 ^ s) ≤ B64 ^ k * B64 := Nat.mul_le_mul_left _ h3
    rw [Nat.pow_succ]
    rw [Nat.mul_assoc] at h7
    omega
  have h6 : B64 ^ k * (T * 2 ^ s) ≤ y * 2 ^ s := by
    rw [← Nat.mul_assoc]
    exact Nat.mul_le_mul_right _ (by omega)
  have hBk : 0 < B64 ^ k := Nat.pow_pos B64_pos
  have hlen : (limbs (y * 2 ^ s)).length = k + 1 := by
    have a := limbs_length_le h5
    rcases Nat.lt_or_ge (limbs (y * 2 ^ s)).length (k + 1) with b | b
    · have c := lt_of_limbs_length (n := y * 2 ^ s) (k := k) (by omega)
      have d : B64 ^ k * 1 ≤ B64 ^ k * (T * 2 ^ s) := Nat.mul_le_mul_left _ (by have := B64_pos; omega)
      omega
    · omega
  refine ⟨hs64, h5, hlen, ?_⟩
  rw [limbs_get]
  unfold dig
  have h7 : y * 2 ^ s / B64 ^ k < B64 := by rw [Nat.div_lt_iff_lt_mul hBk, Nat.mul_comm B64, ← Nat.pow_succ]; exact h5
  rw [Nat.mod_eq_of_lt h7]
  have h8 : T * 2 ^ s ≤ y * 2 ^ s / B64 ^ k := by rw [Nat.le_div_iff_mul_le hBk, Nat.mul_comm _ (B64 ^ k)]; exact h6
  omega

/-- The end of the division. -/
theorem long_end {x y s R q : Nat} (hy : 0 < y) (hR : R < y * 2 ^ s) (e : R + y * 2 ^ s * q = x * 2 ^ s) : q = x / y ∧ R / 2 ^ s = x % y := by
  have hp : 0 < 2 ^ s := Nat.pow_pos (by omega)
  have hD : 0 < y * 2 ^ s := Nat.mul_pos hy hp
  have h1 : x * 2 ^ s / (y * 2 ^ s) = q := by rw [← e, Nat.add_mul_div_left _ _ hD, Nat.div_eq_of_lt hR, Nat.zero_add]
  have h2 : x * 2 ^ s % (y * 2 ^ s) = R := by rw [← e, Nat.add_mul_mod_self_left, Nat.mod_eq_of_lt hR]
  rw [Nat.mul_div_mul_right _ _ hp] at h1
  rw [Nat.mul_mod_mul_right] at h2
  exact ⟨h1.symm, by rw [← h2, Nat.mul_div_cancel _ hp]⟩

theorem long_start {x y k n s : Nat} (hn : (limbs x).length = n) (hl : (limbs y).length = k + 1) (hkn : k + 1 ≤ n) : x * 2 ^ s < y * 2 ^ s * B64 ^ (n - (k + 1) + 1) := by
  have h1 : x < B64 ^ n := lt_of_limbs_length (by omega)
  have h2 := limbs_ge (n := y) (by omega)
  rw [hl, Nat.add_sub_cancel] at h2
  have h3 : B64 ^ k * B64 ^ (n - (k + 1) + 1) ≤ y * B64 ^ (n - (k + 1) + 1) := Nat.mul_le_mul_right _ h2
  rw [← Nat.pow_add, show k + (n - (k + 1) + 1) = n by omega] at h3
  have h4 : y * 2 ^ s * B64 ^ (n - (k + 1) + 1) = y * B64 ^ (n - (k + 1) + 1) * 2 ^ s := by ac_rfl
  rw [h4]
  exact Nat.mul_lt_mul_of_pos_right (by omega) (Nat.pow_pos (by omega))

end Go.Proofs.YtanpklbconflmaaGreat

/-
  The contracts of package div in one style, over numbers.
-/
namespace Go.Proofs.YtanpklbconflmaaGreat
set_option maxRecDepth 100000
set_option maxHeartbeats 4000000
open Go.RowKit

theorem trim_N {w : World} {A : Option Addr} {n c x : Nat} (ha : Num w A n c x) (hx : (limbs x).length ≤ 1000) : Calls Tryz.prog 112 #[.slice A n c] w fun e w' => e = .returned (.slice A n c) ∧ w = w' := by
  have hl := ha.len
  refine (dtrim_lim _ _ _ _ _ _ ha (by omega)).mono ?_
  rintro e w' ⟨k, rfl, hk, rfl⟩
  have hk1 := hk.1
  rw [val_limbs] at hk1
  rw [hk1, ← hl]
  exact ⟨rfl, rfl⟩

theorem ddiv_zero {w : World} {A : Option Addr} {n c x : Nat} (B : Option Addr) (d : Nat) (ha : Num w A n c x) (hx : (limbs x).length ≤ 300) : Calls Tryz.prog 113 #[.slice A n c, .slice B 0 d] w (GotV w (.tuple #[.slice none 0 0, .slice none 0 0, .int .i64 4])) := by
  have hb := num_empty w B d
  go_enter Tryz.func113, Tryz.ntmps113
  go_wp2_with fail
  refine (trim_N ha (by omega)).mono ?_
  rintro e w' ⟨rfl, rfl⟩
  go_wp2_with fail
  refine (trim_N hb (by rw [limbs_zero]; simp)).mono ?_
  rintro e w' ⟨rfl, rfl⟩
  go_wp2_with fail
  go_ret3
  exact ⟨rfl, Below.refl _ _⟩

theorem ddiv_small {w : World} {A B : Option Addr} {n c m d x y : Nat} (ha : Num w A n c x) (hb : Num w B m d y) (hx : (limbs x).length ≤ 300) (hy : (limbs y).length ≤ 300) (hlt : x < y) : Calls Tryz.prog 113 #[.slice A n c, .slice B m d] w (GotD w 0 x) := by
  have hm0 : ((m : Int) == 0) = false := by have := hb.len; have := limbs_ne_nil (n := y) (by omega); simp; omega
  have hc := cmpN_lt hlt
  have hcm : cmpN x y < 0 := by omega
  have hn : n ≤ 300 := by rw [ha.len]; exact hx
  clear hc
  go_enter Tryz.func113, Tryz.ntmps113
  go_wp2_with fail
  refine (trim_N ha (by omega)).mono ?_
  rintro e w' ⟨rfl, rfl⟩
  go_wp2_with fail
  refine (trim_N hb (by omega)).mono ?_
  rintro e w' ⟨rfl, rfl⟩
  go_wp2_with fail
  refine (cmp_N ha hb (by omega) (by omega)).mono ?_
  rintro e w1 ⟨rfl, b1⟩
  go_wp2_with fail
  refine (clone_F (ha.on b1) (by omega)).mono ?_
  rintro e w2 ⟨A2, n2, c2, rfl, h2, b2, f2⟩
  go_wp2_with fail
  go_ret3
  exact ⟨_, _, _, _, _, _, rfl, num_empty _ _ _, h2, b1.trans (b2.mono b1.size)⟩

/-- A quotient in memory of the call's own, and what is left. -/
def GotDF (w : World) (q r : Nat) (e : Ending) (w' : World) : Prop := ∃ A n c B m d, e = .returned (.tuple #[.slice A n c, .slice B m d, .int .i64 0]) ∧ Num w' A n c q ∧ Num w' B m d r ∧ Below w.heap.size w w' ∧ Fresh w.heap.size A n
theorem ddiv_main_F {w : World} {A B : Option Addr} {n c k d x y : Nat} (ha : Num w A n c x) (hb : Num w B (k + 1) d y) (hx : (limbs x).length ≤ 300) (hy : (limbs y).length ≤ 300) (hle : y ≤ x) : Calls Tryz.prog 113 #[.slice A n c, .slice B (k + 1) d] w (GotDF w (x / y) (x % y)) := by
  obtain ⟨i0, hi, hz0, hz1, hz2⟩ := info_parts info24
  have hcm : ¬ cmpN x y < 0 := by
    rcases Nat.lt_or_ge y x with h | h
    · rw [cmpN_gt h]; omega
    · rw [cmpN_zero.2 (by omega)]; omega
  have hn : n ≤ 300 := by rw [ha.len]; exact hx
  have hkn : k + 1 ≤ n := by rw [ha.len, hb.len]; exact limbs_length_mono hle
  have HN := Lib.hid ha.len
  have HK := Lib.hid hb.len
  obtain ⟨s, hs⟩ : ∃ s, s = 64 - blen ((limbs y)[k]?.getD 0) := ⟨_, rfl⟩
  obtain ⟨hs64, hDlt, hDlen, hDtop⟩ := norm_top HK.out.symm hs
  have htl : (limbs y)[k]?.getD 0 < B64 := (limbs_dig y).get k
  have hlead : ∀ W, Calls Tryz.prog 138 #[.int .u64 (((limbs y)[k]?.getD 0 : Nat) : Int)] W fun e w' => e = .returned (.int .i64 (s : Int)) ∧ W = w' := fun W => by rw [hs]; exact lead_any _ W htl
  have HLEAD := Lib.hid hlead
  have HDLT := Lib.hid hDlt
  have HDLEN := Lib.hid hDlen
  have HDTOP := Lib.hid hDtop
  have hy0 : 0 < y := by
    rcases Nat.eq_zero_or_pos y with h | h
    · have := HK.out; rw [h, limbs_zero] at this; simp at this
    · exact h
  have HST := Lib.hid (long_start (s := s) HN.out.symm HK.out.symm hkn)
  clear hs hDlt hDlen hDtop hlead
  go_enter Tryz.func113, Tryz.ntmps113
  go_wp2_with fail
  refine (trim_N ha (by omega)).mono ?_
  rintro e w' ⟨rfl, rfl⟩
  go_wp2_with fail
  refine (trim_N hb (by omega)).mono ?_
  rintro e w' ⟨rfl, rfl⟩
  go_wp2_with fail
  refine (cmp_N ha hb (by omega) (by omega)).mono ?_
  rintro e w1 ⟨rfl, b1⟩
  have ha1 := ha.on b1
  have hb1 := hb.on b1
  obtain ⟨bb, bo, rfl, hbb, hcell⟩ := hb1.2.2.2 (by omega)
  have h1 := hcell k (by omega)
  clear hcell
  go_wp2_with fail
  refine (HLEAD.out _).mono ?_
  rintro e w' ⟨rfl, rfl⟩
  go_wp2_with fail
  refine (raised_lim _ _ _ s _ _ ha1 (by omega) hs64).mono ?_
  rintro e w2 ⟨g1, cap1, R1, rfl, hown1, hd1, hv1, b2⟩
  have hb2 := hb1.on b2
  go_wp2_with fail
  refine (raised_lim _ _ _ s _ _ hb2 (by omega) hs64).mono ?_
  rintro e w3 ⟨g2, cap2, R2, rfl, hown2, hd2, hv2, b3⟩
  go_wp2_with fail
  refine (dtrim_lim _ _ _ _ _ _ (Lim.of_own hown2 hd2) (by omega)).mono ?_
  rintro e w' ⟨j, rfl, hj, rfl⟩
  have hjk : j = k + 1 := by rw [hj.1, hv2, val_limbs]; exact HDLEN.out
  subst hjk
  rw [hv2, val_limbs] at hj
  rw [val_limbs] at hv1
  have l1 := hown1.lt g1 rfl
  have l2 := hown2.lt g2 rfl
  have hownR := ownsRow_below hown1 b3
  have hB3 : Below w.heap.size w w3 := (b1.trans (b2.mono b1.size)).trans (b3.mono (by have := b1.size; have := b2.size; omega))
  have hs1 : w.heap.size ≤ w1.heap.size := b1.size
  obtain ⟨t1, ht1⟩ : ∃ t, w1.heap.size = t := ⟨_, rfl⟩
  obtain ⟨g3, hg3⟩ : ∃ t, w3.heap.size = t := ⟨_, rfl⟩
  rw [ht1] at hownR l1 hs1
  have hg12 : g1 < g2 := by omega
  have hg23 : g2 < g3 := by omega
  have hwt : w.heap.size ≤ t1 := by omega
  have htg : t1 ≤ g1 := by omega
  have HG3 := Lib.hid hg3
  have HV1 := Lib.hid hv1
  obtain ⟨q, hq⟩ : ∃ q, q = n - k := ⟨_, rfl⟩
  have hq1 : q + k ≤ n := by omega
  have hq2 : n ≤ q + k := by omega
  have HQ := Lib.hid hq
  clear hq hown1 hown2 hd2 hv2 b1 b2 b3 ha1 hb1 hb2 l1 l2 ht1 hg3 hs1 h1 ha hb hbb hv1
  go_wp2_with (at_make; refine wpList_make_full _ rfl _ _ 23 rfl g3 53 i0 (.int .u64 0) 1 Tryz.underlying23 hi hz0 hz1 .i64 .i64 _ _ q rfl rfl (by omega) (by omega) (by rw [hz2]; omega) (by unfold maxLen; omega) (by rw [HG3.out]; omega) ?_; intro w4 hown4 hgrow4; rw [made_zeros] at hown4)
  rw [HG3.out] at hown4 ⊢
  have hB4 : Below w.heap.size w w4 := hB3.grown hgrow4 hB3.size (fun k h => by cases h)
  have hownR4 := hownR.kept hgrow4 (.inr (by simp [Value.ownBlock]))
  have hD4 : Lim w4.heap.size w4 (some ⟨g2, 0, none⟩) (k + 1) cap2 (limbs (y * 2 ^ s)) := (Lim.below hj ⟨hgrow4.os, hgrow4.tape, hgrow4.output, hgrow4.size, fun a ha => hgrow4.block a ha (by simp)⟩).more hgrow4.size
  go_loopw [11] (fun iv wr => ∃ (j : Nat) (Rl Ql : List Nat), j ≤ q ∧ iv = .int .i64 ((j : Int) - 1) ∧ Dig Rl ∧ Dig Ql ∧ wr.ownsRow t1 53 1 (.slice (some ⟨g1, 0, none⟩) (n + 1) cap1) (n + 1) (Rl.map encD) ∧ wr.ownsRow g3 53 1 (.slice (some ⟨g3, 0, none⟩) q q) q (Ql.map encD) ∧ Lim wr.heap.size wr (some ⟨g2, 0, none⟩) (k + 1) cap2 (limbs (y * 2 ^ s)) ∧ Below w.heap.size w wr ∧ Hid (val Rl + y * 2 ^ s * val Ql = x * 2 ^ s) ∧ Hid (val Rl < y * 2 ^ s * B64 ^ j) ∧ Hid (∀ t, t < j → Ql[t]?.getD 0 = 0)) (fun iv _ => (intOf iv + 1).toNat)
  case atStart =>
    refine ⟨q, R1, List.replicate q 0, Nat.le_refl _, rfl, hd1, dig_zeros q, hownR4, hown4, hD4, hB4, Lib.hid ?_, Lib.hid ?_, Lib.hid fun t _ => get_zeros q t⟩
    · rw [val_zeros, Nat.mul_zero, Nat.add_zero]; exact HV1.out
    · rw [HV1.out]
      have := HST.out
      rw [show n - (k + 1) + 1 = q by omega] at this
      exact this
  case round =>
    obtain ⟨j, Rl, Ql, hjq, hiv, hdR, hdQ, hoR, hoQ, hLD, hBl, HV, HLT, HZ⟩ := hrel
    cases j with
    | zero =>
      subst hiv
      rw [show (((0 : Nat) : Int) - 1) = -1 from rfl]
      have hlq := Lim.of_own hoQ hdQ
      have hlr := Lim.of_own hoR hdR
      have hlt0 := HLT.out
      rw [Nat.pow_zero, Nat.mul_one] at hlt0
      obtain ⟨e1, e2⟩ := long_end hy0 hlt0 HV.out
      have E1 := Lib.hid e1
      have E2 := Lib.hid e2
      have HLD := Lib.hid (low_done hdR s)
      have HRL := Lib.hid hlr.1
      clear e1 e2 hlt0
      go_wp2_with fail
      refine (dtrim_lim _ _ _ _ _ _ hlq (by omega)).mono ?_
      rintro e w' ⟨j1, rfl, hj1, rfl⟩
      rw [E1.out] at hj1
      go_wp2_with fail
      refine (lowered_lim _ _ _ s _ _ hlr (by omega) hs64).mono ?_
      rintro e w5 ⟨g5, cap5, rfl, hown5, b5⟩
      have hl5 := Lim.of_own hown5 (digs_dig _ _)
      go_wp2_with fail
      refine (dtrim_lim _ _ _ _ _ _ hl5 (by omega)).mono ?_
      rintro e w' ⟨j2, rfl, hj2, rfl⟩
      rw [HRL.out, HLD.out, E2.out] at hj2
      go_wp2_with fail
      go_ret3
      exact ⟨_, _, _, _, _, _, rfl, Lim.on hj1 b5, hj2, hBl.trans (b5.mono hBl.size), fun _ => ⟨g3, 0, rfl, by omega⟩⟩
    | succ t =>
      subst hiv
      rw [show (((t + 1 : Nat) : Int) - 1) = (t : Int) by omega]
      have hcap : n + 1 ≤ cap1 := (Lim.of_own hoR hdR).2.1
      have hne : ¬ cap1 = t := by omega
      have hlR : Rl.length = n + 1 := by have := hoR.1; simpa using this
      have hlQ : Ql.length = q := by have := hoQ.1; simpa using this
      have hD0 : 0 < y * 2 ^ s := Nat.mul_pos hy0 (Nat.pow_pos (by omega))
      have hcall : Calls Tryz.prog 140 #[.slice (some ⟨g1, t, none⟩) (k + 2) (cap1 - t), .slice (some ⟨g2, 0, none⟩) (k + 1) cap2] wr fun e w' => ∃ (R' : List Nat) (qd : Nat), e = .returned (.int .u64 (qd : Int)) ∧ qd < B64 ∧ Dig R' ∧ w'.ownsRow t1 53 1 (.slice (some ⟨g1, 0, none⟩) (n + 1) cap1) (n + 1) (R'.map encD) ∧
          Hid (val R' + y * 2 ^ s * (B64 ^ t * qd) = val Rl) ∧ Hid (val R' < y * 2 ^ s * B64 ^ t) ∧ wr.grownBy w' (some g1) := by
        obtain ⟨hs1, hs2⟩ := long_step (t := t) (k := k) (D := y * 2 ^ s) hdR HDLT.out hD0 (by omega) HLT.out
        have e0 : Rl = Rl.take t ++ ((Rl.drop t).take (k + 2) ++ Rl.drop (t + (k + 2))) := by
          rw [← List.drop_drop, List.take_append_drop, List.take_append_drop]
        have hWin : Win wr t1 g1 (n + 1) cap1 (Rl.take t) ((Rl.drop t).take (k + 2)) (Rl.drop (t + (k + 2))) := by
          unfold Win
          rw [← e0]
          exact hoR
        refine (take_N wr t1 g1 (n + 1) cap1 t (cap1 - t) g2 0 cap2 k _ _ _ (limbs (y * 2 ^ s)) hWin (by rw [List.length_take]; omega) ((hdR.drop t).take _) (by rw [List.length_take, List.length_drop]; omega) (by omega) hLD (by omega) (by omega) (by omega) HDTOP.out (by rw [val_limbs]; exact hs1)).mono ?_
        rintro e w5 ⟨Q, rfl, hQd, hQl, hQv, hW5, hg5⟩
        rw [val_limbs] at hQv ⊢
        obtain ⟨f1, f2⟩ := hs2 Q hQl hQv
        refine ⟨_, _, rfl, ?_, ?_, hW5, Lib.hid f1, Lib.hid f2, hg5⟩
        · rw [Nat.div_lt_iff_lt_mul hD0]; exact hs1
        · intro a ha
          rcases List.mem_append.1 ha with h | h
          · exact hdR a (List.mem_of_mem_take h)
          · rcases List.mem_append.1 h with h | h
            · exact hQd a h
            · exact hdR a (List.mem_of_mem_drop h)
      have HC := Lib.hid hcall
      have HLQ := Lib.hid hlQ
      clear hcall hlR hlQ hD0
      go_wp2_with fail
      rw [show t + (k + 1) + 1 - t = k + 2 by omega]
      refine HC.out.mono ?_
      rintro e w5 ⟨R', qd, rfl, hqd, hdR', hoR5, HV5, HLT5, hg5⟩
      have hoQ5 := hoQ.kept hg5 (.inr (by simp [Value.ownBlock]; omega))
      have hLD5 := (hLD.apart hg5 (by omega) (Nat.le_refl _)).more hg5.size
      have hB5 := hBl.grown hg5 hBl.size (fun a e => by cases e; omega)
      have hc5 : w5.cell? ⟨g3, t, none⟩ = some (.int .u64 ((Ql[t]?.getD 0 : Nat) : Int)) := by
        rw [hoQ5.cellAt t (by omega), List.getElem?_map, List.getElem?_eq_getElem (by rw [HLQ.out]; omega)]
        simp [encD]
      have hf5 := hoQ5.frozenAt t
      have hst := hoQ5.stored t (.int .u64 (qd : Int))
      have HS := Lib.hid hst
      have HOR := Lib.hid hoR5
      clear hst hoQ5 hoR5 hg5 hoR hoQ hBl
      go_wp2_with fail
      go_roundw
      case rel =>
        have hgs := HS.out.2
        refine ⟨t, R', Ql.set t qd, by omega, rfl, hdR', hdQ.set t hqd, HOR.out.kept hgs (.inr (by simp [Value.ownBlock]; omega)), ?_, (hLD5.apart hgs (by omega) (Nat.le_refl _)).more hgs.size, hB5.grown hgs hB5.size (fun a e => by cases e; omega), Lib.hid ?_, HLT5, Lib.hid fun a ha => ?_⟩
        · have h5 := HS.out.1
          rw [show (Value.int IntKind.u64 (qd : Int)) = encD qd from rfl, ← List.map_set] at h5
          exact h5
        · have h5 := val_set (l := Ql) (k := t) (by rw [HLQ.out]; omega) qd
          rw [HZ.out t (by omega), Nat.mul_zero, Nat.add_zero] at h5
          rw [h5, Nat.mul_add, ← HV.out, ← HV5.out]
          omega
        · rw [List.getElem?_set_ne (by omega)]
          exact HZ.out a (by omega)
      case measure => simp [intOf]

theorem ddiv_main {w : World} {A B : Option Addr} {n c k d x y : Nat} (ha : Num w A n c x) (hb : Num w B (k + 1) d y) (hx : (limbs x).length ≤ 300) (hy : (limbs y).length ≤ 300) (hle : y ≤ x) : Calls Tryz.prog 113 #[.slice A n c, .slice B (k + 1) d] w (GotD w (x / y) (x % y)) :=
  (ddiv_main_F ha hb hx hy hle).mono fun _ _ ⟨A', n', c', B', m', d', he, h1, h2, h3, _⟩ => ⟨A', n', c', B', m', d', he, h1, h2, h3⟩

theorem ddiv_N {w : World} {A B : Option Addr} {n c m d x y : Nat} (ha : Num w A n c x) (hb : Num w B m d y) (hx : (limbs x).length ≤ 300) (hy : (limbs y).length ≤ 300) (hy0 : y ≠ 0) : Calls Tryz.prog 113 #[.slice A n c, .slice B m d] w (GotD w (x / y) (x % y)) := by
  rcases Nat.lt_or_ge x y with h | h
  · rw [Nat.div_eq_of_lt h, Nat.mod_eq_of_lt h]
    exact ddiv_small ha hb hx hy h
  · obtain ⟨k, rfl⟩ : ∃ k, m = k + 1 := ⟨m - 1, by have := hb.len; have := limbs_ne_nil hy0; omega⟩
    exact ddiv_main ha hb hx hy h

theorem dgcd_N {w : World} {A B : Option Addr} {n c m d x y : Nat} (ha : Num w A n c x) (hb : Num w B m d y) (hx : (limbs x).length ≤ 300) (hy : (limbs y).length ≤ 300) : Calls Tryz.prog 78 #[.slice A n c, .slice B m d] w (GotN w (Nat.gcd x y)) := by
  go_enter Tryz.func78, Tryz.ntmps78
  go_wp2_with fail
  refine (trim_N ha (by omega)).mono ?_
  rintro e w' ⟨rfl, rfl⟩
  go_wp2_with fail
  refine (trim_N hb (by omega)).mono ?_
  rintro e w' ⟨rfl, rfl⟩
  go_wp2_with fail
  go_loopg [0, 1] y (fun k av bv wr => ∃ (A' B' : Option Addr) (n' c' m' d' x' : Nat), av = .slice A' n' c' ∧ bv = .slice B' m' d' ∧ Num wr A' n' c' x' ∧ Num wr B' m' d' k ∧ (limbs x').length ≤ 300 ∧ (limbs k).length ≤ 300 ∧ Hid (Nat.gcd x' k = Nat.gcd x y) ∧ Below w.heap.size w wr)
  case atStart => exact ⟨A, B, n, c, m, d, x, rfl, rfl, ha, hb, hx, hy, Lib.hid rfl, Below.refl _ _⟩
  case round =>
    obtain ⟨A', B', n', c', m', d', x', rfl, rfl, h1, h2, l1, l2, hg, hbl⟩ := hrel
    have hm := h2.len
    by_cases h0 : gk = 0
    · subst h0
      rw [limbs_zero] at hm
      simp at hm
      subst hm
      have hn := h1.len
      have hn' : n' ≤ 300 := by omega
      clear hn
      go_wp2_with fail
      refine (clone_F h1 (by omega)).mono ?_
      rintro e w1 ⟨A1, n1, c1, rfl, h3, b1, f1⟩
      go_wp2_with fail
      go_ret
      have e := hg.out
      rw [Nat.gcd_zero_right] at e
      rw [e] at h3
      exact ⟨_, _, _, rfl, h3, hbl.trans (b1.mono hbl.size)⟩
    · have hm0 : 0 < m' := by have := limbs_ne_nil h0; omega
      have hmi : (0 : Int) < (m' : Int) := by omega
      have l3 := r_len (x := x') (by omega) l2
      have hg2 : Nat.gcd gk (x' % gk) = Nat.gcd x y := by rw [Nat.gcd_comm, ← Nat.gcd_rec, Nat.gcd_comm]; exact hg.out
      have HG := Lib.hid hg2
      clear hg hg2 hm
      go_wp2_with fail
      refine (ddiv_N h1 h2 (by omega) (by omega) h0).mono ?_
      rintro e w1 ⟨A1, n1, c1, B1, m1, d1, rfl, h3, h4, b1⟩
      go_wp2_with fail
      go_roundg (x' % gk)
      case measure => exact Nat.mod_lt _ (by omega)
      case rel => exact ⟨B', B1, m', d', m1, d1, gk, rfl, rfl, h2.on b1, h4, l2, l3, HG, hbl.trans (b1.mono hbl.size)⟩

end Go.Proofs.YtanpklbconflmaaGreat

/-
  The contracts of rat: quotient, isNought, times, less, reduced.
-/
namespace Go.Proofs.YtanpklbconflmaaGreat
set_option maxRecDepth 100000
set_option maxHeartbeats 8000000
open Go.RowKit
set_option linter.unusedVariables false
set_option linter.unusedSimpArgs false

theorem isn_N {w : World} {A : Option Addr} {n c x : Nat} (r : Bool) (ha : Num w A n c x) (hx : (limbs x).length ≤ 300) (hr : decide (x = 0) = r) :
    Calls Tryz.prog 80 #[.slice A n c] w (GotV w (.bool r)) := by
  have he : (cmpN x 0 == 0) = r := (cmpN_nil x).trans hr
  have cc := Below.refl w.heap.size w
  go_enter Tryz.func80, Tryz.ntmps80
  go_wp2_with fail
  refine (cmp_N ha (num_zero _) (by omega) (Nat.le_trans len_nil (by omega))).mono ?_
  rintro e w1 ⟨rfl, b⟩
  replace ha := ha.on b
  replace cc := bK cc b
  clear b
  go_wp2_with fail
  go_ret
  exact ⟨rfl, cc⟩

theorem rquo_N {w : World} {A B : Option Addr} {n c m d x y : Nat} (ha : Num w A n c x) (hb : Num w B m d y) (hx : (limbs x).length ≤ 300) (hy : (limbs y).length ≤ 300) (hq : y ≠ 0) :
    Calls Tryz.prog 116 #[.slice A n c, .slice B m d] w (GotN w (x / y)) := by
  have cc := Below.refl w.heap.size w
  go_enter Tryz.func116, Tryz.ntmps116
  go_wp2_with fail
  refine (ddiv_N ha hb hx hy hq).mono ?_
  rintro e w1 ⟨A1, n1, k1, A2, n2, k2, rfl, h1, h2, b⟩
  go_wp2_with fail
  go_ret
  exact ⟨_, _, _, rfl, h1, b⟩

theorem times5_N {w : World} {b : Bool} {A B : Option Addr} {n c m d q : Nat} {p : Int} (ha : Zn w b A n c p) (hb : Num w B m d q) (hx : (limbs p.natAbs).length ≤ 1000) (hy : (limbs q).length ≤ 1000) :
    Calls Tryz.prog 82 #[.agg #[.bool b, .slice A n c], .slice B m d] w (GotZ w (p * (q : Int))) := by
  have hz := zn_nat hb
  have hl : (limbs (q : Int).natAbs).length ≤ 1000 := by rw [Int.natAbs_natCast]; exact hy
  have cc := Below.refl w.heap.size w
  go_enter Tryz.func82, Tryz.ntmps82
  go_wp2_with fail
  generalize hv_ : (w.alloc (.cells #[.bool b, .slice A n c] 25)).alloc (.cells #[.bool false, .slice none 0 0] 25) = v1
  obtain ⟨f0, f1⟩ : Fz2 v1 (w.heap.size + 1) := by simp [Fz2, ← hv_, go_sem]
  have bA : Below w.heap.size w v1 := by rw [← hv_]; exact (((Below.refl _ w).alloc (by simp) _).alloc (by simp) _)
  replace ha := ha.on bA
  replace hz := hz.on bA
  replace cc := bK cc bA
  clear bA
  obtain ⟨k0, k1⟩ : Cs2 v1 w.heap.size (.bool b) (.slice A n c) := by simp [Cs2, ← hv_, go_sem]
  have kl : w.heap.size < v1.heap.size := by simp [← hv_] <;> omega
  obtain ⟨g0, g1⟩ : Cs2 v1 (w.heap.size + 1) (.bool false) (.slice none 0 0) := by simp [Cs2, ← hv_, go_sem]
  have gl : w.heap.size + 1 < v1.heap.size := by simp [← hv_] <;> omega
  clear hv_
  refine (zmul_N ha hz hx hl).mono ?_
  rintro e w2 ⟨bm, Am, nm, cm, rfl, hm, b⟩
  rewrite [fR b gl] at f0 f1
  replace ha := ha.on b
  replace hz := hz.on b
  rewrite [cR b kl] at k0 k1
  replace kl := lK b kl
  rewrite [cR b gl] at g0 g1
  replace gl := lK b gl
  replace cc := bK cc b
  clear b
  go_wp2_with fail
  have eb : Box w2 (w.heap.size + 1) false none 0 0 := ⟨g0, g1⟩
  refine bodyPost_ret (v := .agg #[.bool bm, .slice Am nm cm]) (by simp [results, Tryz.results82, go_sem, g0, g1]) rfl ⟨_, _, _, _, rfl, hm.put eb _ _, below_put cc (by omega) _ _⟩


theorem reduced_N {w : World} {b : Bool} {A B : Option Addr} {n c m d q : Nat} {p : Int} (ha : Zn w b A n c p) (hb : Num w B m d q) (hq : q ≠ 0) (hx : (limbs p.natAbs).length ≤ 200) (hy : (limbs q).length ≤ 200) :
    Calls Tryz.prog 89 #[.agg #[.bool b, .slice A n c], .slice B m d] w (GotRt w (mkRat p q)) := by
  have hg := Nat.gcd_pos_of_pos_right p.natAbs (show 0 < q by omega)
  obtain ⟨g, hG⟩ : ∃ g, Nat.gcd p.natAbs q = g := ⟨_, rfl⟩
  have HN : Hid ((mkRat p q).num.natAbs = p.natAbs / g) := Lib.hid (by rw [← hG]; exact mkRat_abs p q hq)
  have HD : Hid ((mkRat p q).den = q / g) := Lib.hid (by rw [← hG]; exact mkRat_den p q hq)
  have HS : Hid (decide ((mkRat p q).num < 0) = decide (p < 0)) := Lib.hid (mkRat_neg p q hq)
  have hgl := gcd_len (p := p.natAbs) hq hy
  rw [hG] at hg hgl
  have hg0 : g ≠ 0 := by omega
  have HB := Lib.hid ha.2
  have p1 := ha.1
  have CG := Lib.hid hG
  clear hG hg ha
  have cc := Below.refl w.heap.size w
  go_enter Tryz.func89, Tryz.ntmps89
  go_wp2_with fail
  generalize hv_ : (w.alloc (.cells #[.bool b, .slice A n c] 25)).alloc (.cells #[.bool false, .slice none 0 0, .slice none 0 0] 27) = v1
  obtain ⟨f0, f1, f2⟩ : Fz3 v1 (w.heap.size + 1) := by simp [Fz3, ← hv_, go_sem]
  have bA : Below w.heap.size w v1 := by rw [← hv_]; exact (((Below.refl _ w).alloc (by simp) _).alloc (by simp) _)
  replace p1 := p1.on bA
  replace hb := hb.on bA
  replace cc := bK cc bA
  clear bA
  obtain ⟨k0, k1⟩ : Cs2 v1 w.heap.size (.bool b) (.slice A n c) := by simp [Cs2, ← hv_, go_sem]
  have kl : w.heap.size < v1.heap.size := by simp [← hv_] <;> omega
  obtain ⟨g0, g1, g2⟩ : Cs3 v1 (w.heap.size + 1) (.bool false) (.slice none 0 0) (.slice none 0 0) := by simp [Cs3, ← hv_, go_sem]
  have gl : w.heap.size + 1 < v1.heap.size := by simp [← hv_] <;> omega
  clear hv_
  refine (dgcd_N p1 hb (by omega) (by omega)).mono ?_
  rintro e w2 ⟨Av, nv, cv, rfl, v, b⟩
  rw [CG.out] at v
  rewrite [fR b gl] at f0 f1 f2
  replace p1 := p1.on b
  replace hb := hb.on b
  rewrite [cR b kl] at k0 k1
  replace kl := lK b kl
  rewrite [cR b gl] at g0 g1 g2
  replace gl := lK b gl
  replace cc := bK cc b
  clear b
  go_upto_region 2 with fail
  go_cut [6] (fun u wx => ∃ (g_ : Nat) (b_ : Bool) (A_ : Option Addr) (n_ c_ : Nat), u = .pointer (some ⟨g_, 0, none⟩) ∧ LoneZ w2 wx g_ b_ A_ n_ c_ ((mkRat p q).num))
  case first =>
    have BB0 : Below w2.heap.size w2 w2.drew := below_drewN (Below.refl _ w2) 1
    have BB1 : Below w2.heap.size w2 (w2.alloc (.cells #[.bool false, .slice none 0 0] 25)).drew := below_drewN (below_one _ _) 1
    go_region_held3 (fun w' => w'.cell? ⟨w.heap.size, 0, none⟩ = some (.bool b) ∧ w'.cell? ⟨w.heap.size, 1, none⟩ = some (.slice A n c) ∧ w'.cell? ⟨w.heap.size + 1, 0, none⟩ = some (.bool false) ∧ w'.cell? ⟨w.heap.size + 1, 1, none⟩ = some (.slice none 0 0) ∧ w'.cell? ⟨w.heap.size + 1, 2, none⟩ = some (.slice none 0 0))
      (first | with_reducible exact ⟨(cK qq k0 kl), (cK qq k1 kl), (cK qq g0 gl), (cK qq g1 gl), (cK qq g2 gl)⟩ | with_reducible exact ⟨keep_alloc ((cK qq k0 kl)), keep_alloc ((cK qq k1 kl)), keep_alloc ((cK qq g0 gl)), keep_alloc ((cK qq g1 gl)), keep_alloc ((cK qq g2 gl))⟩ | with_reducible exact ⟨((cell_store (by omega)).trans (cK qq k0 kl)), ((cell_store (by omega)).trans (cK qq k1 kl)), ((cell_store (by omega)).trans (cK qq g0 gl)), ((cell_store (by omega)).trans (cK qq g1 gl)), ((cell_store (by omega)).trans (cK qq g2 gl))⟩ | go_keep)
      (first
        | (go_at_call 116; (with_reducible refine (rquo_N (p1.on BB0) (v.on BB0) (by omega) (by omega) hg0).mono ?_); rintro e y1 ⟨As, ns, cs, rfl, s, q⟩; have qq := BB0.trans (q.mono BB0.size); have p1' := (p1.on BB0).on q; have hb' := (hb.on BB0).on q; have v' := (v.on BB0).on q; have qs1 := qq.size; clear q)
        | (go_at_call 116; (with_reducible refine (rquo_N (p1.on BB1) (v.on BB1) (by omega) (by omega) hg0).mono ?_); rintro e y1 ⟨As, ns, cs, rfl, s, q⟩; have qq := BB1.trans (q.mono BB1.size); have p1' := (p1.on BB1).on q; have hb' := (hb.on BB1).on q; have v' := (v.on BB1).on q; have qs1 := qq.size; obtain ⟨bo_0, fo_0, bo_1, fo_1, ol⟩ := zb2 (g := w2.heap.size) q (by simp) (by simp [Cs2, go_sem]) (by simp [Fz2, go_sem]); clear q))
    all_goals (go_wp2_with fail; go_meet)
    all_goals have o : Zn y1 b As ns cs (mkRat p q).num := ⟨by rw [HN.out]; exact s, by rw [HS.out]; exact HB.out⟩
    all_goals refine ⟨_, b, As, ns, cs, rfl, ?_⟩
    all_goals first
      | with_reducible exact loneZA o qq _
      | with_reducible exact loneZB bo_0 bo_1 o qq (by omega)
  case rest =>
    obtain ⟨gt, bt, At, nt, ct, rfl, ⟨t0, t1⟩, ht, b, tge⟩ := hcut
    have tl := cell_lt t0
    simp only at tl
    have tqk : w.heap.size < gt := Nat.lt_of_lt_of_le kl tge
    have tqg : w.heap.size + 1 < gt := Nat.lt_of_lt_of_le gl tge
    rewrite [fR b gl] at f0 f1 f2
    replace p1 := p1.on b
    replace hb := hb.on b
    replace v := v.on b
    rewrite [cR b kl] at k0 k1
    replace kl := lK b kl
    rewrite [cR b gl] at g0 g1 g2
    replace gl := lK b gl
    replace cc := bK cc b
    clear b
    go_wp2_with fail
    have qq : Below wc.heap.size wc wc.drew := below_drewN (Below.refl _ wc) 1
    have p1' := p1.on qq
    have hb' := hb.on qq
    have v' := v.on qq
    have ht' := ht.on qq
    go_region_held3 (fun w' => w'.cell? ⟨w.heap.size, 0, none⟩ = some (.bool b) ∧ w'.cell? ⟨w.heap.size, 1, none⟩ = some (.slice A n c) ∧ w'.cell? ⟨gt, 0, none⟩ = some (.bool bt) ∧ w'.cell? ⟨gt, 1, none⟩ = some (.slice At nt ct))
      (first | with_reducible exact ⟨cK qq k0 kl, cK qq k1 kl, cK qq t0 tl, cK qq t1 tl⟩ | with_reducible exact ⟨(cell_putR (by omega)).trans (cK qq k0 kl), (cell_putR (by omega)).trans (cK qq k1 kl), (cell_putR (by omega)).trans (cK qq t0 tl), (cell_putR (by omega)).trans (cK qq t1 tl)⟩)
      (first
        | (go_at_call 116; (with_reducible refine (rquo_N hb' v' (by omega) (by omega) hg0).mono ?_); rintro e wz ⟨Bm, mm, dm, rfl, qm, q⟩; replace qq := bK qq q; (try replace p1' := p1'.on q); (try replace hb' := hb'.on q); (try replace v' := v'.on q); (try replace ht' := ht'.on q); clear q; have xa0 := cK qq g0 gl; have ya0 := fK qq f0 gl; have xa1 := cK qq g1 gl; have ya1 := fK qq f1 gl; have xa2 := cK qq g2 gl; have ya2 := fK qq f2 gl))
    replace cc := bK cc qq
    have hn : Rt wz bt At nt ct Bm mm dm (mkRat p q) := ⟨ht', by rw [HD.out]; exact qm⟩
    have eb : BoxR wz (w.heap.size + 1) false none 0 0 none 0 0 := ⟨xa0, xa1, xa2⟩
    have HZ : Hid (Rt (putR wz (w.heap.size + 1) (.bool bt) (.slice At nt ct) (.slice Bm mm dm)) bt At nt ct Bm mm dm (mkRat p q)) := Lib.hid (Rt.putR hn eb _ _ _)
    clear hn
    go_wp2_with fail
    refine bodyPost_ret (v := .agg #[.bool bt, .slice At nt ct, .slice Bm mm dm]) (by simp [results, Tryz.results89, go_sem, xa0, xa1, xa2]) rfl ⟨_, _, _, _, _, _, _, rfl, HZ.out, below_putR cc (by omega) _ _ _⟩

end Go.Proofs.YtanpklbconflmaaGreat

/-
  The contracts of rat: join, Add, Sub, Mul.
-/
namespace Go.Proofs.YtanpklbconflmaaGreat
set_option maxRecDepth 100000
set_option maxHeartbeats 8000000
open Go.RowKit
set_option linter.unusedVariables false
set_option linter.unusedSimpArgs false

theorem join_add {w : World} {b0 b1 : Bool} {A0 B0 A1 B1 : Option Addr} {n0 c0 m0 d0 n1 c1 m1 d1 : Nat} {x0 x1 : Rat} (h0 : Rt w b0 A0 n0 c0 B0 m0 d0 x0) (s0 : Sz x0 30) (h1 : Rt w b1 A1 n1 c1 B1 m1 d1 x1) (s1 : Sz x1 30) :
    Calls Tryz.prog 88 #[.agg #[.func (.func 87) #[] #[]], .agg #[.bool b0, .slice A0 n0 c0, .slice B0 m0 d0], .agg #[.bool b1, .slice A1 n1 c1, .slice B1 m1 d1]] w (GotRt w (x0 + x1)) := by
  have p0 := h0.1
  have q0 := h0.2
  have lp0 := s0.1
  have lq0 := s0.2
  have p1 := h1.1
  have q1 := h1.2
  have lp1 := s1.1
  have lq1 := s1.2
  clear h0
  clear h1
  have hgp := Nat.gcd_pos_of_pos_left x1.den (Nat.pos_of_ne_zero x0.den_nz)
  obtain ⟨dg, hG⟩ : ∃ dg, Nat.gcd x0.den x1.den = dg := ⟨_, rfl⟩
  have lg : (limbs dg).length ≤ 30 := by rw [← hG]; exact gcd_len x1.den_nz lq1
  rw [hG] at hgp
  have hg0 : dg ≠ 0 := by omega
  obtain ⟨dl, hL⟩ : ∃ dl, x1.den / dg = dl := ⟨_, rfl⟩
  obtain ⟨dr, hR⟩ : ∃ dr, x0.den / dg = dr := ⟨_, rfl⟩
  have ll : (limbs dl).length ≤ 30 := by rw [← hL]; exact Nat.le_trans (limbs_length_mono (Nat.div_le_self _ _)) lq1
  have lr : (limbs dr).length ≤ 30 := by rw [← hR]; exact Nat.le_trans (limbs_length_mono (Nat.div_le_self _ _)) lq0
  obtain ⟨t, hT⟩ : ∃ t, x0.num * (dl : Int) + x1.num * (dr : Int) = t := ⟨_, rfl⟩
  have HS : Hid ((x0 + x1).num = (mkRat t dg).num ∧ (x0 + x1).den = (mkRat t dg).den * (dl * dr)) := Lib.hid (add_sides x0 x1 hG hL hR hT)
  have la : (limbs (x0.num * (dl : Int)).natAbs).length ≤ 60 := by rw [natAbs_over]; exact limbs_length_mul lp0 ll
  have lb : (limbs (x1.num * (dr : Int)).natAbs).length ≤ 60 := by rw [natAbs_over]; exact limbs_length_mul lp1 lr
  have lt : (limbs t.natAbs).length ≤ 61 := by rw [← hT]; exact zlen_add la lb
  have su : Sz (mkRat t dg) 61 := sz_mk hg0 lt (by omega)
  have lu := su.2
  have llr : (limbs (dl * dr)).length ≤ 60 := limbs_length_mul ll lr
  have CG : ∀ {W : World} {A B : Option Addr} {n c m d : Nat}, Num W A n c x0.den → Num W B m d x1.den → Calls Tryz.prog 78 #[.slice A n c, .slice B m d] W (GotN W dg) := fun ha hb => by rw [← hG]; exact dgcd_N ha hb (by omega) (by omega)
  have CL : ∀ {W : World} {A B : Option Addr} {n c m d : Nat}, Num W A n c x1.den → Num W B m d dg → Calls Tryz.prog 116 #[.slice A n c, .slice B m d] W (GotN W dl) := fun ha hb => by rw [← hL]; exact rquo_N ha hb (by omega) (by omega) hg0
  have CR : ∀ {W : World} {A B : Option Addr} {n c m d : Nat}, Num W A n c x0.den → Num W B m d dg → Calls Tryz.prog 116 #[.slice A n c, .slice B m d] W (GotN W dr) := fun ha hb => by rw [← hR]; exact rquo_N ha hb (by omega) (by omega) hg0
  have CT : ∀ {W : World} {b b' : Bool} {A B : Option Addr} {n c m d : Nat}, Zn W b A n c (x0.num * (dl : Int)) → Zn W b' B m d (x1.num * (dr : Int)) → Calls Tryz.prog 87 #[.agg #[.bool b, .slice A n c], .agg #[.bool b', .slice B m d]] W (GotZ W t) := fun ha hb => by rw [← hT]; exact zadd_N ha hb (by omega) (by omega)
  clear hG hL hR hT hgp su
  have cc := Below.refl w.heap.size w
  go_enter Tryz.func88, Tryz.ntmps88
  go_wp2_with fail
  generalize hv_ : (((w.alloc (.cells #[.func (.func 87) #[] #[]] 85)).alloc (.cells #[.bool b0, .slice A0 n0 c0, .slice B0 m0 d0] 27)).alloc (.cells #[.bool b1, .slice A1 n1 c1, .slice B1 m1 d1] 27)).alloc (.cells #[.bool false, .slice none 0 0, .slice none 0 0] 27) = v1
  obtain ⟨f0, f1, f2⟩ : Fz3 v1 (w.heap.size + 1 + 1 + 1) := by simp [Fz3, ← hv_, go_sem]
  have bA : Below w.heap.size w v1 := by rw [← hv_]; exact (((((Below.refl _ w).alloc (by simp) _).alloc (by simp) _).alloc (by simp <;> omega) _).alloc (by simp <;> omega) _)
  replace p0 := p0.on bA
  replace q0 := q0.on bA
  replace p1 := p1.on bA
  replace q1 := q1.on bA
  replace cc := bK cc bA
  clear bA
  have j0 : v1.cell? ⟨w.heap.size, 0, none⟩ = some (.func (.func 87) #[] #[]) := by simp [← hv_, go_sem]
  have jl : w.heap.size < v1.heap.size := by simp [← hv_] <;> omega
  obtain ⟨k0, k1, k2⟩ : Cs3 v1 (w.heap.size + 1) (.bool b0) (.slice A0 n0 c0) (.slice B0 m0 d0) := by simp [Cs3, ← hv_, go_sem]
  have kl : w.heap.size + 1 < v1.heap.size := by simp [← hv_] <;> omega
  obtain ⟨r0, r1, r2⟩ : Cs3 v1 (w.heap.size + 1 + 1) (.bool b1) (.slice A1 n1 c1) (.slice B1 m1 d1) := by simp [Cs3, ← hv_, go_sem]
  have rl : w.heap.size + 1 + 1 < v1.heap.size := by simp [← hv_] <;> omega
  obtain ⟨g0, g1, g2⟩ : Cs3 v1 (w.heap.size + 1 + 1 + 1) (.bool false) (.slice none 0 0) (.slice none 0 0) := by simp [Cs3, ← hv_, go_sem]
  have gl : w.heap.size + 1 + 1 + 1 < v1.heap.size := by simp [← hv_] <;> omega
  clear hv_
  refine (CG q0 q1).mono ?_
  rintro e w2 ⟨Av, nv, cv, rfl, v, b⟩
  rewrite [fR b gl] at f0 f1 f2
  replace p0 := p0.on b
  replace q0 := q0.on b
  replace p1 := p1.on b
  replace q1 := q1.on b
  replace j0 := cK b j0 jl
  replace jl := lK b jl
  rewrite [cR b kl] at k0 k1 k2
  replace kl := lK b kl
  rewrite [cR b rl] at r0 r1 r2
  replace rl := lK b rl
  rewrite [cR b gl] at g0 g1 g2
  replace gl := lK b gl
  replace cc := bK cc b
  clear b
  go_wp2_with fail
  have qq : Below w2.heap.size w2 w2.drew := below_drewN (Below.refl _ w2) 1
  have p0' := p0.on qq
  have q0' := q0.on qq
  have p1' := p1.on qq
  have q1' := q1.on qq
  have v' := v.on qq
  go_region_held3 (fun w' => w'.cell? ⟨w.heap.size, 0, none⟩ = some (.func (.func 87) #[] #[]) ∧ w'.cell? ⟨w.heap.size + 1, 0, none⟩ = some (.bool b0) ∧ w'.cell? ⟨w.heap.size + 1, 1, none⟩ = some (.slice A0 n0 c0) ∧ w'.cell? ⟨w.heap.size + 1, 2, none⟩ = some (.slice B0 m0 d0) ∧ w'.cell? ⟨w.heap.size + 1 + 1, 0, none⟩ = some (.bool b1) ∧ w'.cell? ⟨w.heap.size + 1 + 1, 1, none⟩ = some (.slice A1 n1 c1) ∧ w'.cell? ⟨w.heap.size + 1 + 1, 2, none⟩ = some (.slice B1 m1 d1))
    (first | with_reducible exact ⟨cK qq j0 jl, cK qq k0 kl, cK qq k1 kl, cK qq k2 kl, cK qq r0 rl, cK qq r1 rl, cK qq r2 rl⟩)
    (first
      | (go_at_call 116; (with_reducible refine (CL q1' v').mono ?_); rintro e wz ⟨As, ns, cs, rfl, s, q⟩; replace qq := bK qq q; (try replace p0' := p0'.on q); (try replace q0' := q0'.on q); (try replace p1' := p1'.on q); (try replace q1' := q1'.on q); (try replace v' := v'.on q); (try replace t1 := t1.on q); clear q; have xa0 := cK qq g0 gl; have ya0 := fK qq f0 gl; have xa1 := cK qq g1 gl; have ya1 := fK qq f1 gl; have xa2 := cK qq g2 gl; have ya2 := fK qq f2 gl)
      | (go_at_call 116; (with_reducible refine (CR q0' v').mono ?_); rintro e wz ⟨At1, nt1, ct1, rfl, t1, q⟩; replace qq := bK qq q; (try replace p0' := p0'.on q); (try replace q0' := q0'.on q); (try replace p1' := p1'.on q); (try replace q1' := q1'.on q); (try replace v' := v'.on q); (try replace s := s.on q); clear q; have xa0 := cK qq g0 gl; have ya0 := fK qq f0 gl; have xa1 := cK qq g1 gl; have ya1 := fK qq f1 gl; have xa2 := cK qq g2 gl; have ya2 := fK qq f2 gl))
  replace f0 := fK qq f0 gl
  clear xa0 ya0
  replace f1 := fK qq f1 gl
  clear xa1 ya1
  replace f2 := fK qq f2 gl
  clear xa2 ya2
  clear p0
  have p0 := p0'
  clear p0'
  clear q0
  have q0 := q0'
  clear q0'
  clear p1
  have p1 := p1'
  clear p1'
  clear q1
  have q1 := q1'
  clear q1'
  clear v
  have v := v'
  clear v'
  replace j0 := cK qq j0 jl
  replace jl := lK qq jl
  rewrite [cR qq kl] at k0 k1 k2
  replace kl := lK qq kl
  rewrite [cR qq rl] at r0 r1 r2
  replace rl := lK qq rl
  rewrite [cR qq gl] at g0 g1 g2
  replace gl := lK qq gl
  replace cc := bK cc qq
  clear qq
  go_upto_region 3 with fail
  go_cut [10] (fun u wx => ∃ (g_ : Nat) (b_ : Bool) (A_ : Option Addr) (n_ c_ : Nat) (B_ : Option Addr) (m_ d_ : Nat), u = .pointer (some ⟨g_, 0, none⟩) ∧ LoneR wz wx g_ b_ A_ n_ c_ B_ m_ d_ (mkRat t dg))
  case first =>
    have BB0 : Below wz.heap.size wz wz.drew := below_drewN (Below.refl _ wz) 1
    have BB1 : Below wz.heap.size wz (wz.alloc (.cells #[.bool false, .slice none 0 0, .slice none 0 0] 27)).drew := below_drewN (below_one _ _) 1
    go_region_held3 (fun w' => w'.cell? ⟨w.heap.size, 0, none⟩ = some (.func (.func 87) #[] #[]) ∧ w'.cell? ⟨w.heap.size + 1, 0, none⟩ = some (.bool b0) ∧ w'.cell? ⟨w.heap.size + 1, 1, none⟩ = some (.slice A0 n0 c0) ∧ w'.cell? ⟨w.heap.size + 1, 2, none⟩ = some (.slice B0 m0 d0) ∧ w'.cell? ⟨w.heap.size + 1 + 1, 0, none⟩ = some (.bool b1) ∧ w'.cell? ⟨w.heap.size + 1 + 1, 1, none⟩ = some (.slice A1 n1 c1) ∧ w'.cell? ⟨w.heap.size + 1 + 1, 2, none⟩ = some (.slice B1 m1 d1) ∧ w'.cell? ⟨w.heap.size + 1 + 1 + 1, 0, none⟩ = some (.bool false) ∧ w'.cell? ⟨w.heap.size + 1 + 1 + 1, 1, none⟩ = some (.slice none 0 0) ∧ w'.cell? ⟨w.heap.size + 1 + 1 + 1, 2, none⟩ = some (.slice none 0 0))
      (first | with_reducible exact ⟨(cK qq j0 jl), (cK qq k0 kl), (cK qq k1 kl), (cK qq k2 kl), (cK qq r0 rl), (cK qq r1 rl), (cK qq r2 rl), (cK qq g0 gl), (cK qq g1 gl), (cK qq g2 gl)⟩ | with_reducible exact ⟨keep_alloc ((cK qq j0 jl)), keep_alloc ((cK qq k0 kl)), keep_alloc ((cK qq k1 kl)), keep_alloc ((cK qq k2 kl)), keep_alloc ((cK qq r0 rl)), keep_alloc ((cK qq r1 rl)), keep_alloc ((cK qq r2 rl)), keep_alloc ((cK qq g0 gl)), keep_alloc ((cK qq g1 gl)), keep_alloc ((cK qq g2 gl))⟩ | with_reducible exact ⟨((cell_putR (by omega)).trans (cK qq j0 jl)), ((cell_putR (by omega)).trans (cK qq k0 kl)), ((cell_putR (by omega)).trans (cK qq k1 kl)), ((cell_putR (by omega)).trans (cK qq k2 kl)), ((cell_putR (by omega)).trans (cK qq r0 rl)), ((cell_putR (by omega)).trans (cK qq r1 rl)), ((cell_putR (by omega)).trans (cK qq r2 rl)), ((cell_putR (by omega)).trans (cK qq g0 gl)), ((cell_putR (by omega)).trans (cK qq g1 gl)), ((cell_putR (by omega)).trans (cK qq g2 gl))⟩ | go_keep)
      (first
        | (go_at_call 82; (with_reducible refine (times5_N (p0.on BB0) (s.on BB0) (Nat.le_trans lp0 (by omega)) (Nat.le_trans ll (by omega))).mono ?_); rintro e y1 ⟨be1, Ae1, ne1, ce1, rfl, e1, q⟩; have qq := BB0.trans (q.mono BB0.size); have p0' := (p0.on BB0).on q; have q0' := (q0.on BB0).on q; have p1' := (p1.on BB0).on q; have q1' := (q1.on BB0).on q; have v' := (v.on BB0).on q; have s' := (s.on BB0).on q; have t1' := (t1.on BB0).on q; have qs1 := qq.size; clear q)
        | (go_at_call 82; (with_reducible refine (times5_N (p0.on BB1) (s.on BB1) (Nat.le_trans lp0 (by omega)) (Nat.le_trans ll (by omega))).mono ?_); rintro e y1 ⟨be1, Ae1, ne1, ce1, rfl, e1, q⟩; have qq := BB1.trans (q.mono BB1.size); have p0' := (p0.on BB1).on q; have q0' := (q0.on BB1).on q; have p1' := (p1.on BB1).on q; have q1' := (q1.on BB1).on q; have v' := (v.on BB1).on q; have s' := (s.on BB1).on q; have t1' := (t1.on BB1).on q; have qs1 := qq.size; obtain ⟨bo_0, fo_0, bo_1, fo_1, bo_2, fo_2, ol⟩ := zb3 (g := wz.heap.size) q (by simp) (by simp [Cs3, go_sem]) (by simp [Fz3, go_sem]); clear q)
        | (go_at_call 82; have up := Below.refl y1.heap.size y1; (with_reducible refine (times5_N (p1'.on up) (t1'.on up) (Nat.le_trans lp1 (by omega)) (Nat.le_trans lr (by omega))).mono ?_); rintro e y2 ⟨be2, Ae2, ne2, ce2, rfl, e2, q⟩; replace qq := uK qq up q; replace p0' := (p0'.on up).on q; replace q0' := (q0'.on up).on q; replace p1' := (p1'.on up).on q; replace q1' := (q1'.on up).on q; replace v' := (v'.on up).on q; replace s' := (s'.on up).on q; replace t1' := (t1'.on up).on q; replace e1 := (e1.on up).on q; (try (rewrite [cR up ol, cR q (lK up ol)] at bo_0 bo_1 bo_2; rewrite [fR up ol, fR q (lK up ol)] at fo_0 fo_1 fo_2; replace ol := lK q (lK up ol))); have qs2 := qq.size; clear q up)
        | (go_at_call 82; have up := below_one y1 (.cells #[.bool false, .slice none 0 0, .slice none 0 0] 27); (with_reducible refine (times5_N (p1'.on up) (t1'.on up) (Nat.le_trans lp1 (by omega)) (Nat.le_trans lr (by omega))).mono ?_); rintro e y2 ⟨be2, Ae2, ne2, ce2, rfl, e2, q⟩; replace qq := uK qq up q; replace p0' := (p0'.on up).on q; replace q0' := (q0'.on up).on q; replace p1' := (p1'.on up).on q; replace q1' := (q1'.on up).on q; replace v' := (v'.on up).on q; replace s' := (s'.on up).on q; replace t1' := (t1'.on up).on q; replace e1 := (e1.on up).on q; (try (rewrite [cR up ol, cR q (lK up ol)] at bo_0 bo_1 bo_2; rewrite [fR up ol, fR q (lK up ol)] at fo_0 fo_1 fo_2; replace ol := lK q (lK up ol))); have qs2 := qq.size; obtain ⟨bo_0, fo_0, bo_1, fo_1, bo_2, fo_2, ol⟩ := zb3 (g := y1.heap.size) q (by simp) (by simp [Cs3, go_sem]) (by simp [Fz3, go_sem]); clear q up)
        | (go_at_call 87; have up := Below.refl y2.heap.size y2; (with_reducible refine (CT (e1.on up) (e2.on up)).mono ?_); rintro e y3 ⟨be3, Ae3, ne3, ce3, rfl, e3, q⟩; replace qq := uK qq up q; replace p0' := (p0'.on up).on q; replace q0' := (q0'.on up).on q; replace p1' := (p1'.on up).on q; replace q1' := (q1'.on up).on q; replace v' := (v'.on up).on q; replace s' := (s'.on up).on q; replace t1' := (t1'.on up).on q; replace e1 := (e1.on up).on q; replace e2 := (e2.on up).on q; (try (rewrite [cR up ol, cR q (lK up ol)] at bo_0 bo_1 bo_2; rewrite [fR up ol, fR q (lK up ol)] at fo_0 fo_1 fo_2; replace ol := lK q (lK up ol))); have qs3 := qq.size; clear q up)
        | (go_at_call 87; have up := below_one y2 (.cells #[.bool false, .slice none 0 0, .slice none 0 0] 27); (with_reducible refine (CT (e1.on up) (e2.on up)).mono ?_); rintro e y3 ⟨be3, Ae3, ne3, ce3, rfl, e3, q⟩; replace qq := uK qq up q; replace p0' := (p0'.on up).on q; replace q0' := (q0'.on up).on q; replace p1' := (p1'.on up).on q; replace q1' := (q1'.on up).on q; replace v' := (v'.on up).on q; replace s' := (s'.on up).on q; replace t1' := (t1'.on up).on q; replace e1 := (e1.on up).on q; replace e2 := (e2.on up).on q; (try (rewrite [cR up ol, cR q (lK up ol)] at bo_0 bo_1 bo_2; rewrite [fR up ol, fR q (lK up ol)] at fo_0 fo_1 fo_2; replace ol := lK q (lK up ol))); have qs3 := qq.size; obtain ⟨bo_0, fo_0, bo_1, fo_1, bo_2, fo_2, ol⟩ := zb3 (g := y2.heap.size) q (by simp) (by simp [Cs3, go_sem]) (by simp [Fz3, go_sem]); clear q up)
        | (go_at_call 89; have up := Below.refl y3.heap.size y3; (with_reducible refine (reduced_N (e3.on up) (v'.on up) hg0 (Nat.le_trans lt (by omega)) (Nat.le_trans lg (by omega))).mono ?_); rintro e y4 ⟨bo, Ao, no, co, Bo, mo, do_, rfl, o, q⟩; replace qq := uK qq up q; replace p0' := (p0'.on up).on q; replace q0' := (q0'.on up).on q; replace p1' := (p1'.on up).on q; replace q1' := (q1'.on up).on q; replace v' := (v'.on up).on q; replace s' := (s'.on up).on q; replace t1' := (t1'.on up).on q; replace e1 := (e1.on up).on q; replace e2 := (e2.on up).on q; replace e3 := (e3.on up).on q; (try (rewrite [cR up ol, cR q (lK up ol)] at bo_0 bo_1 bo_2; rewrite [fR up ol, fR q (lK up ol)] at fo_0 fo_1 fo_2; replace ol := lK q (lK up ol))); have qs4 := qq.size; clear q up)
        | (go_at_call 89; have up := below_one y3 (.cells #[.bool false, .slice none 0 0, .slice none 0 0] 27); (with_reducible refine (reduced_N (e3.on up) (v'.on up) hg0 (Nat.le_trans lt (by omega)) (Nat.le_trans lg (by omega))).mono ?_); rintro e y4 ⟨bo, Ao, no, co, Bo, mo, do_, rfl, o, q⟩; replace qq := uK qq up q; replace p0' := (p0'.on up).on q; replace q0' := (q0'.on up).on q; replace p1' := (p1'.on up).on q; replace q1' := (q1'.on up).on q; replace v' := (v'.on up).on q; replace s' := (s'.on up).on q; replace t1' := (t1'.on up).on q; replace e1 := (e1.on up).on q; replace e2 := (e2.on up).on q; replace e3 := (e3.on up).on q; (try (rewrite [cR up ol, cR q (lK up ol)] at bo_0 bo_1 bo_2; rewrite [fR up ol, fR q (lK up ol)] at fo_0 fo_1 fo_2; replace ol := lK q (lK up ol))); have qs4 := qq.size; obtain ⟨bo_0, fo_0, bo_1, fo_1, bo_2, fo_2, ol⟩ := zb3 (g := y3.heap.size) q (by simp) (by simp [Cs3, go_sem]) (by simp [Fz3, go_sem]); clear q up))
    all_goals (go_wp2_with fail; go_meet)
    all_goals refine ⟨_, bo, Ao, no, co, Bo, mo, do_, rfl, ?_⟩
    all_goals first
      | with_reducible exact loneRA o qq _
      | with_reducible exact loneRB bo_0 bo_1 bo_2 o qq (by omega)
  case rest =>
    obtain ⟨gz, bz, Az, nz, cz, Bz, mz, dz, rfl, ⟨z0, z1, z2⟩, ⟨pz, qz⟩, b, zge⟩ := hcut
    have zl := cell_lt z0
    simp only at zl
    have zqj : w.heap.size < gz := Nat.lt_of_lt_of_le jl zge
    have zqk : w.heap.size + 1 < gz := Nat.lt_of_lt_of_le kl zge
    have zqr : w.heap.size + 1 + 1 < gz := Nat.lt_of_lt_of_le rl zge
    have zqg : w.heap.size + 1 + 1 + 1 < gz := Nat.lt_of_lt_of_le gl zge
    rewrite [fR b gl] at f0 f1 f2
    replace p0 := p0.on b
    replace q0 := q0.on b
    replace p1 := p1.on b
    replace q1 := q1.on b
    replace v := v.on b
    replace s := s.on b
    replace t1 := t1.on b
    replace j0 := cK b j0 jl
    replace jl := lK b jl
    rewrite [cR b kl] at k0 k1 k2
    replace kl := lK b kl
    rewrite [cR b rl] at r0 r1 r2
    replace rl := lK b rl
    rewrite [cR b gl] at g0 g1 g2
    replace gl := lK b gl
    replace cc := bK cc b
    clear b
    go_wp2_with fail
    have qq : Below wc.heap.size wc wc.drew := below_drewN (Below.refl _ wc) 1
    have p0' := p0.on qq
    have q0' := q0.on qq
    have p1' := p1.on qq
    have q1' := q1.on qq
    have v' := v.on qq
    have s' := s.on qq
    have t1' := t1.on qq
    have pz' := pz.on qq
    have qz' := qz.on qq
    go_region_held3 (fun w' => w'.cell? ⟨w.heap.size, 0, none⟩ = some (.func (.func 87) #[] #[]) ∧ w'.cell? ⟨w.heap.size + 1, 0, none⟩ = some (.bool b0) ∧ w'.cell? ⟨w.heap.size + 1, 1, none⟩ = some (.slice A0 n0 c0) ∧ w'.cell? ⟨w.heap.size + 1, 2, none⟩ = some (.slice B0 m0 d0) ∧ w'.cell? ⟨w.heap.size + 1 + 1, 0, none⟩ = some (.bool b1) ∧ w'.cell? ⟨w.heap.size + 1 + 1, 1, none⟩ = some (.slice A1 n1 c1) ∧ w'.cell? ⟨w.heap.size + 1 + 1, 2, none⟩ = some (.slice B1 m1 d1) ∧ w'.cell? ⟨gz, 0, none⟩ = some (.bool bz) ∧ w'.cell? ⟨gz, 1, none⟩ = some (.slice Az nz cz) ∧ w'.cell? ⟨gz, 2, none⟩ = some (.slice Bz mz dz))
      (first | with_reducible exact ⟨cK qq j0 jl, cK qq k0 kl, cK qq k1 kl, cK qq k2 kl, cK qq r0 rl, cK qq r1 rl, cK qq r2 rl, cK qq z0 zl, cK qq z1 zl, cK qq z2 zl⟩ | with_reducible exact ⟨(cell_putR (by omega)).trans (cK qq j0 jl), (cell_putR (by omega)).trans (cK qq k0 kl), (cell_putR (by omega)).trans (cK qq k1 kl), (cell_putR (by omega)).trans (cK qq k2 kl), (cell_putR (by omega)).trans (cK qq r0 rl), (cell_putR (by omega)).trans (cK qq r1 rl), (cell_putR (by omega)).trans (cK qq r2 rl), (cell_putR (by omega)).trans (cK qq z0 zl), (cell_putR (by omega)).trans (cK qq z1 zl), (cell_putR (by omega)).trans (cK qq z2 zl)⟩)
      (first
        | (go_at_call 91; (with_reducible refine (mul_N s' t1' (Nat.le_trans ll (by omega)) (Nat.le_trans lr (by omega))).mono ?_); rintro e wz ⟨Afm1, nfm1, cfm1, rfl, fm1, q⟩; replace qq := bK qq q; (try replace p0' := p0'.on q); (try replace q0' := q0'.on q); (try replace p1' := p1'.on q); (try replace q1' := q1'.on q); (try replace v' := v'.on q); (try replace s' := s'.on q); (try replace t1' := t1'.on q); (try replace pz' := pz'.on q); (try replace qz' := qz'.on q); (try replace qm := qm.on q); clear q; have xa0 := cK qq g0 gl; have ya0 := fK qq f0 gl; have xa1 := cK qq g1 gl; have ya1 := fK qq f1 gl; have xa2 := cK qq g2 gl; have ya2 := fK qq f2 gl)
        | (go_at_call 91; (with_reducible refine (mul_N qz' fm1 (Nat.le_trans lu (by omega)) (Nat.le_trans llr (by omega))).mono ?_); rintro e wz ⟨Bq, mq, dq, rfl, qm, q⟩; replace qq := bK qq q; (try replace p0' := p0'.on q); (try replace q0' := q0'.on q); (try replace p1' := p1'.on q); (try replace q1' := q1'.on q); (try replace v' := v'.on q); (try replace s' := s'.on q); (try replace t1' := t1'.on q); (try replace pz' := pz'.on q); (try replace qz' := qz'.on q); (try replace fm1 := fm1.on q); clear q; have xa0 := cK qq g0 gl; have ya0 := fK qq f0 gl; have xa1 := cK qq g1 gl; have ya1 := fK qq f1 gl; have xa2 := cK qq g2 gl; have ya2 := fK qq f2 gl))
    replace cc := bK cc qq
    have hn : Rt wz bz Az nz cz Bq mq dq (x0 + x1) := ⟨by rw [HS.out.1]; exact pz', by rw [HS.out.2]; exact qm⟩
    have eb : BoxR wz (w.heap.size + 1 + 1 + 1) false none 0 0 none 0 0 := ⟨xa0, xa1, xa2⟩
    have HZ : Hid (Rt (putR wz (w.heap.size + 1 + 1 + 1) (.bool bz) (.slice Az nz cz) (.slice Bq mq dq)) bz Az nz cz Bq mq dq (x0 + x1)) := Lib.hid (Rt.putR hn eb _ _ _)
    clear hn
    go_wp2_with fail
    refine bodyPost_ret (v := .agg #[.bool bz, .slice Az nz cz, .slice Bq mq dq]) (by simp [results, Tryz.results88, go_sem, xa0, xa1, xa2]) rfl ⟨_, _, _, _, _, _, _, rfl, HZ.out, below_putR cc (by omega) _ _ _⟩

theorem qadd_N {w : World} {b0 b1 : Bool} {A0 B0 A1 B1 : Option Addr} {n0 c0 m0 d0 n1 c1 m1 d1 : Nat} {x0 x1 : Rat} (h0 : Rt w b0 A0 n0 c0 B0 m0 d0 x0) (s0 : Sz x0 30) (h1 : Rt w b1 A1 n1 c1 B1 m1 d1 x1) (s1 : Sz x1 30) :
    Calls Tryz.prog 48 #[.agg #[.bool b0, .slice A0 n0 c0, .slice B0 m0 d0], .agg #[.bool b1, .slice A1 n1 c1, .slice B1 m1 d1]] w (GotRt w (x0 + x1)) := by
  have cc := Below.refl w.heap.size w
  go_enter Tryz.func48, Tryz.ntmps48
  go_wp2_with fail
  generalize hv_ : ((w.alloc (.cells #[.bool b0, .slice A0 n0 c0, .slice B0 m0 d0] 27)).alloc (.cells #[.bool b1, .slice A1 n1 c1, .slice B1 m1 d1] 27)).alloc (.cells #[.bool false, .slice none 0 0, .slice none 0 0] 27) = v1
  obtain ⟨f0, f1, f2⟩ : Fz3 v1 (w.heap.size + 1 + 1) := by simp [Fz3, ← hv_, go_sem]
  have bA : Below w.heap.size w v1 := by rw [← hv_]; exact ((((Below.refl _ w).alloc (by simp) _).alloc (by simp) _).alloc (by simp <;> omega) _)
  replace h0 := h0.on bA
  replace h1 := h1.on bA
  replace cc := bK cc bA
  clear bA
  obtain ⟨k0, k1, k2⟩ : Cs3 v1 w.heap.size (.bool b0) (.slice A0 n0 c0) (.slice B0 m0 d0) := by simp [Cs3, ← hv_, go_sem]
  have kl : w.heap.size < v1.heap.size := by simp [← hv_] <;> omega
  obtain ⟨r0, r1, r2⟩ : Cs3 v1 (w.heap.size + 1) (.bool b1) (.slice A1 n1 c1) (.slice B1 m1 d1) := by simp [Cs3, ← hv_, go_sem]
  have rl : w.heap.size + 1 < v1.heap.size := by simp [← hv_] <;> omega
  obtain ⟨g0, g1, g2⟩ : Cs3 v1 (w.heap.size + 1 + 1) (.bool false) (.slice none 0 0) (.slice none 0 0) := by simp [Cs3, ← hv_, go_sem]
  have gl : w.heap.size + 1 + 1 < v1.heap.size := by simp [← hv_] <;> omega
  clear hv_
  refine (join_add h0 s0 h1 s1).mono ?_
  rintro e w2 ⟨bm, Am, nm, cm, Bm, mm, dm, rfl, hm, b⟩
  rewrite [fR b gl] at f0 f1 f2
  replace h0 := h0.on b
  replace h1 := h1.on b
  rewrite [cR b kl] at k0 k1 k2
  replace kl := lK b kl
  rewrite [cR b rl] at r0 r1 r2
  replace rl := lK b rl
  rewrite [cR b gl] at g0 g1 g2
  replace gl := lK b gl
  replace cc := bK cc b
  clear b
  have hn : Rt w2 bm Am nm cm Bm mm dm (x0 + x1) := hm
  have eb : BoxR w2 (w.heap.size + 1 + 1) false none 0 0 none 0 0 := ⟨g0, g1, g2⟩
  have HZ : Hid (Rt (putR w2 (w.heap.size + 1 + 1) (.bool bm) (.slice Am nm cm) (.slice Bm mm dm)) bm Am nm cm Bm mm dm (x0 + x1)) := Lib.hid (Rt.putR hn eb _ _ _)
  clear hn
  go_wp2_with fail
  refine bodyPost_ret (v := .agg #[.bool bm, .slice Am nm cm, .slice Bm mm dm]) (by simp [results, Tryz.results48, go_sem, g0, g1, g2]) rfl ⟨_, _, _, _, _, _, _, rfl, HZ.out, below_putR cc (by omega) _ _ _⟩

theorem qmul_N {w : World} {b0 b1 : Bool} {A0 B0 A1 B1 : Option Addr} {n0 c0 m0 d0 n1 c1 m1 d1 : Nat} {x0 x1 : Rat} (h0 : Rt w b0 A0 n0 c0 B0 m0 d0 x0) (s0 : Sz x0 30) (h1 : Rt w b1 A1 n1 c1 B1 m1 d1 x1) (s1 : Sz x1 30) :
    Calls Tryz.prog 50 #[.agg #[.bool b0, .slice A0 n0 c0, .slice B0 m0 d0], .agg #[.bool b1, .slice A1 n1 c1, .slice B1 m1 d1]] w (GotRt w (x0 * x1)) := by
  have p0 := h0.1
  have q0 := h0.2
  have lp0 := s0.1
  have lq0 := s0.2
  have p1 := h1.1
  have q1 := h1.2
  have lp1 := s1.1
  have lq1 := s1.2
  clear h0
  clear h1
  have HM : Hid ((x0 * x1).num = (mkRat x0.num x1.den).num * (mkRat x1.num x0.den).num ∧ (x0 * x1).den = (mkRat x0.num x1.den).den * (mkRat x1.num x0.den).den) := Lib.hid (mul_sides x0 x1)
  have n0_ := x0.den_nz
  have n1_ := x1.den_nz
  have su : Sz (mkRat x0.num x1.den) 30 := sz_mk n1_ lp0 lq1
  have sv : Sz (mkRat x1.num x0.den) 30 := sz_mk n0_ lp1 lq0
  have u1_ := su.1
  have u2_ := su.2
  have v1_ := sv.1
  have v2_ := sv.2
  clear su sv
  have cc := Below.refl w.heap.size w
  go_enter Tryz.func50, Tryz.ntmps50
  go_wp2_with fail
  generalize hv_ : ((w.alloc (.cells #[.bool b0, .slice A0 n0 c0, .slice B0 m0 d0] 27)).alloc (.cells #[.bool b1, .slice A1 n1 c1, .slice B1 m1 d1] 27)).alloc (.cells #[.bool false, .slice none 0 0, .slice none 0 0] 27) = v1
  obtain ⟨f0, f1, f2⟩ : Fz3 v1 (w.heap.size + 1 + 1) := by simp [Fz3, ← hv_, go_sem]
  have bA : Below w.heap.size w v1 := by rw [← hv_]; exact ((((Below.refl _ w).alloc (by simp) _).alloc (by simp) _).alloc (by simp <;> omega) _)
  replace p0 := p0.on bA
  replace q0 := q0.on bA
  replace p1 := p1.on bA
  replace q1 := q1.on bA
  replace cc := bK cc bA
  clear bA
  obtain ⟨k0, k1, k2⟩ : Cs3 v1 w.heap.size (.bool b0) (.slice A0 n0 c0) (.slice B0 m0 d0) := by simp [Cs3, ← hv_, go_sem]
  have kl : w.heap.size < v1.heap.size := by simp [← hv_] <;> omega
  obtain ⟨r0, r1, r2⟩ : Cs3 v1 (w.heap.size + 1) (.bool b1) (.slice A1 n1 c1) (.slice B1 m1 d1) := by simp [Cs3, ← hv_, go_sem]
  have rl : w.heap.size + 1 < v1.heap.size := by simp [← hv_] <;> omega
  obtain ⟨g0, g1, g2⟩ : Cs3 v1 (w.heap.size + 1 + 1) (.bool false) (.slice none 0 0) (.slice none 0 0) := by simp [Cs3, ← hv_, go_sem]
  have gl : w.heap.size + 1 + 1 < v1.heap.size := by simp [← hv_] <;> omega
  clear hv_
  go_upto_region 1 with fail
  go_cut [5, 6] (fun ux uy wx => ∃ (gx gy : Nat) (bx : Bool) (Ax : Option Addr) (nx kx : Nat) (Cx : Option Addr) (mx dx : Nat) (bY : Bool) (Ay : Option Addr) (ny ky : Nat) (Cy : Option Addr) (my dy : Nat), ux = .pointer (some ⟨gx, 0, none⟩) ∧ uy = .pointer (some ⟨gy, 0, none⟩) ∧ BothR v1 wx gx gy bx Ax nx kx Cx mx dx bY Ay ny ky Cy my dy (mkRat x0.num x1.den) (mkRat x1.num x0.den))
  case first =>
    have BB0 : Below v1.heap.size v1 v1.drew := below_drewN (Below.refl _ v1) 1
    have BB1 : Below v1.heap.size v1 (v1.alloc (.cells #[.bool false, .slice none 0 0, .slice none 0 0] 27)).drew := below_drewN (below_one _ _) 1
    have BB2 : Below v1.heap.size v1 ((v1.alloc (.cells #[.bool false, .slice none 0 0, .slice none 0 0] 27)).alloc (.cells #[.bool false, .slice none 0 0, .slice none 0 0] 27)).drew := below_drewN (below_two _ _ _) 1
    go_region_held3 (fun w' => w'.cell? ⟨w.heap.size, 0, none⟩ = some (.bool b0) ∧ w'.cell? ⟨w.heap.size, 1, none⟩ = some (.slice A0 n0 c0) ∧ w'.cell? ⟨w.heap.size, 2, none⟩ = some (.slice B0 m0 d0) ∧ w'.cell? ⟨w.heap.size + 1, 0, none⟩ = some (.bool b1) ∧ w'.cell? ⟨w.heap.size + 1, 1, none⟩ = some (.slice A1 n1 c1) ∧ w'.cell? ⟨w.heap.size + 1, 2, none⟩ = some (.slice B1 m1 d1) ∧ w'.cell? ⟨w.heap.size + 1 + 1, 0, none⟩ = some (.bool false) ∧ w'.cell? ⟨w.heap.size + 1 + 1, 1, none⟩ = some (.slice none 0 0) ∧ w'.cell? ⟨w.heap.size + 1 + 1, 2, none⟩ = some (.slice none 0 0))
      (first | with_reducible exact ⟨(cK qq k0 kl), (cK qq k1 kl), (cK qq k2 kl), (cK qq r0 rl), (cK qq r1 rl), (cK qq r2 rl), (cK qq g0 gl), (cK qq g1 gl), (cK qq g2 gl)⟩ | with_reducible exact ⟨keep_alloc ((cK qq k0 kl)), keep_alloc ((cK qq k1 kl)), keep_alloc ((cK qq k2 kl)), keep_alloc ((cK qq r0 rl)), keep_alloc ((cK qq r1 rl)), keep_alloc ((cK qq r2 rl)), keep_alloc ((cK qq g0 gl)), keep_alloc ((cK qq g1 gl)), keep_alloc ((cK qq g2 gl))⟩ | with_reducible exact ⟨keep_alloc (keep_alloc ((cK qq k0 kl))), keep_alloc (keep_alloc ((cK qq k1 kl))), keep_alloc (keep_alloc ((cK qq k2 kl))), keep_alloc (keep_alloc ((cK qq r0 rl))), keep_alloc (keep_alloc ((cK qq r1 rl))), keep_alloc (keep_alloc ((cK qq r2 rl))), keep_alloc (keep_alloc ((cK qq g0 gl))), keep_alloc (keep_alloc ((cK qq g1 gl))), keep_alloc (keep_alloc ((cK qq g2 gl)))⟩ | with_reducible exact ⟨((cell_putR (by omega)).trans (cK qq k0 kl)), ((cell_putR (by omega)).trans (cK qq k1 kl)), ((cell_putR (by omega)).trans (cK qq k2 kl)), ((cell_putR (by omega)).trans (cK qq r0 rl)), ((cell_putR (by omega)).trans (cK qq r1 rl)), ((cell_putR (by omega)).trans (cK qq r2 rl)), ((cell_putR (by omega)).trans (cK qq g0 gl)), ((cell_putR (by omega)).trans (cK qq g1 gl)), ((cell_putR (by omega)).trans (cK qq g2 gl))⟩ | with_reducible exact ⟨keep_alloc (((cell_putR (by omega)).trans (cK qq k0 kl))), keep_alloc (((cell_putR (by omega)).trans (cK qq k1 kl))), keep_alloc (((cell_putR (by omega)).trans (cK qq k2 kl))), keep_alloc (((cell_putR (by omega)).trans (cK qq r0 rl))), keep_alloc (((cell_putR (by omega)).trans (cK qq r1 rl))), keep_alloc (((cell_putR (by omega)).trans (cK qq r2 rl))), keep_alloc (((cell_putR (by omega)).trans (cK qq g0 gl))), keep_alloc (((cell_putR (by omega)).trans (cK qq g1 gl))), keep_alloc (((cell_putR (by omega)).trans (cK qq g2 gl)))⟩ | with_reducible exact ⟨((cell_putR (by omega)).trans ((cell_putR (by omega)).trans (cK qq k0 kl))), ((cell_putR (by omega)).trans ((cell_putR (by omega)).trans (cK qq k1 kl))), ((cell_putR (by omega)).trans ((cell_putR (by omega)).trans (cK qq k2 kl))), ((cell_putR (by omega)).trans ((cell_putR (by omega)).trans (cK qq r0 rl))), ((cell_putR (by omega)).trans ((cell_putR (by omega)).trans (cK qq r1 rl))), ((cell_putR (by omega)).trans ((cell_putR (by omega)).trans (cK qq r2 rl))), ((cell_putR (by omega)).trans ((cell_putR (by omega)).trans (cK qq g0 gl))), ((cell_putR (by omega)).trans ((cell_putR (by omega)).trans (cK qq g1 gl))), ((cell_putR (by omega)).trans ((cell_putR (by omega)).trans (cK qq g2 gl)))⟩ | go_keep)
      (first
        | (go_at_call 89; (with_reducible refine (reduced_N (p0.on BB0) (q1.on BB0) n1_ (Nat.le_trans lp0 (by omega)) (Nat.le_trans lq1 (by omega))).mono ?_); rintro e wy ⟨bx, Ax, nx, kx, Cx, mx, dx, rfl, hx, q⟩; have qq := BB0.trans (q.mono BB0.size); have qs := qq.size; clear q)
        | (go_at_call 89; (with_reducible refine (reduced_N (p0.on BB1) (q1.on BB1) n1_ (Nat.le_trans lp0 (by omega)) (Nat.le_trans lq1 (by omega))).mono ?_); rintro e wy ⟨bx, Ax, nx, kx, Cx, mx, dx, rfl, hx, q⟩; have qq := BB1.trans (q.mono BB1.size); have qs := qq.size; obtain ⟨c00, d00, c01, d01, c02, d02, l0⟩ := zb3 (g := v1.heap.size) q (by simp <;> omega) (by simp [Cs3, go_sem]) (by simp [Fz3, go_sem]); clear q)
        | (go_at_call 89; (with_reducible refine (reduced_N (p0.on BB2) (q1.on BB2) n1_ (Nat.le_trans lp0 (by omega)) (Nat.le_trans lq1 (by omega))).mono ?_); rintro e wy ⟨bx, Ax, nx, kx, Cx, mx, dx, rfl, hx, q⟩; have qq := BB2.trans (q.mono BB2.size); have qs := qq.size; obtain ⟨c00, d00, c01, d01, c02, d02, l0⟩ := zb3 (g := v1.heap.size) q (by simp <;> omega) (by simp [Cs3, go_sem]) (by simp [Fz3, go_sem]); obtain ⟨c10, d10, c11, d11, c12, d12, l1⟩ := zb3 (g := v1.heap.size + 1) q (by simp <;> omega) (by simp [Cs3, go_sem]) (by simp [Fz3, go_sem]); clear q)
        | (go_at_call 89; have up := Below.refl wy.heap.size wy; (with_reducible refine (reduced_N ((p1.on qq).on up) ((q0.on qq).on up) n0_ (Nat.le_trans lp1 (by omega)) (Nat.le_trans lq0 (by omega))).mono ?_); rintro e wz ⟨bY, Ay, ny, ky, Cy, my, dy, rfl, hy, q⟩; (try (rewrite [cR up l0, cR q (lK up l0)] at c00 c01 c02; rewrite [fR up l0, fR q (lK up l0)] at d00 d01 d02; have l0' := lK q (lK up l0))); (try (rewrite [cR up l1, cR q (lK up l1)] at c10 c11 c12; rewrite [fR up l1, fR q (lK up l1)] at d10 d11 d12; have l1' := lK q (lK up l1))); replace hx := (hx.on up).on q; replace qq := uK qq up q; have qs2 := qq.size; clear q up)
        | (go_at_call 89; have up := below_one wy (.cells #[.bool false, .slice none 0 0, .slice none 0 0] 27); (with_reducible refine (reduced_N ((p1.on qq).on up) ((q0.on qq).on up) n0_ (Nat.le_trans lp1 (by omega)) (Nat.le_trans lq0 (by omega))).mono ?_); rintro e wz ⟨bY, Ay, ny, ky, Cy, my, dy, rfl, hy, q⟩; (try (rewrite [cR up l0, cR q (lK up l0)] at c00 c01 c02; rewrite [fR up l0, fR q (lK up l0)] at d00 d01 d02; have l0' := lK q (lK up l0))); (try (rewrite [cR up l1, cR q (lK up l1)] at c10 c11 c12; rewrite [fR up l1, fR q (lK up l1)] at d10 d11 d12; have l1' := lK q (lK up l1))); obtain ⟨e00, f00, e01, f01, e02, f02, n0⟩ := zb3 (g := wy.heap.size) q (by simp <;> omega) (by simp [Cs3, go_sem]) (by simp [Fz3, go_sem]); replace hx := (hx.on up).on q; replace qq := uK qq up q; have qs2 := qq.size; clear q up)
        | (go_at_call 89; have up := below_two wy (.cells #[.bool false, .slice none 0 0, .slice none 0 0] 27) (.cells #[.bool false, .slice none 0 0, .slice none 0 0] 27); (with_reducible refine (reduced_N ((p1.on qq).on up) ((q0.on qq).on up) n0_ (Nat.le_trans lp1 (by omega)) (Nat.le_trans lq0 (by omega))).mono ?_); rintro e wz ⟨bY, Ay, ny, ky, Cy, my, dy, rfl, hy, q⟩; (try (rewrite [cR up l0, cR q (lK up l0)] at c00 c01 c02; rewrite [fR up l0, fR q (lK up l0)] at d00 d01 d02; have l0' := lK q (lK up l0))); (try (rewrite [cR up l1, cR q (lK up l1)] at c10 c11 c12; rewrite [fR up l1, fR q (lK up l1)] at d10 d11 d12; have l1' := lK q (lK up l1))); obtain ⟨e00, f00, e01, f01, e02, f02, n0⟩ := zb3 (g := wy.heap.size) q (by simp <;> omega) (by simp [Cs3, go_sem]) (by simp [Fz3, go_sem]); obtain ⟨e10, f10, e11, f11, e12, f12, n1⟩ := zb3 (g := wy.heap.size + 1) q (by simp <;> omega) (by simp [Cs3, go_sem]) (by simp [Fz3, go_sem]); replace hx := (hx.on up).on q; replace qq := uK qq up q; have qs2 := qq.size; clear q up))
    all_goals (go_wp2_with fail; go_meet)
    all_goals refine ⟨_, _, bx, Ax, nx, kx, Cx, mx, dx, bY, Ay, ny, ky, Cy, my, dy, rfl, rfl, ?_⟩
    all_goals first
      | with_reducible exact pairRA hx hy qq _
      | with_reducible exact pairRA' hx hy qq _
      | with_reducible exact pairRB (by assumption) (by assumption) (by assumption) hx hy qq (by omega) _
      | with_reducible exact pairRB' (by assumption) (by assumption) (by assumption) hx hy qq (by omega) _
      | with_reducible exact pairRC (by assumption) (by assumption) (by assumption) (by assumption) (by assumption) (by assumption) hx hy qq (by omega) (by omega) (by omega)
  case rest =>
    obtain ⟨gu, gv, bu, Au, nu, ku, Cu, mu, du, bv, Av, nv, kv, Cv, mv, dv, rfl, rfl, ⟨u0, u1, u2⟩, ⟨v0, v1, v2⟩, ⟨pu, qu⟩, ⟨pv, qv⟩, b, uge, vge, uqv⟩ := hcut
    have ul := cell_lt u0
    have vl := cell_lt v0
    simp only at ul vl
    have uqk : w.heap.size < gu := Nat.lt_of_lt_of_le kl uge
    have uqr : w.heap.size + 1 < gu := Nat.lt_of_lt_of_le rl uge
    have uqg : w.heap.size + 1 + 1 < gu := Nat.lt_of_lt_of_le gl uge
    have vqk : w.heap.size < gv := Nat.lt_of_lt_of_le kl vge
    have vqr : w.heap.size + 1 < gv := Nat.lt_of_lt_of_le rl vge
    have vqg : w.heap.size + 1 + 1 < gv := Nat.lt_of_lt_of_le gl vge
    rewrite [fR b gl] at f0 f1 f2
    replace p0 := p0.on b
    replace q0 := q0.on b
    replace p1 := p1.on b
    replace q1 := q1.on b
    rewrite [cR b kl] at k0 k1 k2
    replace kl := lK b kl
    rewrite [cR b rl] at r0 r1 r2
    replace rl := lK b rl
    rewrite [cR b gl] at g0 g1 g2
    replace gl := lK b gl
    replace cc := bK cc b
    clear b
    go_wp2_with fail
    have qq : Below wc.heap.size wc wc.drew := below_drewN (Below.refl _ wc) 1
    have p0' := p0.on qq
    have q0' := q0.on qq
    have p1' := p1.on qq
    have q1' := q1.on qq
    have pu' := pu.on qq
    have qu' := qu.on qq
    have pv' := pv.on qq
    have qv' := qv.on qq
    go_region_held3 (fun w' => w'.cell? ⟨w.heap.size, 0, none⟩ = some (.bool b0) ∧ w'.cell? ⟨w.heap.size, 1, none⟩ = some (.slice A0 n0 c0) ∧ w'.cell? ⟨w.heap.size, 2, none⟩ = some (.slice B0 m0 d0) ∧ w'.cell? ⟨w.heap.size + 1, 0, none⟩ = some (.bool b1) ∧ w'.cell? ⟨w.heap.size + 1, 1, none⟩ = some (.slice A1 n1 c1) ∧ w'.cell? ⟨w.heap.size + 1, 2, none⟩ = some (.slice B1 m1 d1) ∧ w'.cell? ⟨gu, 0, none⟩ = some (.bool bu) ∧ w'.cell? ⟨gu, 1, none⟩ = some (.slice Au nu ku) ∧ w'.cell? ⟨gu, 2, none⟩ = some (.slice Cu mu du) ∧ w'.cell? ⟨gv, 0, none⟩ = some (.bool bv) ∧ w'.cell? ⟨gv, 1, none⟩ = some (.slice Av nv kv) ∧ w'.cell? ⟨gv, 2, none⟩ = some (.slice Cv mv dv))
      (first | with_reducible exact ⟨cK qq k0 kl, cK qq k1 kl, cK qq k2 kl, cK qq r0 rl, cK qq r1 rl, cK qq r2 rl, cK qq u0 ul, cK qq u1 ul, cK qq u2 ul, cK qq v0 vl, cK qq v1 vl, cK qq v2 vl⟩ | with_reducible exact ⟨(cell_putR (by omega)).trans (cK qq k0 kl), (cell_putR (by omega)).trans (cK qq k1 kl), (cell_putR (by omega)).trans (cK qq k2 kl), (cell_putR (by omega)).trans (cK qq r0 rl), (cell_putR (by omega)).trans (cK qq r1 rl), (cell_putR (by omega)).trans (cK qq r2 rl), (cell_putR (by omega)).trans (cK qq u0 ul), (cell_putR (by omega)).trans (cK qq u1 ul), (cell_putR (by omega)).trans (cK qq u2 ul), (cell_putR (by omega)).trans (cK qq v0 vl), (cell_putR (by omega)).trans (cK qq v1 vl), (cell_putR (by omega)).trans (cK qq v2 vl)⟩)
      (first
        | (go_at_call 90; (with_reducible refine (zmul_N pu' pv' (Nat.le_trans u1_ (by omega)) (Nat.le_trans v1_ (by omega))).mono ?_); rintro e wz ⟨bm, Am, nm, cm, rfl, pm, q⟩; replace qq := bK qq q; (try replace p0' := p0'.on q); (try replace q0' := q0'.on q); (try replace p1' := p1'.on q); (try replace q1' := q1'.on q); (try replace pu' := pu'.on q); (try replace qu' := qu'.on q); (try replace pv' := pv'.on q); (try replace qv' := qv'.on q); (try replace qm := qm.on q); clear q; have xa0 := cK qq g0 gl; have ya0 := fK qq f0 gl; have xa1 := cK qq g1 gl; have ya1 := fK qq f1 gl; have xa2 := cK qq g2 gl; have ya2 := fK qq f2 gl)
        | (go_at_call 91; (with_reducible refine (mul_N qu' qv' (Nat.le_trans u2_ (by omega)) (Nat.le_trans v2_ (by omega))).mono ?_); rintro e wz ⟨Bm, mm, dm, rfl, qm, q⟩; replace qq := bK qq q; (try replace p0' := p0'.on q); (try replace q0' := q0'.on q); (try replace p1' := p1'.on q); (try replace q1' := q1'.on q); (try replace pu' := pu'.on q); (try replace qu' := qu'.on q); (try replace pv' := pv'.on q); (try replace qv' := qv'.on q); (try replace pm := pm.on q); clear q; have xa0 := cK qq g0 gl; have ya0 := fK qq f0 gl; have xa1 := cK qq g1 gl; have ya1 := fK qq f1 gl; have xa2 := cK qq g2 gl; have ya2 := fK qq f2 gl))
    replace cc := bK cc qq
    have hn : Rt wz bm Am nm cm Bm mm dm (x0 * x1) := ⟨by rw [HM.out.1]; exact pm, by rw [HM.out.2]; exact qm⟩
    have eb : BoxR wz (w.heap.size + 1 + 1) false none 0 0 none 0 0 := ⟨xa0, xa1, xa2⟩
    have HZ : Hid (Rt (putR wz (w.heap.size + 1 + 1) (.bool bm) (.slice Am nm cm) (.slice Bm mm dm)) bm Am nm cm Bm mm dm (x0 * x1)) := Lib.hid (Rt.putR hn eb _ _ _)
    clear hn
    go_wp2_with fail
    refine bodyPost_ret (v := .agg #[.bool bm, .slice Am nm cm, .slice Bm mm dm]) (by simp [results, Tryz.results50, go_sem, xa0, xa1, xa2]) rfl ⟨_, _, _, _, _, _, _, rfl, HZ.out, below_putR cc (by omega) _ _ _⟩

end Go.Proofs.YtanpklbconflmaaGreat
