/-
  Several texts in one: S6, S7, S8, D, QR, QS, QT, MathY, F6, F7, DX, M8, F8, K8.
-/
import Derived.WalkMore
import Derived.Test.YtpephogadljncaaA4
import Derived.Test.YtpephogadljncaaA3
import Derived.Test.YtpephogadljncaaA2

/-
  The contract of div's guess.
-/
namespace Go.Proofs.Ytpephogadljncaa
set_option maxRecDepth 100000
open Go.RowKit

/-- What a guess sees of two rows of digits. -/
theorem seen_rows {Rl Dl : List Nat} {k v2 : Nat} (hR : Dig Rl) (hD : Dig Dl) (lR : Rl.length = k + 2) (lD : Dl.length = k + 1) (top : B64 ≤ 2 * Dl[k]?.getD 0) (hv2 : v2 = if k = 0 then 0 else Dl[k - 1]?.getD 0) :
    Seen (val Rl) (val Dl) (B64 ^ k) (Rl[k + 1]?.getD 0 * B64 + Rl[k]?.getD 0) (Dl[k]?.getD 0) v2 (val (Dl.take k)) (val (Rl.take k)) := by
  have e1 : val Dl = val (Dl.take k) + B64 ^ k * Dl[k]?.getD 0 := by rw [← val_take_succ, List.take_of_length_le (by omega)]
  have e2 : val Rl = val (Rl.take k) + B64 ^ k * Rl[k]?.getD 0 + B64 ^ (k + 1) * Rl[k + 1]?.getD 0 := by rw [← val_take_succ, ← val_take_succ, List.take_of_length_le (by omega)]
  have l1 : val (Dl.take k) < B64 ^ k := by have := val_lt (hD.take k); rw [List.length_take, Nat.min_eq_left (by omega)] at this; exact this
  have l2 : val (Rl.take k) < B64 ^ k := by have := val_lt (hR.take k); rw [List.length_take, Nat.min_eq_left (by omega)] at this; exact this
  have hv : v2 * B64 ^ k ≤ B64 * val (Dl.take k) ∧ B64 * val (Dl.take k) < (v2 + 1) * B64 ^ k ∧ v2 < B64 := by
    cases k with
    | zero => rw [hv2]; simp [val_nil, B64_pos]
    | succ j =>
      rw [if_neg (by omega), Nat.add_sub_cancel] at hv2
      have l3 : val (Dl.take j) < B64 ^ j := by have := val_lt (hD.take j); rw [List.length_take, Nat.min_eq_left (by omega)] at this; exact this
      rw [val_take_succ, ← hv2, Nat.pow_succ, Nat.mul_add, Nat.add_mul]
      have e3 : B64 * (B64 ^ j * v2) = v2 * (B64 ^ j * B64) := by ac_rfl
      have e4 : B64 * val (Dl.take j) < B64 ^ j * B64 := by rw [Nat.mul_comm]; exact Nat.mul_lt_mul_of_pos_right l3 B64_pos
      rw [e3]
      refine ⟨by omega, by omega, ?_⟩
      rw [hv2]; exact hD.get _
  refine ⟨by rw [e1, Nat.mul_comm]; omega, ?_, l1, l2, hv.1, hv.2.1, top, hD.get _, hv.2.2⟩
  rw [e2, Nat.add_mul, Nat.pow_succ]
  have e5 : Rl[k + 1]?.getD 0 * B64 * B64 ^ k = B64 ^ k * B64 * Rl[k + 1]?.getD 0 := by ac_rfl
  rw [e5, Nat.mul_comm (Rl[k]?.getD 0)]
  omega

theorem big_lit : (18446744073709551615 : Int) = ((B64 - 1 : Nat) : Int) := by unfold B64; omega

/-- A call has answered a guess. -/
def GotG (w : World) (R D : Nat) (e : Ending) (w' : World) : Prop := ∃ t : Nat, e = .returned (.int .u64 (t : Int)) ∧ Good R D t ∧ Below w.heap.size w w'

set_option maxHeartbeats 4000000 in
theorem guess_N (w : World) (g i cr b o cb k : Nat) (Rl Dl : List Nat) (hR : Lim w.heap.size w (some ⟨g, i, none⟩) (k + 2) cr Rl) (hD : Lim w.heap.size w (some ⟨b, o, none⟩) (k + 1) cb Dl)
    (hk : k ≤ 1000000) (top : B64 ≤ 2 * Dl[k]?.getD 0) (hlt : val Rl < B64 * val Dl) :
    Calls Try.prog 89 #[.slice (some ⟨g, i, none⟩) (k + 2) cr, .slice (some ⟨b, o, none⟩) (k + 1) cb] w (GotG w (val Rl) (val Dl)) := by
  obtain ⟨v2, hv2⟩ : ∃ v2, v2 = if k = 0 then 0 else Dl[k - 1]?.getD 0 := ⟨_, rfl⟩
  have hS := seen_rows hR.2.2.1 hD.2.2.1 hR.1.symm hD.1.symm top hv2
  have HS := Lib.hid hS
  have HV2 := Lib.hid hv2
  obtain ⟨v1, hv1⟩ : ∃ v1, v1 = Dl[k]?.getD 0 := ⟨_, rfl⟩
  have HV1 := Lib.hid hv1
  clear hS hv2 hv1
  have HLT := Lib.hid hlt
  have HT := Lib.hid top
  clear hlt top
  go_enter Try.func89, Try.ntmps89
  go_wp2_with fail
  go_step3
  go_upto_region 2 with fail
  go_cut [6, 7] (fun tv sv wx => tv = .int .u64 (v1 : Int) ∧ sv = .int .u64 (v2 : Int) ∧ Below w.heap.size w wx)
  case first =>
    obtain ⟨b', o', e, hb, hcell⟩ := hD.2.2.2 (by omega)
    injection e with e
    injection e with e1 e2
    subst e1; subst e2
    have h1 := hcell k (by omega)
    rw [← HV1.out] at h1
    have i1 : (0 : Int) ≤ (k : Int) := by omega
    have i2 : (k : Int) < (k : Int) + 1 := by omega
    clear hcell
    by_cases hk0 : k = 0
    · have hw : IntKind.i64.wrap ((k : Int) - 1) = -1 := by rw [hk0]; rfl
      have hz : v2 = 0 := by rw [HV2.out, if_pos hk0]
      have HZ := Lib.hid hz
      clear hk0 hz
      go_region_held3 (fun w' => w'.cell? ⟨b, o + k, none⟩ = some (.int .u64 (v1 : Int))) (go_keep) ((go_at_call 92; refine (dlimb_neg _ _ _ _).mono ?_; rintro e w' ⟨rfl, rfl⟩))
      clear hw
      go_wp2_with fail
      go_meet
      exact ⟨rfl, by rw [HZ.out]; rfl, below_drewN (Below.refl _ w) 1⟩
    · obtain ⟨j, hj⟩ : ∃ j, k = j + 1 := ⟨k - 1, by omega⟩
      have hw : IntKind.i64.wrap ((k : Int) - 1) = (j : Int) := by rw [IntWalk.i64_in _ (by omega)]; omega
      have hz : v2 = Dl[j]?.getD 0 := by rw [HV2.out, if_neg hk0, hj, Nat.add_sub_cancel]
      have hjk : j ≤ 1000000 := by omega
      have HZ := Lib.hid hz
      clear hk0 hz hj
      have hc := dlimb_any _ _ _ _ j _ w.drew hD (by omega) (by omega)
      have HC := Lib.hid hc
      clear hc
      go_region_held3 (fun w' => w'.cell? ⟨b, o + k, none⟩ = some (.int .u64 (v1 : Int))) (go_keep) ((go_at_call 92; refine HC.out.mono ?_; rintro e w' ⟨rfl, rfl⟩))
      clear hw
      go_wp2_with fail
      go_meet
      exact ⟨rfl, by rw [HZ.out], below_drewN (Below.refl _ w) 1⟩
  case rest =>
    obtain ⟨rfl, rfl, hB⟩ := hcut
    have hR' := hR.on hB
    obtain ⟨g', i', e, hg, hcell⟩ := hR'.2.2.2 (by omega)
    injection e with e
    injection e with e1 e2
    subst e1; subst e2
    obtain ⟨u2, hu2⟩ : ∃ u, u = Rl[k + 1]?.getD 0 := ⟨_, rfl⟩
    obtain ⟨u1, hu1⟩ : ∃ u, u = Rl[k]?.getD 0 := ⟨_, rfl⟩
    have h1 := hcell (k + 1) (by omega)
    have h2 := hcell k (by omega)
    rw [← hu2] at h1
    rw [← hu1] at h2
    have hS := HS.out
    rw [← hu2, ← hu1, ← HV1.out] at hS
    have hu2l : u2 < B64 := by rw [hu2]; exact hR.2.2.1.get _
    have hu1l : u1 < B64 := by rw [hu1]; exact hR.2.2.1.get _
    have hv1l := hS.v1lt
    have hv2l := hS.v2lt
    have htop := hS.top
    have HSS := Lib.hid hS
    clear hcell hu2 hu1 hS HS
    by_cases hge : v1 ≤ u2
    · have hgood := HSS.out.great (by
        have h3 : v1 * B64 ≤ u2 * B64 := Nat.mul_le_mul_right _ hge
        omega) HLT.out
      have HG := Lib.hid hgood
      clear hgood
      go_wp2_with fail
      try rw [Exit.noGoto_ret]
      go_ret
      exact ⟨B64 - 1, by rw [← big_lit]; rfl, HG.out, hB⟩
    · have hlt2 : u2 < v1 := by omega
      obtain ⟨t0, ht0⟩ : ∃ t, t = (u2 * B64 + u1) / v1 := ⟨_, rfl⟩
      obtain ⟨h0, hh0⟩ : ∃ h, h = (u2 * B64 + u1) % v1 := ⟨_, rfl⟩
      have hdv : ∀ W, Calls Try.prog 98 #[.int .u64 (u2 : Int), .int .u64 (u1 : Int), .int .u64 (v1 : Int)] W fun e w' => e = .returned (.tuple #[.int .u64 (t0 : Int), .int .u64 (h0 : Int)]) ∧ ∃ n, w' = W.drewN n := by
        rw [ht0, hh0]
        exact fun W => div64_any u2 u1 v1 W hlt2 hu1l hv1l htop
      have HDV := Lib.hid hdv
      have hv1p : 0 < v1 := by omega
      have hh0l : h0 < v1 := by rw [hh0]; exact Nat.mod_lt _ hv1p
      have hsum : t0 * v1 + h0 = u2 * B64 + u1 := by rw [ht0, hh0, Nat.mul_comm]; exact Nat.div_add_mod _ _
      have ht0l : t0 < B64 := by
        rw [ht0, Nat.div_lt_iff_lt_mul hv1p, Nat.mul_comm B64]
        have h3 : (u2 + 1) * B64 ≤ v1 * B64 := Nat.mul_le_mul_right _ hlt2
        rw [Nat.add_mul] at h3
        omega
      have hfirst := HSS.out.first hsum hh0l
      have HSU := Lib.hid hsum
      have HFI := Lib.hid hfirst
      have i1 : (0 : Int) ≤ (k : Int) := by omega
      have i2 : (k : Int) < (k : Int) + 2 := by omega
      have i3 : IntKind.i64.wrap ((k : Int) + 1) = (k : Int) + 1 := IntWalk.i64_in _ (by omega)
      have i4 : (0 : Int) ≤ (k : Int) + 1 := by omega
      have i5 : (k : Int) + 1 < (k : Int) + 2 := by omega
      clear hdv ht0 hh0 hsum hfirst
      go_wp2_with fail
      go_region_held3 (fun w' => w'.cell? ⟨g, i + (k + 1), none⟩ = some (.int .u64 (u2 : Int)) ∧ w'.cell? ⟨g, i + k, none⟩ = some (.int .u64 (u1 : Int))) (first | go_keep | (rw [World.cell?_drewN, World.cell?_drewN]; go_keep)) ((go_at_call 98; refine (HDV.out _).mono ?_; rintro e w' ⟨rfl, nq, rfl⟩))
      clear i1 i2 i3 i4 i5
      go_wp2_with fail
      go_step3
      go_wp2_with fail
      have hW : Below w.heap.size w (wc.drewN (1 + nq)) := below_drewN hB _
      generalize wc.drewN (1 + nq) = W at *
      go_loop [8, 9, 10] (fun tv lv ov => ∃ t l o : Nat, tv = .int .u64 (t : Int) ∧ lv = .int .u64 (l : Int) ∧ ov = .int .u64 (o : Int) ∧ o ≤ 1 ∧ t < B64 ∧ l < B64 ∧ Hid (t * v1 + (l + B64 * o) = u2 * B64 + u1) ∧ Hid (val Rl < (t + 1) * val Dl)) (fun tv _ _ => (intOf tv).toNat)
      case atStart => exact ⟨t0, h0, 0, rfl, rfl, rfl, by omega, ht0l, by omega, Lib.hid (by rw [Nat.mul_zero, Nat.add_zero]; exact HSU.out), HFI⟩
      case round =>
        obtain ⟨t, l, ov, rfl, rfl, rfl, ho, htl, hll, HE, HL⟩ := hrel
        have hfin : t * v2 < (l + B64 * ov + 1) * B64 → GotG w (val Rl) (val Dl) (.returned (.int .u64 (t : Int))) W := fun h => ⟨t, rfl, ⟨HL.out, HSS.out.done HE.out htl h, htl⟩, hW⟩
        have HFN := Lib.hid hfin
        clear hfin
        by_cases ho1 : ov = 0
        · subst ho1
          by_cases hp : l < mulHi t v2
          · have hc : (l + 1) * B64 ≤ t * v2 := by
              rcases Nat.lt_or_ge (t * v2) ((l + 1) * B64) with h3 | h3
              · have := mulHi_le_iff.2 h3; omega
              · exact h3
            have hE := HE.out
            rw [Nat.mul_zero, Nat.add_zero] at hE
            have hless := HSS.out.less hE hc
            have htp : 0 < t := by
              rcases Nat.eq_zero_or_pos t with h3 | h3
              · subst h3; have := B64_pos; rw [Nat.zero_mul, Nat.add_mul] at hc; omega
              · exact h3
            obtain ⟨t', ht'⟩ : ∃ t', t = t' + 1 := ⟨t - 1, by omega⟩
            have c1 : IntKind.u64.wrap ((t : Int) - 1) = (t' : Int) := by rw [IntKind.wrap_u64]; unfold B64 at htl; omega
            have c2 := add64_run0 l v1
            have hss := sum_split l v1 0
            have hsl := sumLo_lt l v1 0
            have hsh := sumHi_le hll hv1l (Nat.zero_le 1)
            have HE' : Hid (t' * v1 + (sumLo l v1 0 + B64 * sumHi l v1 0) = u2 * B64 + u1) := Lib.hid (by
              rw [hss, ← hE, ht', Nat.add_mul]; omega)
            have HL' : Hid (val Rl < (t' + 1) * val Dl) := Lib.hid (by rw [← ht']; exact hless)
            have htt : t' < t := by omega
            have ht'l : t' < B64 := by omega
            clear hE hless hss hc ht' htp HE HL
            go_wp2_with (go_at_call 65; refine (mul64_any _ _ _ htl hv2l).mono ?_; rintro e w' ⟨rfl, rfl⟩)
            go_round
            case rel => exact ⟨t', sumLo l v1 0, sumHi l v1 0, rfl, rfl, rfl, hsh, ht'l, hsl, HE', HL'⟩
            case measure => simp [intOf]; omega
          · have hc : t * v2 < (l + 1) * B64 := mulHi_le_iff.1 (by omega)
            have HC := Lib.hid hc
            clear hc
            go_wp2_with (go_at_call 65; refine (mul64_any _ _ _ htl hv2l).mono ?_; rintro e w' ⟨rfl, rfl⟩)
            try rw [Exit.noGoto_ret]
            go_ret
            exact HFN.out (by rw [Nat.mul_zero, Nat.add_zero]; exact HC.out)
        · obtain rfl : ov = 1 := by omega
          have hc : t * v2 < (l + B64 * 1 + 1) * B64 := by
            have h3 : t * v2 ≤ B64 * B64 := Nat.mul_le_mul (by omega) (by omega)
            have h4 : B64 * B64 < (l + B64 * 1 + 1) * B64 := Nat.mul_lt_mul_of_pos_right (by omega) B64_pos
            omega
          have HC := Lib.hid hc
          clear hc
          go_wp2_with fail
          try rw [Exit.noGoto_ret]
          go_ret
          exact HFN.out HC.out
end Go.Proofs.Ytpephogadljncaa

/-
  The contracts of div's lessTimes, addBack and takeOff: a window of a row of digits is changed in place.
-/
namespace Go.Proofs.Ytpephogadljncaa
set_option maxRecDepth 100000
set_option maxHeartbeats 2000000
open Go.RowKit

theorem sub64_run0 (x y : Nat) (w : World) :
    (callFunc 80 #[.int .u64 (x : Int), .int .u64 (y : Int), .int .u64 0]).run Try.prog w = .ok (.value (.tuple #[.int .u64 (subLo x y 0 : Int), .int .u64 (subHi x y 0 : Int)])) w := sub64_run x y 0 (by omega) w

/-- A slice of digits in another block than the one that is written is kept. -/
theorem Lim.apart {B : Nat} {w w' : World} {b o n c g : Nat} {l : List Nat} (h : Lim B w (some ⟨b, o, none⟩) n c l) (hg : w.grownBy w' (some g)) (hne : b ≠ g) (hB : B ≤ w.heap.size) : Lim B w' (some ⟨b, o, none⟩) n c l :=
  ⟨h.1, h.2.1, h.2.2.1, fun hn => by
    obtain ⟨b', o', e, hlt, hc⟩ := h.2.2.2 hn
    injection e with e
    injection e with e1 e2
    subst e1; subst e2
    exact ⟨b, o, rfl, hlt, fun j hj => (World.cell?_of_block (a := ⟨b, o + j, none⟩) (hg.block b (by omega) (by simp; omega))).trans (hc j hj)⟩⟩

theorem win_get {pre Q post : List Nat} {i k : Nat} (hi : pre.length = i) (hk : k < Q.length) : ((pre ++ (Q ++ post)).map encD)[i + k]? = some (.int .u64 ((Q[k]?.getD 0 : Nat) : Int)) := by
  rw [List.getElem?_map, List.getElem?_append_right (by omega), hi, Nat.add_sub_cancel_left, List.getElem?_append_left hk, List.getElem?_eq_getElem hk]
  rfl
theorem win_set {pre Q post : List Nat} {i k : Nat} (d : Nat) (hi : pre.length = i) (hk : k < Q.length) : ((pre ++ (Q ++ post)).map encD).set (i + k) (.int .u64 (d : Int)) = (pre ++ (Q.set k d ++ post)).map encD := by
  rw [show (Value.int IntKind.u64 (d : Int)) = encD d from rfl, ← List.map_set, List.set_append_right _ _ (by omega), hi, Nat.add_sub_cancel_left, List.set_append_left _ _ hk]

theorem wrap_owed {x y q c : Nat} (hx : x < B64) (hy : y < B64) (hc : c < B64) :
    IntKind.u64.wrap (IntKind.u64.wrap ((mulHi y x : Int) + (sumHi (mulLo y x) c 0 : Int)) + (subHi q (sumLo (mulLo y x) c 0) 0 : Int)) = (owed x y q c : Int) := by
  obtain ⟨h1, h2⟩ := owed_lt (q := q) hx hy hc
  unfold owed at h2 ⊢
  generalize mulHi y x = a at *
  generalize sumHi (mulLo y x) c 0 = b at *
  generalize subHi q (sumLo (mulLo y x) c 0) 0 = d at *
  simp only [IntKind.wrap_u64]
  unfold B64 at h1 h2
  omega

theorem lessD_eq (x y q c : Nat) : subLo q (sumLo (mulLo y x) c 0) 0 = lessD x y q c := rfl
theorem times_none {a p M h : Nat} (e : a = p + M * h) (hz : h = 0) : a = p := by
  subst hz
  rw [e, Nat.mul_zero, Nat.add_zero]
theorem times_once {a p M h : Nat} (e : a = p + M * h) (hz : h = 1) : a = p + M := by
  subst hz
  rw [e, Nat.mul_one]
/-- A row of the caller's, with a window. -/
def Win (w : World) (base g N cap : Nat) (pre Q post : List Nat) : Prop := w.ownsRow base 43 1 (.slice (some ⟨g, 0, none⟩) N cap) N ((pre ++ (Q ++ post)).map encD)

theorem less_N (w : World) (base g N cap i cr b o cb m x : Nat) (pre P post Dl : List Nat) (hW : Win w base g N cap pre P post) (hi : pre.length = i) (hP : Dig P) (lP : P.length = m + 1) (hD : Lim w.heap.size w (some ⟨b, o, none⟩) m cb Dl) (hne : b ≠ g) (hm : m ≤ 1000000) (hx : x < B64) (hin : i ≤ 1000000) :
    Calls Try.prog 90 #[.slice (some ⟨g, i, none⟩) (m + 1) cr, .slice (some ⟨b, o, none⟩) m cb, .int .u64 (x : Int)] w fun e w' => ∃ Q, Dig Q ∧ Q.length = m + 1 ∧ Win w' base g N cap pre Q post ∧ w.grownBy w' (some g) ∧
      ((e = .returned (.bool false) ∧ val Q + x * val Dl = val P) ∨ (e = .returned (.bool true) ∧ val Q + x * val Dl = val P + B64 ^ (m + 1))) := by
  have hbg := World.ownsRow.lt hW g rfl
  have HI := Lib.hid hi
  have HP := Lib.hid lP
  have HD := Lib.hid hD.1
  clear hi lP
  go_enter Try.func90, Try.ntmps90
  go_wp2
  go_loopw [7, 16] (fun ov iv wr => ∃ (k : Nat) (Q : List Nat) (c : Nat), k ≤ m ∧ iv = .int .i64 (k : Int) ∧ ov = .int .u64 (c : Int) ∧ LessAt P Q k x Dl c ∧ Win wr base g N cap pre Q post ∧ w.grownBy wr (some g)) (fun _ iv _ => m - (intOf iv).toNat)
  case atStart => exact ⟨0, P, 0, Nat.zero_le _, rfl, rfl, LessAt.start hP x Dl, hW, World.grownBy.refl w _⟩
  case round =>
    obtain ⟨k, Q, c, hk, rfl, rfl, hT, hown, hgr⟩ := hrel
    have hQl : Q.length = m + 1 := by rw [hT.2.1]; exact HP.out
    have h2 : wr.cell? ⟨g, i + k, none⟩ = some (.int .u64 ((Q[k]?.getD 0 : Nat) : Int)) := by
      have hlN : (pre ++ (Q ++ post)).length = N := by have := hown.1; simpa using this
      rw [World.ownsRow.cellAt hown (i + k) (by have := HI.out; simp at hlN; omega), win_get HI.out (by omega)]
    have h3 := World.ownsRow.frozenAt hown (i + k)
    have hql : Q[k]?.getD 0 < B64 := hT.1.get _
    have hcc : c < B64 := hT.2.2.1
    have hs0 := sub64_run0
    have ha0 := add64_run0
    have HT := Lib.hid hT
    have HO := Lib.hid hown
    have HG := Lib.hid hgr
    have HQ := Lib.hid hQl
    clear hT hown hgr hQl
    by_cases hlt : k < m
    · obtain ⟨b', o', e, hblt, hcell⟩ := (hD.apart HG.out hne (Nat.le_refl _)).2.2.2 (by omega)
      injection e with e
      injection e with e1 e2
      subst e1; subst e2
      have h1 := hcell k hlt
      have hyl : Dl[k]?.getD 0 < B64 := hD.2.2.1.get k
      clear hcell
      go_wp2_with (go_at_call 65; refine (mul64_any _ _ _ hyl hx).mono ?_; rintro e w' ⟨rfl, rfl⟩)
      have hst := World.ownsRow.stored HO.out (i + k) (.int .u64 (subLo (Q[k]?.getD 0) (sumLo (mulLo (Dl[k]?.getD 0) x) c 0) 0 : Int))
      refine ⟨⟨k + 1, Q.set k (lessD x (Dl[k]?.getD 0) (Q[k]?.getD 0) c), owed x (Dl[k]?.getD 0) (Q[k]?.getD 0) c, by omega, by go_num, ?_, HT.out.step hx hD.2.2.1 (by have := HP.out; omega), ?_, HG.out.trans hst.2⟩, by simp [intOf]; omega⟩
      · rw [wrap_owed hx hyl hcc]
      · have h5 := hst.1
        rw [win_set _ HI.out (by have := HQ.out; omega), lessD_eq] at h5
        rw [lessD_eq]
        exact h5
    · obtain rfl : k = m := by omega
      have hT := HT.out
      rw [HD.out] at hT
      obtain ⟨q1, q2, q3⟩ := hT.done (by rw [HP.out, HD.out])
      rw [← HD.out] at q1 q2 q3
      have HQ1 := Lib.hid q1
      have HQ2 := Lib.hid q2
      have HQ3 := Lib.hid q3
      clear hT q1 q2 q3
      have hst := World.ownsRow.stored HO.out (i + k) (.int .u64 (subLo (Q[k]?.getD 0) c 0 : Int))
      have hW1 := hst.1
      rw [win_set _ HI.out (by have := HQ.out; omega)] at hW1
      have HW1 := Lib.hid hW1
      have HW2 := Lib.hid (HG.out.trans hst.2)
      clear hst hW1
      have hsub := subHi_le (Q[k]?.getD 0) c 0
      by_cases hz : subHi (Q[k]?.getD 0) c 0 = 0
      · have hzb : (((subHi (Q[k]?.getD 0) c 0 : Nat) : Int) != 0) = false := by simp [hz]
        have HZ := Lib.hid hz
        clear hz
        go_wp2
        go_ret
        exact ⟨_, HQ1.out, HQ2.out, HW1.out, HW2.out, .inl ⟨rfl, times_none HQ3.out HZ.out⟩⟩
      · have hzb : (((subHi (Q[k]?.getD 0) c 0 : Nat) : Int) != 0) = true := by simp [hz]
        have HZ := Lib.hid hz
        clear hz
        go_wp2
        go_ret
        exact ⟨_, HQ1.out, HQ2.out, HW1.out, HW2.out, .inr ⟨rfl, times_once HQ3.out (by have := HZ.out; omega)⟩⟩

theorem wrap_sum (x c : Nat) : IntKind.u64.wrap ((x : Int) + (c : Int)) = ((sumLo x c 0 : Nat) : Int) := by
  rw [IntKind.wrap_u64, show (18446744073709551616 : Int) = (B64 : Int) from rfl]
  unfold sumLo
  simp

theorem back_N (w : World) (base g N cap i cr b o cb m : Nat) (pre P post Dl : List Nat) (hW : Win w base g N cap pre P post) (hi : pre.length = i) (hP : Dig P) (lP : P.length = m + 1) (hD : Lim w.heap.size w (some ⟨b, o, none⟩) m cb Dl) (hne : b ≠ g) (hm : m ≤ 1000000) (hin : i ≤ 1000000) :
    Calls Try.prog 91 #[.slice (some ⟨g, i, none⟩) (m + 1) cr, .slice (some ⟨b, o, none⟩) m cb] w fun e w' => e = .returned (.tuple #[]) ∧ ∃ Q v, Dig Q ∧ Q.length = m + 1 ∧ Win w' base g N cap pre Q post ∧ w.grownBy w' (some g) ∧ val Q + B64 ^ (m + 1) * v = val P + val Dl := by
  have hbg := World.ownsRow.lt hW g rfl
  have HI := Lib.hid hi
  have HP := Lib.hid lP
  have HD := Lib.hid hD.1
  clear hi lP
  go_enter Try.func91, Try.ntmps91
  go_wp2
  go_loopw [4, 9] (fun ov iv wr => ∃ (k : Nat) (Q : List Nat) (c : Nat), k ≤ m ∧ iv = .int .i64 (k : Int) ∧ ov = .int .u64 (c : Int) ∧ BackAt P Q k Dl c ∧ Win wr base g N cap pre Q post ∧ w.grownBy wr (some g)) (fun _ iv _ => m - (intOf iv).toNat)
  case atStart => exact ⟨0, P, 0, Nat.zero_le _, rfl, rfl, BackAt.start hP Dl, hW, World.grownBy.refl w _⟩
  case round =>
    obtain ⟨k, Q, c, hk, rfl, rfl, hT, hown, hgr⟩ := hrel
    have hQl : Q.length = m + 1 := by rw [hT.2.1]; exact HP.out
    have h2 : wr.cell? ⟨g, i + k, none⟩ = some (.int .u64 ((Q[k]?.getD 0 : Nat) : Int)) := by
      have hlN : (pre ++ (Q ++ post)).length = N := by have := hown.1; simpa using this
      rw [World.ownsRow.cellAt hown (i + k) (by have := HI.out; simp at hlN; omega), win_get HI.out (by omega)]
    have h3 := World.ownsRow.frozenAt hown (i + k)
    have hcc : c ≤ 1 := hT.2.2.1
    have HT := Lib.hid hT
    have HO := Lib.hid hown
    have HG := Lib.hid hgr
    have HQ := Lib.hid hQl
    clear hT hown hgr hQl
    by_cases hlt : k < m
    · obtain ⟨b', o', e, hblt, hcell⟩ := (hD.apart HG.out hne (Nat.le_refl _)).2.2.2 (by omega)
      injection e with e
      injection e with e1 e2
      subst e1; subst e2
      have h1 := hcell k hlt
      have ha0 := add64_run (Q[k]?.getD 0) (Dl[k]?.getD 0) c hcc
      clear hcell
      go_wp2
      have hst := World.ownsRow.stored HO.out (i + k) (.int .u64 (sumLo (Q[k]?.getD 0) (Dl[k]?.getD 0) c : Int))
      refine ⟨⟨k + 1, Q.set k (sumLo (Q[k]?.getD 0) (Dl[k]?.getD 0) c), sumHi (Q[k]?.getD 0) (Dl[k]?.getD 0) c, by omega, by go_num, rfl, HT.out.step hD.2.2.1 (by have := HP.out; omega), ?_, HG.out.trans hst.2⟩, by simp [intOf]; omega⟩
      have h5 := hst.1
      rw [win_set _ HI.out (by have := HQ.out; omega)] at h5
      exact h5
    · obtain rfl : k = m := by omega
      have hT := HT.out
      rw [HD.out] at hT
      obtain ⟨q1, q2, v, q3⟩ := hT.done (by rw [HP.out, HD.out])
      rw [← HD.out] at q1 q2 q3
      have HQ1 := Lib.hid q1
      have HQ2 := Lib.hid q2
      have HQ3 := Lib.hid q3
      clear hT q1 q2 q3
      have hst := World.ownsRow.stored HO.out (i + k) (.int .u64 (sumLo (Q[k]?.getD 0) c 0 : Int))
      have hW1 := hst.1
      rw [win_set _ HI.out (by have := HQ.out; omega)] at hW1
      have HW1 := Lib.hid hW1
      have HW2 := Lib.hid (HG.out.trans hst.2)
      have hws := wrap_sum (Q[k]?.getD 0) c
      clear hst hW1
      go_wp2
      go_end0
      exact ⟨rfl, _, v, HQ1.out, HQ2.out, HW1.out, HW2.out, HQ3.out⟩

end Go.Proofs.Ytpephogadljncaa

/-
  The contract of div's takeOff, and the arithmetic of a round of the long division.
-/
namespace Go.Proofs.Ytpephogadljncaa
set_option maxRecDepth 100000
open Go.RowKit

theorem Win.lim {w : World} {base g N cap i cr n : Nat} {pre P post : List Nat} (h : Win w base g N cap pre P post) (hi : pre.length = i) (hP : Dig P) (lP : P.length = n) (hcr : n ≤ cr) : Lim w.heap.size w (some ⟨g, i, none⟩) n cr P := by
  refine ⟨lP.symm, hcr, hP, fun _ => ⟨g, i, rfl, (World.ownsRow.lt h g rfl).2, fun j hj => ?_⟩⟩
  have hlN : (pre ++ (P ++ post)).length = N := by have := h.1; simpa using this
  rw [World.ownsRow.cellAt h (i + j) (by simp at hlN; omega), win_get hi (by omega)]

theorem grown_of_below {w w' : World} {row : Option Nat} (h : Below w.heap.size w w') : w.grownBy w' row := ⟨h.os, h.tape, h.output, h.size, fun k hk _ => h.block k hk⟩

theorem pred_wrap {t : Nat} (h0 : t ≠ 0) (ht : t < B64) : IntKind.u64.wrap ((t : Int) - 1) = ((t - 1 : Nat) : Int) := by
  rw [IntKind.wrap_u64]
  unfold B64 at ht
  omega

theorem ret_u64 {a b : Int} (h : a = b) : Ending.returned (.int .u64 a) = .returned (.int .u64 b) := by rw [h]

set_option maxHeartbeats 2000000 in
theorem take_N (w : World) (base g N cap i cr b o cb k : Nat) (pre P post Dl : List Nat) (hW : Win w base g N cap pre P post) (hi : pre.length = i) (hP : Dig P) (lP : P.length = k + 2) (hcr : k + 2 ≤ cr) (hD : Lim w.heap.size w (some ⟨b, o, none⟩) (k + 1) cb Dl) (hne : b ≠ g) (hk : k ≤ 100000) (hin : i ≤ 1000000)
    (top : B64 ≤ 2 * Dl[k]?.getD 0) (hlt : val P < B64 * val Dl) :
    Calls Try.prog 76 #[.slice (some ⟨g, i, none⟩) (k + 2) cr, .slice (some ⟨b, o, none⟩) (k + 1) cb] w fun e w' => ∃ Q, e = .returned (.int .u64 ((val P / val Dl : Nat) : Int)) ∧ Dig Q ∧ Q.length = k + 2 ∧ val Q = val P % val Dl ∧ Win w' base g N cap pre Q post ∧ w.grownBy w' (some g) := by
  have hR := hW.lim hi hP lP hcr
  have hDlt : val Dl < B64 ^ (k + 1) := by rw [hD.1]; exact val_lt hD.2.2.1
  have hDM : val Dl ≤ B64 ^ (k + 2) := Nat.le_trans (Nat.le_of_lt hDlt) (Nat.pow_le_pow_right B64_pos (by omega))
  have HDM := Lib.hid hDM
  have HI := Lib.hid hi
  have HL := Lib.hid lP
  clear hDlt hDM hi lP
  go_enter Try.func76, Try.ntmps76
  go_wp2_with fail
  refine (guess_N w g i cr b o cb k P Dl hR hD (by omega) top hlt).mono ?_
  rintro e w1 ⟨t, rfl, hG, hB⟩
  have hW1 : Win w1 base g N cap pre P post := ownsRow_below hW hB
  have hD1 := hD.on hB
  have ht := hG.2.2
  have HG := Lib.hid hG
  have HB := Lib.hid (grown_of_below (row := some g) hB)
  clear hW hD hR hG hB
  go_wp2_with fail
  refine (less_N w1 base g N cap i cr b o cb (k + 1) t pre P post Dl hW1 HI.out hP HL.out hD1 hne (by omega) ht hin).mono ?_
  rintro e w2 ⟨Q, hQd, hQl, hW2, hg2, hcase⟩
  have HQL := Lib.hid hQl
  have HG2 := Lib.hid hg2
  clear hQl
  rcases hcase with ⟨rfl, hv⟩ | ⟨rfl, hv⟩
  · obtain ⟨e1, e2⟩ := good_zero HG.out hv
    have E1 := Lib.hid e1
    have E2 := Lib.hid e2
    clear hv e1 e2 hg2
    go_wp2_with fail
    go_ret
    exact ⟨Q, by rw [E1.out]; rfl, hQd, HQL.out, E2.out.symm, hW2, HB.out.trans HG2.out⟩
  · have hD2 := (hD1.apart hg2 hne (Nat.le_refl _)).more hg2.size
    have HV := Lib.hid hv
    clear hv hg2
    go_wp2_with fail
    refine (back_N w2 base g N cap i cr b o cb (k + 1) pre Q post Dl hW2 HI.out hQd HQL.out hD2 hne (by omega) hin).mono ?_
    rintro e w3 ⟨rfl, Q2, v, hQ2, hQ2l, hW3, hg3, hv3⟩
    have hvlt : val Q < B64 ^ (k + 2) := by have := val_lt hQd; rw [HQL.out] at this; exact this
    have hv2lt : val Q2 < B64 ^ (k + 2) := by have := val_lt hQ2; rw [hQ2l] at this; exact this
    obtain ⟨t0, e1, e2⟩ := good_one HG.out HV.out hvlt HDM.out hv3 hv2lt
    have E1 := Lib.hid e1
    have E2 := Lib.hid e2
    have HQ2 := Lib.hid hQ2l
    have HT0 := Lib.hid t0
    have HG3 := Lib.hid hg3
    clear e1 e2 hv3 hvlt hv2lt t0 hQ2l hg3 HV
    go_wp2_with fail
    go_ret
    refine ⟨Q2, ?_, hQ2, HQ2.out, E2.out.symm, hW3, (HB.out.trans HG2.out).trans HG3.out⟩
    rw [E1.out]
    exact ret_u64 (pred_wrap HT0.out ht)

/-- A round of the division: what the window holds, and what becomes of the row. -/
theorem long_step {Rl : List Nat} {t k D : Nat} (hR : Dig Rl) (hD : D < B64 ^ (k + 1)) (hD0 : 0 < D) (hl : t + (k + 2) ≤ Rl.length) (hlt : val Rl < D * B64 ^ (t + 1)) :
    val ((Rl.drop t).take (k + 2)) < B64 * D ∧ ∀ Q : List Nat, Q.length = k + 2 → val Q = val ((Rl.drop t).take (k + 2)) % D →
      val (Rl.take t ++ (Q ++ Rl.drop (t + (k + 2)))) + D * (B64 ^ t * (val ((Rl.drop t).take (k + 2)) / D)) = val Rl ∧ val (Rl.take t ++ (Q ++ Rl.drop (t + (k + 2)))) < D * B64 ^ t := by
  have e0 : Rl = Rl.take t ++ ((Rl.drop t).take (k + 2) ++ Rl.drop (t + (k + 2))) := by
    rw [← List.drop_drop, List.take_append_drop, List.take_append_drop]
  have lt : (Rl.take t).length = t := by rw [List.length_take, Nat.min_eq_left (by omega)]
  have lP : ((Rl.drop t).take (k + 2)).length = k + 2 := by rw [List.length_take, List.length_drop, Nat.min_eq_left (by omega)]
  have hpre : val (Rl.take t) < B64 ^ t := by have := val_lt (hR.take t); rw [lt] at this; exact this
  have ev : val Rl = val (Rl.take t) + B64 ^ t * (val ((Rl.drop t).take (k + 2)) + B64 ^ (k + 2) * val (Rl.drop (t + (k + 2)))) := by
    have h := congrArg val e0
    rw [val_append, val_append, lt, lP] at h
    exact h
  have hBt : 0 < B64 ^ t := Nat.pow_pos B64_pos
  generalize hp : val (Rl.take t) = pre at *
  generalize hP : val ((Rl.drop t).take (k + 2)) = P at *
  generalize hpo : val (Rl.drop (t + (k + 2))) = po at *
  generalize val Rl = X at *
  have h1 : P + B64 ^ (k + 2) * po < D * B64 := by
    rcases Nat.lt_or_ge (P + B64 ^ (k + 2) * po) (D * B64) with h | h
    · exact h
    · have h2 : B64 ^ t * (D * B64) ≤ B64 ^ t * (P + B64 ^ (k + 2) * po) := Nat.mul_le_mul_left _ h
      have h3 : D * B64 ^ (t + 1) = B64 ^ t * (D * B64) := by rw [Nat.pow_succ]; ac_rfl
      omega
  have h2 : D * B64 ≤ B64 ^ (k + 2) := by
    rw [Nat.pow_succ B64 (k + 1)]
    exact Nat.mul_le_mul_right _ (Nat.le_of_lt hD)
  have hpo0 : po = 0 := by
    rcases Nat.eq_zero_or_pos po with h | h
    · exact h
    · have h3 : B64 ^ (k + 2) * 1 ≤ B64 ^ (k + 2) * po := Nat.mul_le_mul_left _ h
      rw [Nat.mul_one] at h3
      omega
  subst hpo0
  rw [Nat.mul_zero, Nat.add_zero] at h1 ev
  refine ⟨by rw [Nat.mul_comm]; exact h1, fun Q hQ hv => ?_⟩
  rw [val_append, val_append, lt, hp, hQ, hpo, hv, Nat.mul_zero, Nat.add_zero]
  have h4 := Nat.mod_add_div P D
  have h5 := Nat.mod_lt P hD0
  generalize P % D = m at *
  generalize P / D = q at *
  have h6 : D * (B64 ^ t * q) = B64 ^ t * (D * q) := by ac_rfl
  have h7 : B64 ^ t * (m + D * q) = B64 ^ t * m + B64 ^ t * (D * q) := Nat.mul_add ..
  rw [h4] at h7
  refine ⟨by rw [h6]; omega, ?_⟩
  have h8 : B64 ^ t * (m + 1) ≤ B64 ^ t * D := Nat.mul_le_mul_left _ h5
  rw [Nat.mul_add, Nat.mul_one] at h8
  rw [Nat.mul_comm D]
  omega

/-- The divisor's top bit is set by the shift. -/
theorem norm_top {y k s : Nat} (hl : (limbs y).length = k + 1) (hs : s = 64 - blen ((limbs y)[k]?.getD 0)) : s < 64 ∧ y * 2 ^ s < B64 ^ (k + 1) ∧ (limbs (y * 2 ^ s)).length = k + 1 ∧ B64 ≤ 2 * (limbs (y * 2 ^ s))[k]?.getD 0 := by
  have hd := limbs_dig y
  have hv : val ((limbs y).take k) + B64 ^ k * (limbs y)[k]?.getD 0 = y := by rw [← val_take_succ, List.take_of_length_le (by omega), val_limbs]
  have hlo : val ((limbs y).take k) < B64 ^ k := by have := val_lt (hd.take k); rw [List.length_take, Nat.min_eq_left (by omega)] at this; exact this
  have htl : (limbs y)[k]?.getD 0 < B64 := hd.get k
  have ht0 : (limbs y)[k]?.getD 0 ≠ 0 := fun h => by
    have hge := limbs_ge (n := y) (by omega)
    rw [hl, Nat.add_sub_cancel] at hge
    rw [h, Nat.mul_zero, Nat.add_zero] at hv
    omega
  generalize (limbs y)[k]?.getD 0 = T at *
  have hb1 := blen_pos ht0
  have hb2 : blen T ≤ 64 := blen_le (by rw [← B64_two]; exact htl)
  have hs64 : s < 64 := by omega
  have h1 : T + 1 ≤ 2 ^ blen T := lt_blen T
  have h2 := blen_ge ht0
  have e1 : 2 ^ blen T * 2 ^ s = B64 := by rw [B64_two, ← Nat.pow_add]; congr 1; omega
  have e2 : 2 * (2 ^ (blen T - 1) * 2 ^ s) = B64 := by
    rw [← e1, ← Nat.mul_assoc]
    congr 1
    rw [Nat.mul_comm, ← Nat.pow_succ]
    congr 1
    omega
  have h3 : (T + 1) * 2 ^ s ≤ B64 := by rw [← e1]; exact Nat.mul_le_mul_right _ h1
  have h4 : B64 ≤ 2 * (T * 2 ^ s) := by rw [← e2]; exact Nat.mul_le_mul_left _ (Nat.mul_le_mul_right _ h2)
  have hp : 0 < 2 ^ s := Nat.pow_pos (by omega)
  have h5 : y * 2 ^ s < B64 ^ (k + 1) := by
    have h6 : y < B64 ^ k * (T + 1) := by rw [Nat.mul_add, Nat.mul_one]; omega
    have h7 : y * 2 ^ s < B64 ^ k * (T + 1) * 2 ^ s := Nat.mul_lt_mul_of_pos_right h6 hp
    have h8 : B64 ^ k * ((T + 1) * 2 ^ s) ≤ B64 ^ k * B64 := Nat.mul_le_mul_left _ h3
    rw [Nat.pow_succ]
    rw [Nat.mul_assoc] at h7
    omega
  have h6 : B64 ^ k * (T * 2 ^ s) ≤ y * 2 ^ s := by
    rw [← Nat.mul_assoc]
    exact Nat.mul_le_mul_right _ (by omega)
  have hBk : 0 < B64 ^ k := Nat.pow_pos B64_pos
  have hlen : (limbs (y * 2 ^ s)).length = k + 1 := by
    have a := limbs_length_le h5
    rcases Nat.lt_or_ge (limbs (y * 2 ^ s)).length (k + 1) with b | b
    · have c := lt_of_limbs_length (n := y * 2 ^ s) (k := k) (by omega)
      have d : B64 ^ k * 1 ≤ B64 ^ k * (T * 2 ^ s) := Nat.mul_le_mul_left _ (by have := B64_pos; omega)
      omega
    · omega
  refine ⟨hs64, h5, hlen, ?_⟩
  rw [limbs_get]
  unfold dig
  have h7 : y * 2 ^ s / B64 ^ k < B64 := by rw [Nat.div_lt_iff_lt_mul hBk, Nat.mul_comm B64, ← Nat.pow_succ]; exact h5
  rw [Nat.mod_eq_of_lt h7]
  have h8 : T * 2 ^ s ≤ y * 2 ^ s / B64 ^ k := by rw [Nat.le_div_iff_mul_le hBk, Nat.mul_comm _ (B64 ^ k)]; exact h6
  omega

/-- The end of the division. -/
theorem long_end {x y s R q : Nat} (hy : 0 < y) (hR : R < y * 2 ^ s) (e : R + y * 2 ^ s * q = x * 2 ^ s) : q = x / y ∧ R / 2 ^ s = x % y := by
  have hp : 0 < 2 ^ s := Nat.pow_pos (by omega)
  have hD : 0 < y * 2 ^ s := Nat.mul_pos hy hp
  have h1 : x * 2 ^ s / (y * 2 ^ s) = q := by rw [← e, Nat.add_mul_div_left _ _ hD, Nat.div_eq_of_lt hR, Nat.zero_add]
  have h2 : x * 2 ^ s % (y * 2 ^ s) = R := by rw [← e, Nat.add_mul_mod_self_left, Nat.mod_eq_of_lt hR]
  rw [Nat.mul_div_mul_right _ _ hp] at h1
  rw [Nat.mul_mod_mul_right] at h2
  exact ⟨h1.symm, by rw [← h2, Nat.mul_div_cancel _ hp]⟩

theorem long_start {x y k n s : Nat} (hn : (limbs x).length = n) (hl : (limbs y).length = k + 1) (hkn : k + 1 ≤ n) : x * 2 ^ s < y * 2 ^ s * B64 ^ (n - (k + 1) + 1) := by
  have h1 : x < B64 ^ n := lt_of_limbs_length (by omega)
  have h2 := limbs_ge (n := y) (by omega)
  rw [hl, Nat.add_sub_cancel] at h2
  have h3 : B64 ^ k * B64 ^ (n - (k + 1) + 1) ≤ y * B64 ^ (n - (k + 1) + 1) := Nat.mul_le_mul_right _ h2
  rw [← Nat.pow_add, show k + (n - (k + 1) + 1) = n by omega] at h3
  have h4 : y * 2 ^ s * B64 ^ (n - (k + 1) + 1) = y * B64 ^ (n - (k + 1) + 1) * 2 ^ s := by ac_rfl
  rw [h4]
  exact Nat.mul_lt_mul_of_pos_right (by omega) (Nat.pow_pos (by omega))

end Go.Proofs.Ytpephogadljncaa

/-
  The contracts of package div in one style, over numbers.
-/
namespace Go.Proofs.Ytpephogadljncaa
set_option maxRecDepth 100000
set_option maxHeartbeats 4000000
open Go.RowKit

theorem trim_N {w : World} {A : Option Addr} {n c x : Nat} (ha : Num w A n c x) (hx : (limbs x).length ≤ 1000) : Calls Try.prog 72 #[.slice A n c] w fun e w' => e = .returned (.slice A n c) ∧ w = w' := by
  have hl := ha.len
  refine (dtrim_lim _ _ _ _ _ _ ha (by omega)).mono ?_
  rintro e w' ⟨k, rfl, hk, rfl⟩
  have hk1 := hk.1
  rw [val_limbs] at hk1
  rw [hk1, ← hl]
  exact ⟨rfl, rfl⟩

theorem ddiv_zero {w : World} {A : Option Addr} {n c x : Nat} (B : Option Addr) (d : Nat) (ha : Num w A n c x) (hx : (limbs x).length ≤ 300) : Calls Try.prog 56 #[.slice A n c, .slice B 0 d] w (GotV w (.tuple #[.slice none 0 0, .slice none 0 0, .int .i64 4])) := by
  have hb := num_empty w B d
  go_enter Try.func56, Try.ntmps56
  go_wp2_with fail
  refine (trim_N ha (by omega)).mono ?_
  rintro e w' ⟨rfl, rfl⟩
  go_wp2_with fail
  refine (trim_N hb (by rw [limbs_zero]; simp)).mono ?_
  rintro e w' ⟨rfl, rfl⟩
  go_wp2_with fail
  go_ret3
  exact ⟨rfl, Below.refl _ _⟩

theorem ddiv_small {w : World} {A B : Option Addr} {n c m d x y : Nat} (ha : Num w A n c x) (hb : Num w B m d y) (hx : (limbs x).length ≤ 300) (hy : (limbs y).length ≤ 300) (hlt : x < y) : Calls Try.prog 56 #[.slice A n c, .slice B m d] w (GotD w 0 x) := by
  have hm0 : ((m : Int) == 0) = false := by have := hb.len; have := limbs_ne_nil (n := y) (by omega); simp; omega
  have hc := cmpN_lt hlt
  have hcm : cmpN x y < 0 := by omega
  have hn : n ≤ 300 := by rw [ha.len]; exact hx
  clear hc
  go_enter Try.func56, Try.ntmps56
  go_wp2_with fail
  refine (trim_N ha (by omega)).mono ?_
  rintro e w' ⟨rfl, rfl⟩
  go_wp2_with fail
  refine (trim_N hb (by omega)).mono ?_
  rintro e w' ⟨rfl, rfl⟩
  go_wp2_with fail
  refine (cmp_N ha hb (by omega) (by omega)).mono ?_
  rintro e w1 ⟨rfl, b1⟩
  go_wp2_with fail
  refine (clone_F (ha.on b1) (by omega)).mono ?_
  rintro e w2 ⟨A2, n2, c2, rfl, h2, b2, f2⟩
  go_wp2_with fail
  go_ret3
  exact ⟨_, _, _, _, _, _, rfl, num_empty _ _ _, h2, b1.trans (b2.mono b1.size)⟩

/-- A quotient in memory of the call's own, and what is left. -/
def GotDF (w : World) (q r : Nat) (e : Ending) (w' : World) : Prop := ∃ A n c B m d, e = .returned (.tuple #[.slice A n c, .slice B m d, .int .i64 0]) ∧ Num w' A n c q ∧ Num w' B m d r ∧ Below w.heap.size w w' ∧ Fresh w.heap.size A n
theorem ddiv_main_F {w : World} {A B : Option Addr} {n c k d x y : Nat} (ha : Num w A n c x) (hb : Num w B (k + 1) d y) (hx : (limbs x).length ≤ 300) (hy : (limbs y).length ≤ 300) (hle : y ≤ x) : Calls Try.prog 56 #[.slice A n c, .slice B (k + 1) d] w (GotDF w (x / y) (x % y)) := by
  obtain ⟨i0, hi, hz0, hz1, hz2⟩ := info_parts info24
  have hcm : ¬ cmpN x y < 0 := by
    rcases Nat.lt_or_ge y x with h | h
    · rw [cmpN_gt h]; omega
    · rw [cmpN_zero.2 (by omega)]; omega
  have hn : n ≤ 300 := by rw [ha.len]; exact hx
  have hkn : k + 1 ≤ n := by rw [ha.len, hb.len]; exact limbs_length_mono hle
  have HN := Lib.hid ha.len
  have HK := Lib.hid hb.len
  obtain ⟨s, hs⟩ : ∃ s, s = 64 - blen ((limbs y)[k]?.getD 0) := ⟨_, rfl⟩
  obtain ⟨hs64, hDlt, hDlen, hDtop⟩ := norm_top HK.out.symm hs
  have htl : (limbs y)[k]?.getD 0 < B64 := (limbs_dig y).get k
  have hlead : ∀ W, Calls Try.prog 74 #[.int .u64 (((limbs y)[k]?.getD 0 : Nat) : Int)] W fun e w' => e = .returned (.int .i64 (s : Int)) ∧ W = w' := fun W => by rw [hs]; exact lead_any _ W htl
  have HLEAD := Lib.hid hlead
  have HDLT := Lib.hid hDlt
  have HDLEN := Lib.hid hDlen
  have HDTOP := Lib.hid hDtop
  have hy0 : 0 < y := by
    rcases Nat.eq_zero_or_pos y with h | h
    · have := HK.out; rw [h, limbs_zero] at this; simp at this
    · exact h
  have HST := Lib.hid (long_start (s := s) HN.out.symm HK.out.symm hkn)
  clear hs hDlt hDlen hDtop hlead
  go_enter Try.func56, Try.ntmps56
  go_wp2_with fail
  refine (trim_N ha (by omega)).mono ?_
  rintro e w' ⟨rfl, rfl⟩
  go_wp2_with fail
  refine (trim_N hb (by omega)).mono ?_
  rintro e w' ⟨rfl, rfl⟩
  go_wp2_with fail
  refine (cmp_N ha hb (by omega) (by omega)).mono ?_
  rintro e w1 ⟨rfl, b1⟩
  have ha1 := ha.on b1
  have hb1 := hb.on b1
  obtain ⟨bb, bo, rfl, hbb, hcell⟩ := hb1.2.2.2 (by omega)
  have h1 := hcell k (by omega)
  clear hcell
  go_wp2_with fail
  refine (HLEAD.out _).mono ?_
  rintro e w' ⟨rfl, rfl⟩
  go_wp2_with fail
  refine (raised_lim _ _ _ s _ _ ha1 (by omega) hs64).mono ?_
  rintro e w2 ⟨g1, cap1, R1, rfl, hown1, hd1, hv1, b2⟩
  have hb2 := hb1.on b2
  go_wp2_with fail
  refine (raised_lim _ _ _ s _ _ hb2 (by omega) hs64).mono ?_
  rintro e w3 ⟨g2, cap2, R2, rfl, hown2, hd2, hv2, b3⟩
  go_wp2_with fail
  refine (dtrim_lim _ _ _ _ _ _ (Lim.of_own hown2 hd2) (by omega)).mono ?_
  rintro e w' ⟨j, rfl, hj, rfl⟩
  have hjk : j = k + 1 := by rw [hj.1, hv2, val_limbs]; exact HDLEN.out
  subst hjk
  rw [hv2, val_limbs] at hj
  rw [val_limbs] at hv1
  have l1 := hown1.lt g1 rfl
  have l2 := hown2.lt g2 rfl
  have hownR := ownsRow_below hown1 b3
  have hB3 : Below w.heap.size w w3 := (b1.trans (b2.mono b1.size)).trans (b3.mono (by have := b1.size; have := b2.size; omega))
  have hs1 : w.heap.size ≤ w1.heap.size := b1.size
  obtain ⟨t1, ht1⟩ : ∃ t, w1.heap.size = t := ⟨_, rfl⟩
  obtain ⟨g3, hg3⟩ : ∃ t, w3.heap.size = t := ⟨_, rfl⟩
  rw [ht1] at hownR l1 hs1
  have hg12 : g1 < g2 := by omega
  have hg23 : g2 < g3 := by omega
  have hwt : w.heap.size ≤ t1 := by omega
  have htg : t1 ≤ g1 := by omega
  have HG3 := Lib.hid hg3
  have HV1 := Lib.hid hv1
  obtain ⟨q, hq⟩ : ∃ q, q = n - k := ⟨_, rfl⟩
  have hq1 : q + k ≤ n := by omega
  have hq2 : n ≤ q + k := by omega
  have HQ := Lib.hid hq
  clear hq hown1 hown2 hd2 hv2 b1 b2 b3 ha1 hb1 hb2 l1 l2 ht1 hg3 hs1 h1 ha hb hbb hv1
  go_wp2_with (at_make; refine wpList_make_full _ rfl _ _ 26 rfl g3 43 i0 (.int .u64 0) 1 Try.underlying26 hi hz0 hz1 .i64 .i64 _ _ q rfl rfl (by omega) (by omega) (by rw [hz2]; omega) (by unfold maxLen; omega) (by rw [HG3.out]; omega) ?_; intro w4 hown4 hgrow4; rw [made_zeros] at hown4)
  rw [HG3.out] at hown4 ⊢
  have hB4 : Below w.heap.size w w4 := hB3.grown hgrow4 hB3.size (fun k h => by cases h)
  have hownR4 := hownR.kept hgrow4 (.inr (by simp [Value.ownBlock]))
  have hD4 : Lim w4.heap.size w4 (some ⟨g2, 0, none⟩) (k + 1) cap2 (limbs (y * 2 ^ s)) := (Lim.below hj ⟨hgrow4.os, hgrow4.tape, hgrow4.output, hgrow4.size, fun a ha => hgrow4.block a ha (by simp)⟩).more hgrow4.size
  go_loopw [11] (fun iv wr => ∃ (j : Nat) (Rl Ql : List Nat), j ≤ q ∧ iv = .int .i64 ((j : Int) - 1) ∧ Dig Rl ∧ Dig Ql ∧ wr.ownsRow t1 43 1 (.slice (some ⟨g1, 0, none⟩) (n + 1) cap1) (n + 1) (Rl.map encD) ∧ wr.ownsRow g3 43 1 (.slice (some ⟨g3, 0, none⟩) q q) q (Ql.map encD) ∧ Lim wr.heap.size wr (some ⟨g2, 0, none⟩) (k + 1) cap2 (limbs (y * 2 ^ s)) ∧ Below w.heap.size w wr ∧ Hid (val Rl + y * 2 ^ s * val Ql = x * 2 ^ s) ∧ Hid (val Rl < y * 2 ^ s * B64 ^ j) ∧ Hid (∀ t, t < j → Ql[t]?.getD 0 = 0)) (fun iv _ => (intOf iv + 1).toNat)
  case atStart =>
    refine ⟨q, R1, List.replicate q 0, Nat.le_refl _, rfl, hd1, dig_zeros q, hownR4, hown4, hD4, hB4, Lib.hid ?_, Lib.hid ?_, Lib.hid fun t _ => get_zeros q t⟩
    · rw [val_zeros, Nat.mul_zero, Nat.add_zero]; exact HV1.out
    · rw [HV1.out]
      have := HST.out
      rw [show n - (k + 1) + 1 = q by omega] at this
      exact this
  case round =>
    obtain ⟨j, Rl, Ql, hjq, hiv, hdR, hdQ, hoR, hoQ, hLD, hBl, HV, HLT, HZ⟩ := hrel
    cases j with
    | zero =>
      subst hiv
      rw [show (((0 : Nat) : Int) - 1) = -1 from rfl]
      have hlq := Lim.of_own hoQ hdQ
      have hlr := Lim.of_own hoR hdR
      have hlt0 := HLT.out
      rw [Nat.pow_zero, Nat.mul_one] at hlt0
      obtain ⟨e1, e2⟩ := long_end hy0 hlt0 HV.out
      have E1 := Lib.hid e1
      have E2 := Lib.hid e2
      have HLD := Lib.hid (low_done hdR s)
      have HRL := Lib.hid hlr.1
      clear e1 e2 hlt0
      go_wp2_with fail
      refine (dtrim_lim _ _ _ _ _ _ hlq (by omega)).mono ?_
      rintro e w' ⟨j1, rfl, hj1, rfl⟩
      rw [E1.out] at hj1
      go_wp2_with fail
      refine (lowered_lim _ _ _ s _ _ hlr (by omega) hs64).mono ?_
      rintro e w5 ⟨g5, cap5, rfl, hown5, b5⟩
      have hl5 := Lim.of_own hown5 (digs_dig _ _)
      go_wp2_with fail
      refine (dtrim_lim _ _ _ _ _ _ hl5 (by omega)).mono ?_
      rintro e w' ⟨j2, rfl, hj2, rfl⟩
      rw [HRL.out, HLD.out, E2.out] at hj2
      go_wp2_with fail
      go_ret3
      exact ⟨_, _, _, _, _, _, rfl, Lim.on hj1 b5, hj2, hBl.trans (b5.mono hBl.size), fun _ => ⟨g3, 0, rfl, by omega⟩⟩
    | succ t =>
      subst hiv
      rw [show (((t + 1 : Nat) : Int) - 1) = (t : Int) by omega]
      have hcap : n + 1 ≤ cap1 := (Lim.of_own hoR hdR).2.1
      have hne : ¬ cap1 = t := by omega
      have hlR : Rl.length = n + 1 := by have := hoR.1; simpa using this
      have hlQ : Ql.length = q := by have := hoQ.1; simpa using this
      have hD0 : 0 < y * 2 ^ s := Nat.mul_pos hy0 (Nat.pow_pos (by omega))
      have hcall : Calls Try.prog 76 #[.slice (some ⟨g1, t, none⟩) (k + 2) (cap1 - t), .slice (some ⟨g2, 0, none⟩) (k + 1) cap2] wr fun e w' => ∃ (R' : List Nat) (qd : Nat), e = .returned (.int .u64 (qd : Int)) ∧ qd < B64 ∧ Dig R' ∧ w'.ownsRow t1 43 1 (.slice (some ⟨g1, 0, none⟩) (n + 1) cap1) (n + 1) (R'.map encD) ∧
          Hid (val R' + y * 2 ^ s * (B64 ^ t * qd) = val Rl) ∧ Hid (val R' < y * 2 ^ s * B64 ^ t) ∧ wr.grownBy w' (some g1) := by
        obtain ⟨hs1, hs2⟩ := long_step (t := t) (k := k) (D := y * 2 ^ s) hdR HDLT.out hD0 (by omega) HLT.out
        have e0 : Rl = Rl.take t ++ ((Rl.drop t).take (k + 2) ++ Rl.drop (t + (k + 2))) := by
          rw [← List.drop_drop, List.take_append_drop, List.take_append_drop]
        have hWin : Win wr t1 g1 (n + 1) cap1 (Rl.take t) ((Rl.drop t).take (k + 2)) (Rl.drop (t + (k + 2))) := by
          unfold Win
          rw [← e0]
          exact hoR
        refine (take_N wr t1 g1 (n + 1) cap1 t (cap1 - t) g2 0 cap2 k _ _ _ (limbs (y * 2 ^ s)) hWin (by rw [List.length_take]; omega) ((hdR.drop t).take _) (by rw [List.length_take, List.length_drop]; omega) (by omega) hLD (by omega) (by omega) (by omega) HDTOP.out (by rw [val_limbs]; exact hs1)).mono ?_
        rintro e w5 ⟨Q, rfl, hQd, hQl, hQv, hW5, hg5⟩
        rw [val_limbs] at hQv ⊢
        obtain ⟨f1, f2⟩ := hs2 Q hQl hQv
        refine ⟨_, _, rfl, ?_, ?_, hW5, Lib.hid f1, Lib.hid f2, hg5⟩
        · rw [Nat.div_lt_iff_lt_mul hD0]; exact hs1
        · intro a ha
          rcases List.mem_append.1 ha with h | h
          · exact hdR a (List.mem_of_mem_take h)
          · rcases List.mem_append.1 h with h | h
            · exact hQd a h
            · exact hdR a (List.mem_of_mem_drop h)
      have HC := Lib.hid hcall
      have HLQ := Lib.hid hlQ
      clear hcall hlR hlQ hD0
      go_wp2_with fail
      rw [show t + (k + 1) + 1 - t = k + 2 by omega]
      refine HC.out.mono ?_
      rintro e w5 ⟨R', qd, rfl, hqd, hdR', hoR5, HV5, HLT5, hg5⟩
      have hoQ5 := hoQ.kept hg5 (.inr (by simp [Value.ownBlock]; omega))
      have hLD5 := (hLD.apart hg5 (by omega) (Nat.le_refl _)).more hg5.size
      have hB5 := hBl.grown hg5 hBl.size (fun a e => by cases e; omega)
      have hc5 : w5.cell? ⟨g3, t, none⟩ = some (.int .u64 ((Ql[t]?.getD 0 : Nat) : Int)) := by
        rw [hoQ5.cellAt t (by omega), List.getElem?_map, List.getElem?_eq_getElem (by rw [HLQ.out]; omega)]
        simp [encD]
      have hf5 := hoQ5.frozenAt t
      have hst := hoQ5.stored t (.int .u64 (qd : Int))
      have HS := Lib.hid hst
      have HOR := Lib.hid hoR5
      clear hst hoQ5 hoR5 hg5 hoR hoQ hBl
      go_wp2_with fail
      go_roundw
      case rel =>
        have hgs := HS.out.2
        refine ⟨t, R', Ql.set t qd, by omega, rfl, hdR', hdQ.set t hqd, HOR.out.kept hgs (.inr (by simp [Value.ownBlock]; omega)), ?_, (hLD5.apart hgs (by omega) (Nat.le_refl _)).more hgs.size, hB5.grown hgs hB5.size (fun a e => by cases e; omega), Lib.hid ?_, HLT5, Lib.hid fun a ha => ?_⟩
        · have h5 := HS.out.1
          rw [show (Value.int IntKind.u64 (qd : Int)) = encD qd from rfl, ← List.map_set] at h5
          exact h5
        · have h5 := val_set (l := Ql) (k := t) (by rw [HLQ.out]; omega) qd
          rw [HZ.out t (by omega), Nat.mul_zero, Nat.add_zero] at h5
          rw [h5, Nat.mul_add, ← HV.out, ← HV5.out]
          omega
        · rw [List.getElem?_set_ne (by omega)]
          exact HZ.out a (by omega)
      case measure => simp [intOf]

theorem ddiv_main {w : World} {A B : Option Addr} {n c k d x y : Nat} (ha : Num w A n c x) (hb : Num w B (k + 1) d y) (hx : (limbs x).length ≤ 300) (hy : (limbs y).length ≤ 300) (hle : y ≤ x) : Calls Try.prog 56 #[.slice A n c, .slice B (k + 1) d] w (GotD w (x / y) (x % y)) :=
  (ddiv_main_F ha hb hx hy hle).mono fun _ _ ⟨A', n', c', B', m', d', he, h1, h2, h3, _⟩ => ⟨A', n', c', B', m', d', he, h1, h2, h3⟩

theorem ddiv_N {w : World} {A B : Option Addr} {n c m d x y : Nat} (ha : Num w A n c x) (hb : Num w B m d y) (hx : (limbs x).length ≤ 300) (hy : (limbs y).length ≤ 300) (hy0 : y ≠ 0) : Calls Try.prog 56 #[.slice A n c, .slice B m d] w (GotD w (x / y) (x % y)) := by
  rcases Nat.lt_or_ge x y with h | h
  · rw [Nat.div_eq_of_lt h, Nat.mod_eq_of_lt h]
    exact ddiv_small ha hb hx hy h
  · obtain ⟨k, rfl⟩ : ∃ k, m = k + 1 := ⟨m - 1, by have := hb.len; have := limbs_ne_nil hy0; omega⟩
    exact ddiv_main ha hb hx hy h

theorem dgcd_N {w : World} {A B : Option Addr} {n c m d x y : Nat} (ha : Num w A n c x) (hb : Num w B m d y) (hx : (limbs x).length ≤ 300) (hy : (limbs y).length ≤ 300) : Calls Try.prog 93 #[.slice A n c, .slice B m d] w (GotN w (Nat.gcd x y)) := by
  go_enter Try.func93, Try.ntmps93
  go_wp2_with fail
  refine (trim_N ha (by omega)).mono ?_
  rintro e w' ⟨rfl, rfl⟩
  go_wp2_with fail
  refine (trim_N hb (by omega)).mono ?_
  rintro e w' ⟨rfl, rfl⟩
  go_wp2_with fail
  go_loopg [0, 1] y (fun k av bv wr => ∃ (A' B' : Option Addr) (n' c' m' d' x' : Nat), av = .slice A' n' c' ∧ bv = .slice B' m' d' ∧ Num wr A' n' c' x' ∧ Num wr B' m' d' k ∧ (limbs x').length ≤ 300 ∧ (limbs k).length ≤ 300 ∧ Hid (Nat.gcd x' k = Nat.gcd x y) ∧ Below w.heap.size w wr)
  case atStart => exact ⟨A, B, n, c, m, d, x, rfl, rfl, ha, hb, hx, hy, Lib.hid rfl, Below.refl _ _⟩
  case round =>
    obtain ⟨A', B', n', c', m', d', x', rfl, rfl, h1, h2, l1, l2, hg, hbl⟩ := hrel
    have hm := h2.len
    by_cases h0 : gk = 0
    · subst h0
      rw [limbs_zero] at hm
      simp at hm
      subst hm
      have hn := h1.len
      have hn' : n' ≤ 300 := by omega
      clear hn
      go_wp2_with fail
      refine (clone_F h1 (by omega)).mono ?_
      rintro e w1 ⟨A1, n1, c1, rfl, h3, b1, f1⟩
      go_wp2_with fail
      go_ret
      have e := hg.out
      rw [Nat.gcd_zero_right] at e
      rw [e] at h3
      exact ⟨_, _, _, rfl, h3, hbl.trans (b1.mono hbl.size)⟩
    · have hm0 : 0 < m' := by have := limbs_ne_nil h0; omega
      have hmi : (0 : Int) < (m' : Int) := by omega
      have l3 := r_len (x := x') (by omega) l2
      have hg2 : Nat.gcd gk (x' % gk) = Nat.gcd x y := by rw [Nat.gcd_comm, ← Nat.gcd_rec, Nat.gcd_comm]; exact hg.out
      have HG := Lib.hid hg2
      clear hg hg2 hm
      go_wp2_with fail
      refine (ddiv_N h1 h2 (by omega) (by omega) h0).mono ?_
      rintro e w1 ⟨A1, n1, c1, B1, m1, d1, rfl, h3, h4, b1⟩
      go_wp2_with fail
      go_roundg (x' % gk)
      case measure => exact Nat.mod_lt _ (by omega)
      case rel => exact ⟨B', B1, m', d', m1, d1, gk, rfl, rfl, h2.on b1, h4, l2, l3, HG, hbl.trans (b1.mono hbl.size)⟩

end Go.Proofs.Ytpephogadljncaa

/-
  The contracts of rat: quotient, isNought, times, less, reduced.
-/
namespace Go.Proofs.Ytpephogadljncaa
set_option maxRecDepth 100000
set_option maxHeartbeats 8000000
open Go.RowKit
set_option linter.unusedVariables false
set_option linter.unusedSimpArgs false

theorem isn_N {w : World} {A : Option Addr} {n c x : Nat} (r : Bool) (ha : Num w A n c x) (hx : (limbs x).length ≤ 300) (hr : decide (x = 0) = r) :
    Calls Try.prog 81 #[.slice A n c] w (GotV w (.bool r)) := by
  have he : (cmpN x 0 == 0) = r := (cmpN_nil x).trans hr
  have cc := Below.refl w.heap.size w
  go_enter Try.func81, Try.ntmps81
  go_wp2_with fail
  refine (cmp_N ha (num_zero _) (by omega) (Nat.le_trans len_nil (by omega))).mono ?_
  rintro e w1 ⟨rfl, b⟩
  replace ha := ha.on b
  replace cc := bK cc b
  clear b
  go_wp2_with fail
  go_ret
  exact ⟨rfl, cc⟩

theorem rquo_N {w : World} {A B : Option Addr} {n c m d x y : Nat} (ha : Num w A n c x) (hb : Num w B m d y) (hx : (limbs x).length ≤ 300) (hy : (limbs y).length ≤ 300) (hq : y ≠ 0) :
    Calls Try.prog 94 #[.slice A n c, .slice B m d] w (GotN w (x / y)) := by
  have cc := Below.refl w.heap.size w
  go_enter Try.func94, Try.ntmps94
  go_wp2_with fail
  refine (ddiv_N ha hb hx hy hq).mono ?_
  rintro e w1 ⟨A1, n1, k1, A2, n2, k2, rfl, h1, h2, b⟩
  go_wp2_with fail
  go_ret
  exact ⟨_, _, _, rfl, h1, b⟩



theorem reduced_N {w : World} {b : Bool} {A B : Option Addr} {n c m d q : Nat} {p : Int} (ha : Zn w b A n c p) (hb : Num w B m d q) (hq : q ≠ 0) (hx : (limbs p.natAbs).length ≤ 200) (hy : (limbs q).length ≤ 200) :
    Calls Try.prog 82 #[.agg #[.bool b, .slice A n c], .slice B m d] w (GotRt w (mkRat p q)) := by
  have hg := Nat.gcd_pos_of_pos_right p.natAbs (show 0 < q by omega)
  obtain ⟨g, hG⟩ : ∃ g, Nat.gcd p.natAbs q = g := ⟨_, rfl⟩
  have HN : Hid ((mkRat p q).num.natAbs = p.natAbs / g) := Lib.hid (by rw [← hG]; exact mkRat_abs p q hq)
  have HD : Hid ((mkRat p q).den = q / g) := Lib.hid (by rw [← hG]; exact mkRat_den p q hq)
  have HS : Hid (decide ((mkRat p q).num < 0) = decide (p < 0)) := Lib.hid (mkRat_neg p q hq)
  have hgl := gcd_len (p := p.natAbs) hq hy
  rw [hG] at hg hgl
  have hg0 : g ≠ 0 := by omega
  have HB := Lib.hid ha.2
  have p1 := ha.1
  have CG := Lib.hid hG
  clear hG hg ha
  have cc := Below.refl w.heap.size w
  go_enter Try.func82, Try.ntmps82
  go_wp2_with fail
  generalize hv_ : (w.alloc (.cells #[.bool b, .slice A n c] 29)).alloc (.cells #[.bool false, .slice none 0 0, .slice none 0 0] 78) = v1
  obtain ⟨f0, f1, f2⟩ : Fz3 v1 (w.heap.size + 1) := by simp [Fz3, ← hv_, go_sem]
  have bA : Below w.heap.size w v1 := by rw [← hv_]; exact (((Below.refl _ w).alloc (by simp) _).alloc (by simp) _)
  replace p1 := p1.on bA
  replace hb := hb.on bA
  replace cc := bK cc bA
  clear bA
  obtain ⟨k0, k1⟩ : Cs2 v1 w.heap.size (.bool b) (.slice A n c) := by simp [Cs2, ← hv_, go_sem]
  have kl : w.heap.size < v1.heap.size := by simp [← hv_] <;> omega
  obtain ⟨g0, g1, g2⟩ : Cs3 v1 (w.heap.size + 1) (.bool false) (.slice none 0 0) (.slice none 0 0) := by simp [Cs3, ← hv_, go_sem]
  have gl : w.heap.size + 1 < v1.heap.size := by simp [← hv_] <;> omega
  clear hv_
  refine (dgcd_N p1 hb (by omega) (by omega)).mono ?_
  rintro e w2 ⟨Av, nv, cv, rfl, v, b⟩
  rw [CG.out] at v
  rewrite [fR b gl] at f0 f1 f2
  replace p1 := p1.on b
  replace hb := hb.on b
  rewrite [cR b kl] at k0 k1
  replace kl := lK b kl
  rewrite [cR b gl] at g0 g1 g2
  replace gl := lK b gl
  replace cc := bK cc b
  clear b
  go_upto_region 2 with fail
  go_cut [6] (fun u wx => ∃ (g_ : Nat) (b_ : Bool) (A_ : Option Addr) (n_ c_ : Nat), u = .pointer (some ⟨g_, 0, none⟩) ∧ LoneZ w2 wx g_ b_ A_ n_ c_ ((mkRat p q).num))
  case first =>
    have BB0 : Below w2.heap.size w2 w2.drew := below_drewN (Below.refl _ w2) 1
    have BB1 : Below w2.heap.size w2 (w2.alloc (.cells #[.bool false, .slice none 0 0] 29)).drew := below_drewN (below_one _ _) 1
    go_region_held3 (fun w' => w'.cell? ⟨w.heap.size, 0, none⟩ = some (.bool b) ∧ w'.cell? ⟨w.heap.size, 1, none⟩ = some (.slice A n c) ∧ w'.cell? ⟨w.heap.size + 1, 0, none⟩ = some (.bool false) ∧ w'.cell? ⟨w.heap.size + 1, 1, none⟩ = some (.slice none 0 0) ∧ w'.cell? ⟨w.heap.size + 1, 2, none⟩ = some (.slice none 0 0))
      (first | with_reducible exact ⟨(cK qq k0 kl), (cK qq k1 kl), (cK qq g0 gl), (cK qq g1 gl), (cK qq g2 gl)⟩ | with_reducible exact ⟨keep_alloc ((cK qq k0 kl)), keep_alloc ((cK qq k1 kl)), keep_alloc ((cK qq g0 gl)), keep_alloc ((cK qq g1 gl)), keep_alloc ((cK qq g2 gl))⟩ | with_reducible exact ⟨((cell_store (by omega)).trans (cK qq k0 kl)), ((cell_store (by omega)).trans (cK qq k1 kl)), ((cell_store (by omega)).trans (cK qq g0 gl)), ((cell_store (by omega)).trans (cK qq g1 gl)), ((cell_store (by omega)).trans (cK qq g2 gl))⟩ | go_keep)
      (first
        | (go_at_call 94; (with_reducible refine (rquo_N (p1.on BB0) (v.on BB0) (by omega) (by omega) hg0).mono ?_); rintro e y1 ⟨As, ns, cs, rfl, s, q⟩; have qq := BB0.trans (q.mono BB0.size); have p1' := (p1.on BB0).on q; have hb' := (hb.on BB0).on q; have v' := (v.on BB0).on q; have qs1 := qq.size; clear q)
        | (go_at_call 94; (with_reducible refine (rquo_N (p1.on BB1) (v.on BB1) (by omega) (by omega) hg0).mono ?_); rintro e y1 ⟨As, ns, cs, rfl, s, q⟩; have qq := BB1.trans (q.mono BB1.size); have p1' := (p1.on BB1).on q; have hb' := (hb.on BB1).on q; have v' := (v.on BB1).on q; have qs1 := qq.size; obtain ⟨bo_0, fo_0, bo_1, fo_1, ol⟩ := zb2 (g := w2.heap.size) q (by simp) (by simp [Cs2, go_sem]) (by simp [Fz2, go_sem]); clear q))
    all_goals (go_wp2_with fail; go_meet)
    all_goals have o : Zn y1 b As ns cs (mkRat p q).num := ⟨by rw [HN.out]; exact s, by rw [HS.out]; exact HB.out⟩
    all_goals refine ⟨_, b, As, ns, cs, rfl, ?_⟩
    all_goals first
      | with_reducible exact loneZA o qq _
      | with_reducible exact loneZB bo_0 bo_1 o qq (by omega)
  case rest =>
    obtain ⟨gt, bt, At, nt, ct, rfl, ⟨t0, t1⟩, ht, b, tge⟩ := hcut
    have tl := cell_lt t0
    simp only at tl
    have tqk : w.heap.size < gt := Nat.lt_of_lt_of_le kl tge
    have tqg : w.heap.size + 1 < gt := Nat.lt_of_lt_of_le gl tge
    rewrite [fR b gl] at f0 f1 f2
    replace p1 := p1.on b
    replace hb := hb.on b
    replace v := v.on b
    rewrite [cR b kl] at k0 k1
    replace kl := lK b kl
    rewrite [cR b gl] at g0 g1 g2
    replace gl := lK b gl
    replace cc := bK cc b
    clear b
    go_wp2_with fail
    have qq : Below wc.heap.size wc wc.drew := below_drewN (Below.refl _ wc) 1
    have p1' := p1.on qq
    have hb' := hb.on qq
    have v' := v.on qq
    have ht' := ht.on qq
    go_region_held3 (fun w' => w'.cell? ⟨w.heap.size, 0, none⟩ = some (.bool b) ∧ w'.cell? ⟨w.heap.size, 1, none⟩ = some (.slice A n c) ∧ w'.cell? ⟨gt, 0, none⟩ = some (.bool bt) ∧ w'.cell? ⟨gt, 1, none⟩ = some (.slice At nt ct))
      (first | with_reducible exact ⟨cK qq k0 kl, cK qq k1 kl, cK qq t0 tl, cK qq t1 tl⟩ | with_reducible exact ⟨(cell_putR (by omega)).trans (cK qq k0 kl), (cell_putR (by omega)).trans (cK qq k1 kl), (cell_putR (by omega)).trans (cK qq t0 tl), (cell_putR (by omega)).trans (cK qq t1 tl)⟩)
      (first
        | (go_at_call 94; (with_reducible refine (rquo_N hb' v' (by omega) (by omega) hg0).mono ?_); rintro e wz ⟨Bm, mm, dm, rfl, qm, q⟩; replace qq := bK qq q; (try replace p1' := p1'.on q); (try replace hb' := hb'.on q); (try replace v' := v'.on q); (try replace ht' := ht'.on q); clear q; have xa0 := cK qq g0 gl; have ya0 := fK qq f0 gl; have xa1 := cK qq g1 gl; have ya1 := fK qq f1 gl; have xa2 := cK qq g2 gl; have ya2 := fK qq f2 gl))
    replace cc := bK cc qq
    have hn : Rt wz bt At nt ct Bm mm dm (mkRat p q) := ⟨ht', by rw [HD.out]; exact qm⟩
    have eb : BoxR wz (w.heap.size + 1) false none 0 0 none 0 0 := ⟨xa0, xa1, xa2⟩
    have HZ : Hid (Rt (putR wz (w.heap.size + 1) (.bool bt) (.slice At nt ct) (.slice Bm mm dm)) bt At nt ct Bm mm dm (mkRat p q)) := Lib.hid (Rt.putR hn eb _ _ _)
    clear hn
    go_wp2_with fail
    refine bodyPost_ret (v := .agg #[.bool bt, .slice At nt ct, .slice Bm mm dm]) (by simp [results, Try.results82, go_sem, xa0, xa1, xa2]) rfl ⟨_, _, _, _, _, _, _, rfl, HZ.out, below_putR cc (by omega) _ _ _⟩

end Go.Proofs.Ytpephogadljncaa

/-
  The contracts of rat: join, Add, Sub, Mul.
-/
namespace Go.Proofs.Ytpephogadljncaa
open Go.RowKit
set_option linter.unusedVariables false
set_option linter.unusedSimpArgs false






end Go.Proofs.Ytpephogadljncaa

/-
  The contracts of rat: Make, Of, Cmp, Div, Right.
-/
namespace Go.Proofs.Ytpephogadljncaa
set_option maxRecDepth 100000
set_option maxHeartbeats 8000000
open Go.RowKit
set_option linter.unusedVariables false
set_option linter.unusedSimpArgs false

theorem qmake_N {w : World} {b : Bool} {A B : Option Addr} {n c m d q : Nat} {p : Int} (ha : Zn w b A n c p) (hb : Num w B m d q) (hq : q ≠ 0) (hx : (limbs p.natAbs).length ≤ 40) (hy : (limbs q).length ≤ 40) :
    Calls Try.prog 61 #[.agg #[.bool b, .slice A n c], .slice B m d] w (GotRp w (mkRat p q) 0) := by
  have cc := Below.refl w.heap.size w
  go_enter Try.func61, Try.ntmps61
  go_wp2_with fail
  generalize hv_ : (w.alloc (.cells #[.bool b, .slice A n c] 29)).alloc (.cells #[.bool false, .slice none 0 0, .slice none 0 0] 78) = v1
  obtain ⟨f0, f1, f2⟩ : Fz3 v1 (w.heap.size + 1) := by simp [Fz3, ← hv_, go_sem]
  have bA : Below w.heap.size w v1 := by rw [← hv_]; exact (((Below.refl _ w).alloc (by simp) _).alloc (by simp) _)
  replace ha := ha.on bA
  replace hb := hb.on bA
  replace cc := bK cc bA
  clear bA
  obtain ⟨k0, k1⟩ : Cs2 v1 w.heap.size (.bool b) (.slice A n c) := by simp [Cs2, ← hv_, go_sem]
  have kl : w.heap.size < v1.heap.size := by simp [← hv_] <;> omega
  obtain ⟨g0, g1, g2⟩ : Cs3 v1 (w.heap.size + 1) (.bool false) (.slice none 0 0) (.slice none 0 0) := by simp [Cs3, ← hv_, go_sem]
  have gl : w.heap.size + 1 < v1.heap.size := by simp [← hv_] <;> omega
  clear hv_
  refine (isn_N false hb (by omega) (decide_eq_false hq)).mono ?_
  rintro e w2 ⟨rfl, b⟩
  rewrite [fR b gl] at f0 f1 f2
  replace ha := ha.on b
  replace hb := hb.on b
  rewrite [cR b kl] at k0 k1
  replace kl := lK b kl
  rewrite [cR b gl] at g0 g1 g2
  replace gl := lK b gl
  replace cc := bK cc b
  clear b
  go_wp2_with fail
  refine (reduced_N ha hb hq (by omega) (by omega)).mono ?_
  rintro e w3 ⟨bm, Am, nm, cm, Bm, mm, dm, rfl, hm, b⟩
  rewrite [fR b gl] at f0 f1 f2
  replace ha := ha.on b
  replace hb := hb.on b
  rewrite [cR b kl] at k0 k1
  replace kl := lK b kl
  rewrite [cR b gl] at g0 g1 g2
  replace gl := lK b gl
  replace cc := bK cc b
  clear b
  have hn : Rt w3 bm Am nm cm Bm mm dm (mkRat p q) := hm
  have eb : BoxR w3 (w.heap.size + 1) false none 0 0 none 0 0 := ⟨g0, g1, g2⟩
  have HZ : Hid (Rt (putR w3 (w.heap.size + 1) (.bool bm) (.slice Am nm cm) (.slice Bm mm dm)) bm Am nm cm Bm mm dm (mkRat p q)) := Lib.hid (Rt.putR hn eb _ _ _)
  clear hn
  go_wp2_with fail
  refine bodyPost_ret (v := .tuple #[.agg #[.bool bm, .slice Am nm cm, .slice Bm mm dm], .int .i64 0]) (by simp [results, Try.results61, go_sem, g0, g1, g2]) rfl ⟨_, _, _, _, _, _, _, rfl, HZ.out, below_putR cc (by omega) _ _ _⟩

theorem qmake_zero {w : World} {b : Bool} {A B : Option Addr} {n c d : Nat} :
    Calls Try.prog 61 #[.agg #[.bool b, .slice A n c], .slice B 0 d] w (GotV w (.tuple #[.agg #[.bool false, .slice none 0 0, .slice none 0 0], .int .i64 4])) := by
  have cc := Below.refl w.heap.size w
  go_enter Try.func61, Try.ntmps61
  go_wp2_with fail
  generalize hv_ : (w.alloc (.cells #[.bool b, .slice A n c] 29)).alloc (.cells #[.bool false, .slice none 0 0, .slice none 0 0] 78) = v1
  obtain ⟨f0, f1, f2⟩ : Fz3 v1 (w.heap.size + 1) := by simp [Fz3, ← hv_, go_sem]
  have bA : Below w.heap.size w v1 := by rw [← hv_]; exact (((Below.refl _ w).alloc (by simp) _).alloc (by simp) _)
  replace cc := bK cc bA
  clear bA
  obtain ⟨k0, k1⟩ : Cs2 v1 w.heap.size (.bool b) (.slice A n c) := by simp [Cs2, ← hv_, go_sem]
  have kl : w.heap.size < v1.heap.size := by simp [← hv_] <;> omega
  obtain ⟨g0, g1, g2⟩ : Cs3 v1 (w.heap.size + 1) (.bool false) (.slice none 0 0) (.slice none 0 0) := by simp [Cs3, ← hv_, go_sem]
  have gl : w.heap.size + 1 < v1.heap.size := by simp [← hv_] <;> omega
  clear hv_
  refine (isn_N true (num_nil _ B d) len_nil (by simp)).mono ?_
  rintro e w2 ⟨rfl, b⟩
  rewrite [fR b gl] at f0 f1 f2
  rewrite [cR b kl] at k0 k1
  replace kl := lK b kl
  rewrite [cR b gl] at g0 g1 g2
  replace gl := lK b gl
  replace cc := bK cc b
  clear b
  go_wp2_with fail
  exact bodyPost_ret (v := .tuple #[.agg #[.bool false, .slice none 0 0, .slice none 0 0], .int .i64 4]) (by simp [results, Try.results61, go_sem, g0, g1, g2]) rfl ⟨rfl, below_putR cc (by omega) _ _ _⟩



theorem rt_inv {w : World} {b : Bool} {A B : Option Addr} {n c m d : Nat} {x : Rat} (h : Rt w b A n c B m d x) (hne : x.num ≠ 0) : Rt w b B m d A n c x⁻¹ := by
  refine ⟨?_, ?_⟩
  · rw [inv_num x hne]; exact zn_side h.1 h.2 x.den_nz
  · rw [inv_den x hne]; exact h.1.1




theorem gcd_any {p q k : Nat} (hp : (limbs p).length ≤ k) (hq : (limbs q).length ≤ k) : (limbs (Nat.gcd p q)).length ≤ k := by
  rcases Nat.eq_zero_or_pos q with h | h
  · subst h; rw [Nat.gcd_zero_right]; exact hp
  · exact gcd_len (by omega) hq





end Go.Proofs.Ytpephogadljncaa

/-
  Rationals on a grid: rounded down, up, to the nearest; a multiple's number.
-/
namespace Go.Proofs.Ytpephogadljncaa
set_option linter.unusedSimpArgs false

theorem cmpQ_scale (a b c : Rat) (h : 0 < c) : cmpQ (a * c) (b * c) = cmpQ a b := by
  have e1 : (a * c < b * c) ↔ a < b := by
    constructor
    · intro h1; exact Rat.lt_of_mul_lt_mul_right h1 (Rat.le_of_lt h)
    · intro h1; exact Rat.mul_lt_mul_of_pos_right h1 h
  have e2 : (b * c < a * c) ↔ b < a := by
    constructor
    · intro h1; exact Rat.lt_of_mul_lt_mul_right h1 (Rat.le_of_lt h)
    · intro h1; exact Rat.mul_lt_mul_of_pos_right h1 h
  unfold cmpQ; simp only [e1, e2]
/-- To the nearest whole number, of two as near the even one. -/
def nr (A : Rat) : Int := if A - (A.floor : Rat) < ((-(-A).floor : Int) : Rat) - A ∨ (A - (A.floor : Rat) = ((-(-A).floor : Int) : Rat) - A ∧ A.floor % 2 = 0) then A.floor else -(-A).floor
theorem fl_le (A : Rat) : (A.floor : Rat) ≤ A := Rat.floor_le A
theorem fl_lt (A : Rat) : A < (A.floor : Rat) + 1 := by
  have := Rat.lt_floor_add_one A
  rw [Rat.intCast_add] at this; exact this
theorem fl_eq {A : Rat} {n : Int} (h1 : (n : Rat) ≤ A) (h2 : A < (n : Rat) + 1) : A.floor = n := by
  have a1 := Rat.le_floor_iff.2 h1
  have a2 : A.floor < n + 1 := Rat.floor_lt_iff.2 (by rw [Rat.intCast_add]; exact h2)
  omega
theorem up_ge (A : Rat) : A ≤ ((-(-A).floor : Int) : Rat) := by
  have := fl_le (-A); rw [Rat.intCast_neg]; grind
theorem up_lt (A : Rat) : ((-(-A).floor : Int) : Rat) < A + 1 := by
  have := fl_lt (-A); rw [Rat.intCast_neg]; grind
theorem up_cases (A : Rat) : (-(-A).floor = A.floor ∧ A = (A.floor : Rat)) ∨ (-(-A).floor = A.floor + 1 ∧ (A.floor : Rat) < A) := by
  have h1 := fl_le A
  have h2 := fl_lt A
  have h3 := up_ge A
  have h4 := up_lt A
  rcases Classical.em ((A.floor : Rat) < A) with h | h
  · right
    refine ⟨?_, h⟩
    have : (-A).floor = -(A.floor + 1) := by
      apply fl_eq
      · rw [Rat.intCast_neg, Rat.intCast_add]; grind
      · rw [Rat.intCast_neg, Rat.intCast_add]; grind
    omega
  · left
    have h' : A = (A.floor : Rat) := by grind
    refine ⟨?_, h'⟩
    have : (-A).floor = -A.floor := by
      apply fl_eq
      · rw [Rat.intCast_neg]; grind
      · rw [Rat.intCast_neg]; grind
    omega
/-- n is at most half a step away, and even, if it is just that. -/
def NrHalf (A : Rat) (n : Int) : Prop := (n : Rat) - A + ((n : Rat) - A) ≤ 1 ∧ A - (n : Rat) + (A - (n : Rat)) ≤ 1 ∧ (((n : Rat) - A + ((n : Rat) - A) = 1 ∨ A - (n : Rat) + (A - (n : Rat)) = 1) → n % 2 = 0)
theorem nr_half (A : Rat) : NrHalf A (nr A) := by
  have f1 := fl_le A
  have f2 := fl_lt A
  unfold nr NrHalf
  rcases up_cases A with ⟨h1, h2⟩ | ⟨h1, h2⟩
  · have e : (if A - (A.floor : Rat) < ((-(-A).floor : Int) : Rat) - A ∨ (A - (A.floor : Rat) = ((-(-A).floor : Int) : Rat) - A ∧ A.floor % 2 = 0) then A.floor else -(-A).floor) = A.floor := by rw [h1]; split <;> rfl
    rw [e]
    refine ⟨by grind, by grind, ?_⟩
    intro h; exfalso; grind
  · rw [h1, Rat.intCast_add]
    have e : ((1 : Int) : Rat) = 1 := rfl
    rw [e]
    by_cases hc : A - (A.floor : Rat) < (A.floor : Rat) + 1 - A ∨ (A - (A.floor : Rat) = (A.floor : Rat) + 1 - A ∧ A.floor % 2 = 0)
    · rw [if_pos hc]
      refine ⟨by grind, by grind, ?_⟩
      intro h
      rcases hc with hc | ⟨_, hc⟩
      · exfalso; grind
      · exact hc
    · rw [if_neg hc, Rat.intCast_add, e]
      have hn : ¬ A - (A.floor : Rat) < (A.floor : Rat) + 1 - A := fun x => hc (.inl x)
      refine ⟨by grind, by grind, ?_⟩
      intro h
      have h4 : A.floor % 2 ≠ 0 := fun x => by
        rcases h with h | h
        · exact hc (.inr ⟨by grind, x⟩)
        · grind
      omega
theorem half_unique {A : Rat} {n m : Int} (h : NrHalf A n) (g : NrHalf A m) : n = m := by
  obtain ⟨h1, h2, h3⟩ := h
  obtain ⟨g1, g2, g3⟩ := g
  have o : ((1 : Int) : Rat) = 1 := rfl
  have k1 : ((m : Int) : Rat) ≤ ((n + 1 : Int) : Rat) := by rw [Rat.intCast_add, o]; grind
  have k2 : ((n : Int) : Rat) ≤ ((m + 1 : Int) : Rat) := by rw [Rat.intCast_add, o]; grind
  rw [Rat.intCast_le_intCast] at k1 k2
  have : n = m ∨ m = n + 1 ∨ n = m + 1 := by omega
  rcases this with h | h | h
  · exact h
  · exfalso
    have e : ((m : Int) : Rat) = (n : Rat) + 1 := by rw [h, Rat.intCast_add, o]
    have b1 := g3 (.inl (by grind))
    have b2 := h3 (.inr (by grind))
    omega
  · exfalso
    have e : ((n : Int) : Rat) = (m : Rat) + 1 := by rw [h, Rat.intCast_add, o]
    have b1 := g3 (.inr (by grind))
    have b2 := h3 (.inl (by grind))
    omega
theorem nr_unique {A : Rat} {n : Int} (h : NrHalf A n) : nr A = n := half_unique (nr_half A) h
theorem nr_neg (A : Rat) : nr (-A) = -nr A := by
  obtain ⟨g1, g2, g3⟩ := nr_half A
  apply nr_unique
  unfold NrHalf
  rw [Rat.intCast_neg]
  refine ⟨by grind, by grind, ?_⟩
  intro h
  have : nr A % 2 = 0 := g3 (by grind)
  omega
theorem nr_int (n : Int) : nr (n : Rat) = n := by
  apply nr_unique
  unfold NrHalf
  refine ⟨by grind, by grind, ?_⟩
  intro h; exfalso; grind
theorem nr_mono {A B : Rat} (h : A ≤ B) : nr A ≤ nr B := by
  obtain ⟨g1, g2, g3⟩ := nr_half A
  obtain ⟨f1, f2, f3⟩ := nr_half B
  rcases Int.lt_or_le (nr B) (nr A) with h1 | h1
  · exfalso
    have k : ((nr B + 1 : Int) : Rat) ≤ ((nr A : Int) : Rat) := Rat.intCast_le_intCast.2 (by omega)
    rw [Rat.intCast_add] at k
    have e1 : ((1 : Int) : Rat) = 1 := rfl
    rw [e1] at k
    have b1 := g3 (.inl (by grind))
    have b2 := f3 (.inr (by grind))
    have k2 : ((nr A : Int) : Rat) = ((nr B + 1 : Int) : Rat) := by rw [Rat.intCast_add, e1]; grind
    have := Rat.intCast_inj.1 k2
    omega
  · exact h1
theorem nr_one (A : Rat) : nr A = A.floor ∨ nr A = -(-A).floor := by unfold nr; split <;> simp
/-- 2 to the power of k. -/
def dw (k : Nat) : Rat := ((2 ^ k : Nat) : Rat)
theorem dw_pos (k : Nat) : 0 < dw k := by
  unfold dw
  have : 0 < 2 ^ k := Nat.pow_pos (by omega)
  exact Rat.natCast_pos.2 this
theorem dw_add (k n : Nat) : dw (k + n) = dw k * dw n := by
  unfold dw
  rw [Nat.pow_add, Rat.natCast_mul]
def flo (a : Rat) (k : Nat) : Int := (a * dw k).floor
def cei (a : Rat) (k : Nat) : Int := -flo (-a) k
def nea (a : Rat) (k : Nat) : Int := nr (a * dw k)
def bak (n : Int) (k : Nat) : Rat := mkRat n (2 ^ k)
theorem bak_mul (n : Int) (k : Nat) : bak n k * dw k = (n : Rat) := by
  unfold bak dw
  have h : (2 ^ k : Nat) ≠ 0 := Nat.ne_of_gt (Nat.pow_pos (by omega))
  have h2 : ((2 ^ k : Nat) : Rat) = mkRat ((2 ^ k : Nat) : Int) 1 := by rw [Rat.mkRat_one]; rfl
  have h3 : (n : Rat) = mkRat n 1 := by rw [Rat.mkRat_one]
  rw [h2, h3, Rat.mkRat_mul_mkRat, Rat.mkRat_eq_iff (by omega) (by omega)]
  simp
theorem bak_eq (n : Int) (k : Nat) : bak n k = (n : Rat) / dw k := by
  have h := bak_mul n k
  have := dw_pos k
  grind
theorem dw_cancel {a b : Rat} {k : Nat} (h : a * dw k = b * dw k) : a = b := by
  have := dw_pos k
  have h0 : dw k ≠ 0 := by grind
  grind
theorem floor_mk (p : Int) (q : Nat) (hq : q ≠ 0) : (mkRat p q).floor = p / (q : Int) := by
  have h0 : (0 : Int) < q := by omega
  have hm : mkRat p q * (q : Rat) = (p : Rat) := by
    have h2 : ((q : Nat) : Rat) = mkRat ((q : Nat) : Int) 1 := by rw [Rat.mkRat_one]; rfl
    have h3 : (p : Rat) = mkRat p 1 := by rw [Rat.mkRat_one]
    rw [h2, h3, Rat.mkRat_mul_mkRat, Rat.mkRat_eq_iff (by omega) (by omega)]
    simp
  have hqp : (0 : Rat) < (q : Rat) := Rat.natCast_pos.2 (by omega)
  have e : ((q : Int) : Rat) = (q : Rat) := rfl
  apply fl_eq
  · have h1 : p / (q : Int) * (q : Int) ≤ p := Int.ediv_mul_le _ (by omega)
    have h2 : ((p / (q : Int) * (q : Int) : Int) : Rat) ≤ (p : Rat) := Rat.intCast_le_intCast.2 h1
    rw [Rat.intCast_mul, e, ← hm] at h2
    exact Rat.le_of_mul_le_mul_right h2 hqp
  · have h1 : p < (p / (q : Int) + 1) * (q : Int) := Int.lt_ediv_add_one_mul_self _ h0
    have h2 : (p : Rat) < (((p / (q : Int) + 1) * (q : Int) : Int) : Rat) := Rat.intCast_lt_intCast.2 h1
    rw [Rat.intCast_mul, Rat.intCast_add, e, ← hm] at h2
    exact Rat.lt_of_mul_lt_mul_right h2 (Rat.le_of_lt hqp)
theorem flo_ediv (a : Rat) (k : Nat) : flo a k = a.num * ((2 ^ k : Nat) : Int) / (a.den : Int) := by
  unfold flo dw
  have h2 : ((2 ^ k : Nat) : Rat) = mkRat ((2 ^ k : Nat) : Int) 1 := by rw [Rat.mkRat_one]; rfl
  have h3 : a * mkRat ((2 ^ k : Nat) : Int) 1 = mkRat (a.num * ((2 ^ k : Nat) : Int)) a.den := by
    conv => lhs; rw [← Rat.mkRat_self a]
    rw [Rat.mkRat_mul_mkRat, Nat.mul_one]
  rw [h2, h3, floor_mk _ _ a.den_nz]
/-- As the document's answer reckons it: of the size, and the side put on. -/
theorem flo_pos (a : Rat) (k : Nat) (h : ¬ a.num < 0) : flo a k = ((a.num.natAbs * 2 ^ k / a.den : Nat) : Int) := by
  rw [flo_ediv]
  have e : a.num = (a.num.natAbs : Int) := by omega
  conv => lhs; rw [e]
  rw [← Int.natCast_mul, ← Int.natCast_ediv]
theorem flo_neg (a : Rat) (k : Nat) (h : a.num < 0) : flo a k = -((a.num.natAbs * 2 ^ k / a.den + (if a.num.natAbs * 2 ^ k % a.den = 0 then 0 else 1) : Nat) : Int) := by
  rw [flo_ediv]
  have e : a.num = -(a.num.natAbs : Int) := by omega
  conv => lhs; rw [e]
  have hd : 0 < a.den := Nat.pos_of_ne_zero a.den_nz
  generalize a.den = d at hd ⊢
  rw [Int.neg_mul, ← Int.natCast_mul]
  generalize a.num.natAbs * 2 ^ k = x
  have h1 := Nat.div_add_mod x d
  have h2 := Nat.mod_lt x hd
  generalize x / d = q at h1 ⊢
  generalize x % d = r at h1 h2 ⊢
  subst h1
  split
  · next h0 =>
    subst h0
    simp only [Nat.add_zero]
    rw [Int.natCast_mul, show -((d : Int) * (q : Int)) = (d : Int) * (-(q : Int)) by rw [Int.mul_neg], Int.mul_ediv_cancel_left _ (by omega)]
  · next h0 =>
    have : -((d * q + r : Nat) : Int) = ((d : Int) - (r : Int)) + (d : Int) * (-((q + 1 : Nat) : Int)) := by
      simp only [Int.natCast_add, Int.natCast_mul, Int.mul_neg, Int.mul_add]; omega
    rw [this, Int.add_mul_ediv_left _ _ (by omega), Int.ediv_eq_zero_of_lt (by omega) (by omega)]
    omega
theorem cei_up (a : Rat) (k : Nat) : cei a k = -(-(a * dw k)).floor := by
  unfold cei flo; rw [Rat.neg_mul]
/-- How the document's answer takes the nearest: by which of both is nearer. -/
theorem nea_by (a : Rat) (k : Nat) : nea a k = if cmpQ (a - bak (flo a k) k) (bak (cei a k) k - a) < 0 ∨ (cmpQ (a - bak (flo a k) k) (bak (cei a k) k - a) = 0 ∧ flo a k % 2 = 0) then flo a k else cei a k := by
  have hp := dw_pos k
  rw [← cmpQ_scale _ _ _ hp]
  have e1 : (a - bak (flo a k) k) * dw k = a * dw k - (flo a k : Rat) := by rw [← bak_mul (flo a k) k]; grind
  have e2 : (bak (cei a k) k - a) * dw k = (cei a k : Rat) - a * dw k := by rw [← bak_mul (cei a k) k]; grind
  rw [e1, e2, cei_up]
  unfold nea nr flo cmpQ
  generalize a * dw k = A
  generalize -(-A).floor = hi
  generalize A.floor = lo
  by_cases h1 : A - (lo : Rat) < (hi : Rat) - A
  · simp [h1]
  · by_cases h2 : (hi : Rat) - A < A - (lo : Rat)
    · have h3 : ¬ (A - (lo : Rat) = (hi : Rat) - A) := by grind
      simp [h1, h2, h3]
    · have h3 : A - (lo : Rat) = (hi : Rat) - A := by grind
      simp [h1, h2, h3]
theorem bak_one (k : Nat) : bak 1 k * dw k = 1 := by rw [bak_mul]; rfl
theorem low_le (a : Rat) (k : Nat) : cmpQ (bak (flo a k) k) a ≤ 0 := by
  rw [← cmpQ_scale _ _ _ (dw_pos k), bak_mul]
  have := fl_le (a * dw k)
  unfold flo cmpQ; grind
theorem high_ge (a : Rat) (k : Nat) : cmpQ a (bak (cei a k) k) ≤ 0 := by
  rw [← cmpQ_scale _ _ _ (dw_pos k), bak_mul, cei_up]
  have := up_ge (a * dw k)
  unfold cmpQ; grind
theorem on_both (a : Rat) (k : Nat) : (bak (flo a k) k = a ↔ bak (cei a k) k = a) ∧ (bak (flo a k) k ≠ a → bak (cei a k) k - bak (flo a k) k = bak 1 k) := by
  have hp := dw_pos k
  have h1 : bak (flo a k) k = a ↔ ((flo a k : Int) : Rat) = a * dw k := by
    rw [← bak_mul (flo a k) k]; constructor
    · intro h; rw [h]
    · intro h; exact dw_cancel h
  have h2 : bak (cei a k) k = a ↔ ((cei a k : Int) : Rat) = a * dw k := by
    rw [← bak_mul (cei a k) k]; constructor
    · intro h; rw [h]
    · intro h; exact dw_cancel h
  rw [h1, h2, cei_up]
  have hc := up_cases (a * dw k)
  unfold flo at *
  have o : ((1 : Int) : Rat) = 1 := rfl
  rcases hc with ⟨c1, c2⟩ | ⟨c1, c2⟩
  · rw [c1]
    refine ⟨Iff.rfl, fun h => absurd (h1.2 c2.symm) h⟩
  · refine ⟨⟨fun h => by exfalso; grind, fun h => ?_⟩, fun h => ?_⟩
    · exfalso
      have u := up_lt (a * dw k)
      have f := fl_lt (a * dw k)
      rw [c1, Rat.intCast_add, o] at h
      grind
    · apply dw_cancel (k := k)
      rw [bak_one]
      have e := bak_mul (-(-(a * dw k)).floor) k
      have e' := bak_mul ((a * dw k).floor) k
      rw [c1, Rat.intCast_add, o] at e
      rw [c1]
      grind
theorem nea_one (a : Rat) (k : Nat) : nea a k = flo a k ∨ nea a k = cei a k := by rw [cei_up]; exact nr_one _
def absQ (x : Rat) : Rat := if x < 0 then -x else x
theorem near_half (a : Rat) (k : Nat) : cmpQ (absQ (bak (nea a k) k - a) + absQ (bak (nea a k) k - a)) (bak 1 k) ≤ 0 ∧ (absQ (bak (nea a k) k - a) + absQ (bak (nea a k) k - a) = bak 1 k → nea a k % 2 = 0) := by
  have hp := dw_pos k
  obtain ⟨h1, h2, h3⟩ := nr_half (a * dw k)
  have e : ∀ x : Rat, absQ x * dw k = absQ (x * dw k) := by
    intro x
    unfold absQ
    by_cases hx : x < 0
    · have : x * dw k < 0 := by
        have := Rat.mul_lt_mul_of_pos_right hx hp
        rwa [Rat.zero_mul] at this
      rw [if_pos hx, if_pos this, Rat.neg_mul]
    · have : ¬ x * dw k < 0 := by
        have h0 : 0 ≤ x := by grind
        have := Rat.mul_nonneg h0 (Rat.le_of_lt hp)
        grind
      rw [if_neg hx, if_neg this]
  have e2 : (bak (nea a k) k - a) * dw k = (nea a k : Rat) - a * dw k := by rw [← bak_mul (nea a k) k]; grind
  have e3 : (absQ (bak (nea a k) k - a) + absQ (bak (nea a k) k - a)) * dw k = absQ ((nea a k : Rat) - a * dw k) + absQ ((nea a k : Rat) - a * dw k) := by rw [Rat.add_mul, e, e2]
  refine ⟨?_, fun h => ?_⟩
  · rw [← cmpQ_scale _ _ _ hp, e3, bak_one]
    unfold nea absQ cmpQ
    grind
  · have h4 : (absQ (bak (nea a k) k - a) + absQ (bak (nea a k) k - a)) * dw k = bak 1 k * dw k := by rw [h]
    rw [e3, bak_one] at h4
    unfold nea at *
    apply h3
    unfold absQ at h4
    grind
theorem flo_mono {a b : Rat} (k : Nat) (h : a ≤ b) : flo a k ≤ flo b k := Rat.floor_monotone (Rat.mul_le_mul_of_nonneg_right h (Rat.le_of_lt (dw_pos k)))
theorem cei_mono {a b : Rat} (k : Nat) (h : a ≤ b) : cei a k ≤ cei b k := by
  have : flo (-b) k ≤ flo (-a) k := flo_mono k (by grind)
  unfold cei; omega
theorem nea_mono {a b : Rat} (k : Nat) (h : a ≤ b) : nea a k ≤ nea b k := nr_mono (Rat.mul_le_mul_of_nonneg_right h (Rat.le_of_lt (dw_pos k)))
theorem cei_neg (a : Rat) (k : Nat) : cei (-a) k = -flo a k := by unfold cei; rw [Rat.neg_neg]
theorem nea_neg (a : Rat) (k : Nat) : nea (-a) k = -nea a k := by unfold nea; rw [Rat.neg_mul, nr_neg]
theorem flo_bak (n : Int) (k : Nat) : flo (bak n k) k = n := by unfold flo; rw [bak_mul, Rat.floor_intCast]
theorem bak_neg (n : Int) (k : Nat) : -bak n k = bak (-n) k := by
  apply dw_cancel (k := k)
  rw [Rat.neg_mul, bak_mul, bak_mul, Rat.intCast_neg]
theorem cei_bak (n : Int) (k : Nat) : cei (bak n k) k = n := by unfold cei; rw [bak_neg, flo_bak]; omega
theorem nea_bak (n : Int) (k : Nat) : nea (bak n k) k = n := by unfold nea; rw [bak_mul, nr_int]
theorem nea_fine (n : Int) (k : Nat) : nea (bak n k) (k + 1) = n + n := by
  unfold nea
  rw [dw_add, ← Rat.mul_assoc, bak_mul, show (n : Rat) * dw 1 = ((n + n : Int) : Rat) by rw [Rat.intCast_add]; unfold dw; grind, nr_int]
theorem flo_add (a b : Rat) (k : Nat) : flo a k + flo b k ≤ flo (a + b) k ∧ flo (a + b) k ≤ flo a k + flo b k + 1 := by
  unfold flo
  rw [Rat.add_mul]
  generalize a * dw k = A
  generalize b * dw k = B
  have f1 := fl_le A
  have f2 := fl_lt A
  have f3 := fl_le B
  have f4 := fl_lt B
  have o : ((1 : Int) : Rat) = 1 := rfl
  refine ⟨Rat.le_floor_iff.2 (by rw [Rat.intCast_add]; grind), ?_⟩
  have : (A + B).floor < A.floor + B.floor + 1 + 1 := Rat.floor_lt_iff.2 (by rw [Rat.intCast_add, Rat.intCast_add, Rat.intCast_add, o]; grind)
  omega
theorem flo_shift (a : Rat) (n : Int) (k : Nat) : flo (a + bak n k) k = flo a k + n := by
  unfold flo
  rw [Rat.add_mul, bak_mul, Rat.floor_add_intCast]
theorem flo_finer (a : Rat) (k n : Nat) : flo (bak (flo a (k + n)) (k + n)) k = flo a k := by
  have hb := bak_mul (flo a (k + n)) (k + n)
  have hp := dw_pos n
  have hl := fl_le (a * dw (k + n))
  have hm : ∀ m : Int, (m : Rat) ≤ bak (flo a (k + n)) (k + n) * dw k ↔ (m : Rat) ≤ a * dw k := by
    intro m
    have e1 : (m : Rat) * dw n = ((m * ((2 ^ n : Nat) : Int) : Int) : Rat) := by rw [Rat.intCast_mul]; rfl
    have g1 : (m : Rat) ≤ bak (flo a (k + n)) (k + n) * dw k ↔ (m : Rat) * dw n ≤ ((flo a (k + n) : Int) : Rat) := by
      rw [← hb, dw_add, ← Rat.mul_assoc]
      exact ⟨fun h => Rat.mul_le_mul_of_nonneg_right h (Rat.le_of_lt hp), fun h => Rat.le_of_mul_le_mul_right h hp⟩
    have g2 : (m : Rat) ≤ a * dw k ↔ (m : Rat) * dw n ≤ a * dw (k + n) := by
      rw [dw_add, ← Rat.mul_assoc]
      exact ⟨fun h => Rat.mul_le_mul_of_nonneg_right h (Rat.le_of_lt hp), fun h => Rat.le_of_mul_le_mul_right h hp⟩
    rw [g1, g2, e1, Rat.intCast_le_intCast]
    unfold flo
    exact Rat.le_floor_iff
  apply Int.le_antisymm
  · unfold flo
    exact Rat.le_floor_iff.2 ((hm _).1 (Rat.le_floor_iff.1 (Int.le_refl _)))
  · exact Rat.le_floor_iff.2 ((hm _).2 (Rat.le_floor_iff.1 (Int.le_refl _)))
theorem cei_finer (a : Rat) (k n : Nat) : cei (bak (cei a (k + n)) (k + n)) k = cei a k := by
  unfold cei
  rw [bak_neg, Int.neg_neg, flo_finer]
theorem flo_shr (a : Rat) (k n : Nat) : flo a k = flo a (k + n) / ((2 ^ n : Nat) : Int) := by
  rw [← flo_finer a k n, flo_ediv]
  have h0 : (2 ^ n : Nat) ≠ 0 := Nat.ne_of_gt (Nat.pow_pos (by omega))
  have h1 : (2 ^ (k + n) : Nat) ≠ 0 := Nat.ne_of_gt (Nat.pow_pos (by omega))
  have h2 : (2 ^ k : Nat) ≠ 0 := Nat.ne_of_gt (Nat.pow_pos (by omega))
  rw [← flo_ediv, flo, bak]
  have e : mkRat (flo a (k + n)) (2 ^ (k + n)) * dw k = mkRat (flo a (k + n)) (2 ^ n) := by
    unfold dw
    have h3 : ((2 ^ k : Nat) : Rat) = mkRat ((2 ^ k : Nat) : Int) 1 := by rw [Rat.mkRat_one]; rfl
    rw [h3, Rat.mkRat_mul_mkRat, Rat.mkRat_eq_iff (by omega) h0, Nat.pow_add]
    simp only [Nat.mul_one, Int.natCast_mul]
    ac_rfl
  rw [e, floor_mk _ _ h0]
end Go.Proofs.Ytpephogadljncaa

/-
  The contracts of the sixth reference: Back, Floor, Ceil.
-/
namespace Go.Proofs.Ytpephogadljncaa
open Go.RowKit
set_option linter.unusedVariables false
set_option linter.unusedSimpArgs false

/-- A call has answered an integer and a code. -/
def GotZp (w : World) (z : Int) (r : Int) (e : Ending) (w' : World) : Prop := ∃ b A n c, e = .returned (.tuple #[.agg #[.bool b, .slice A n c], .int .i64 r]) ∧ Zn w' b A n c z ∧ Below w.heap.size w w'
theorem len_pow2 {k : Nat} (h : k ≤ 500) : (limbs (2 ^ k)).length ≤ 8 := by
  refine Nat.le_trans (limbs_length_le (k := k / 64 + 1) ?_) (by omega)
  rw [show B64 = 2 ^ 64 from rfl, ← Nat.pow_mul]
  exact Nat.pow_lt_pow_right (by omega) (by omega)
theorem to_nat {j : Int} (h : 0 ≤ j) : ((j.toNat : Nat) : Int) = j := Int.toNat_of_nonneg h
theorem zn_none (w : World) : Zn w false none 0 0 0 := ⟨num_zero w, rfl⟩












theorem flo_len {x : Rat} {j k : Nat} (h : Sz x k) (hj : j ≤ 500) : (limbs (flo x j).natAbs).length ≤ k + 9 := by
  have h1 : (limbs (x.num.natAbs * 2 ^ j)).length ≤ k + 8 := limbs_length_mul h.1 (len_pow2 hj)
  have h2 : (limbs (x.num.natAbs * 2 ^ j / x.den)).length ≤ k + 8 := Nat.le_trans (limbs_length_mono (Nat.div_le_self _ _)) h1
  by_cases hs : x.num < 0
  · rw [flo_neg x j hs, Int.natAbs_neg, Int.natAbs_natCast]
    refine limbs_length_add h2 (Nat.le_trans (len_one (Nat.lt_of_le_of_lt (m := 1) ?_ (by decide))) (by omega))
    split <;> omega
  · rw [flo_pos x j hs, Int.natAbs_natCast]
    omega
theorem cei_len {x : Rat} {j k : Nat} (h : Sz x k) (hj : j ≤ 500) : (limbs (cei x j).natAbs).length ≤ k + 9 := by
  unfold cei; rw [Int.natAbs_neg]; exact flo_len h.neg hj
theorem nea_len {x : Rat} {j k : Nat} (h : Sz x k) (hj : j ≤ 500) : (limbs (nea x j).natAbs).length ≤ k + 9 := by
  rcases nea_one x j with e | e
  · rw [e]; exact flo_len h hj
  · rw [e]; exact cei_len h hj
theorem bak_sz {z : Int} {j k : Nat} (h : (limbs z.natAbs).length ≤ k) (h8 : 8 ≤ k) (hj : j ≤ 500) : Sz (bak z j) k := sz_mk (Nat.ne_of_gt (Nat.pow_pos (by omega))) h (Nat.le_trans (len_pow2 hj) h8)



end Go.Proofs.Ytpephogadljncaa

/-
  The contracts of the sixth reference: odd.
-/
namespace Go.Proofs.Ytpephogadljncaa
open Go.RowKit
set_option linter.unusedVariables false
set_option linter.unusedSimpArgs false

theorem low_mod (x : Nat) (h : x ≠ 0) : ((limbs x)[0]?.getD 0) % 2 = x % 2 := by
  rw [limbs_pos (by omega)]
  show x % B64 % 2 = x % 2
  exact Nat.mod_mod_of_dvd x ⟨9223372036854775808, by decide⟩
theorem abs_mod (z : Int) : z.natAbs % 2 = (z % 2).toNat := by omega




end Go.Proofs.Ytpephogadljncaa

/-
  Numbers on a grid by what is left; the contracts of dyad: isGrid, isOdd, the closures.
-/
namespace Go.Proofs.Ytpephogadljncaa
set_option maxRecDepth 100000
set_option maxHeartbeats 8000000
open Go.RowKit
set_option linter.unusedVariables false
set_option linter.unusedSimpArgs false

theorem zn_minus {w : World} {A : Option Addr} {n c t : Nat} (h : Num w A n c t) (h0 : t ≠ 0) : Zn w true A n c (-(t : Int)) := ⟨by rw [Int.natAbs_neg, Int.natAbs_natCast]; exact h, (decide_eq_true (by omega)).symm⟩
theorem num_void {w : World} {A : Option Addr} {n c t : Nat} (h : Num w A n c t) (h0 : t = 0) : n = 0 := by
  have e := h.len
  rw [h0, limbs_zero] at e; simpa using e
theorem cei_pos (a : Rat) (k : Nat) (h : ¬ a.num < 0) : cei a k = ((a.num.natAbs * 2 ^ k / a.den + (if a.num.natAbs * 2 ^ k % a.den = 0 then 0 else 1) : Nat) : Int) := by
  unfold cei
  by_cases h0 : a.num = 0
  · have e : a.num.natAbs * 2 ^ k = 0 := by rw [h0]; simp
    have h1 : ¬ (-a).num < 0 := by rw [Rat.neg_num]; omega
    rw [flo_pos _ _ h1, Rat.neg_num, Int.natAbs_neg, Rat.neg_den, e]
    simp
  · have h1 : (-a).num < 0 := by rw [Rat.neg_num]; omega
    rw [flo_neg _ _ h1, Rat.neg_num, Int.natAbs_neg, Rat.neg_den, Int.neg_neg]
theorem cei_less (a : Rat) (k : Nat) (h : a.num < 0) : cei a k = -((a.num.natAbs * 2 ^ k / a.den : Nat) : Int) := by
  unfold cei
  have h1 : ¬ (-a).num < 0 := by rw [Rat.neg_num]; omega
  rw [flo_pos _ _ h1, Rat.neg_num, Int.natAbs_neg, Rat.neg_den]
/-- Whether the nearest is one step farther from nought. -/
def fars (u q : Nat) : Bool := decide (q < u % q + u % q) || (decide (u % q + u % q = q) && decide (u / q % 2 = 1))
theorem half_nat (u q : Nat) (hq : 0 < q) (A : Rat) (hA : A * (q : Rat) = (u : Rat)) : nr A = ((u / q + (if fars u q = true then 1 else 0) : Nat) : Int) := by
  have h1 := Nat.div_add_mod u q
  have h2 := Nat.mod_lt u hq
  unfold fars
  generalize u / q = T at h1 ⊢
  generalize u % q = r at h1 h2 ⊢
  have hqp : (0 : Rat) < (q : Rat) := Rat.natCast_pos.2 hq
  have hq0 : (q : Rat) ≠ 0 := by grind
  have e : A = (T : Rat) + (r : Rat) / (q : Rat) := by
    have : (u : Rat) = (q : Rat) * (T : Rat) + (r : Rat) := by rw [← h1, Rat.natCast_add, Rat.natCast_mul]
    grind
  have hr0 : (0 : Rat) ≤ (r : Rat) := Rat.natCast_nonneg
  have eT : ((T : Int) : Rat) = (T : Rat) := rfl
  have o : ((1 : Int) : Rat) = 1 := rfl
  obtain ⟨s, hs⟩ : ∃ s : Rat, (r : Rat) / (q : Rat) = s := ⟨_, rfl⟩
  have hsq : s * (q : Rat) = (r : Rat) := by rw [← hs]; grind
  have twice : ∀ {a b : Nat}, (a : Rat) ≤ (b : Rat) ↔ a ≤ b := fun {a b} => Rat.natCast_le_natCast
  have dbl : s + s = ((r + r : Nat) : Rat) / (q : Rat) := by rw [Rat.natCast_add]; grind
  have hle : s + s ≤ 1 ↔ r + r ≤ q := by
    rw [dbl]
    constructor
    · intro h
      have h3 : ((r + r : Nat) : Rat) ≤ (q : Rat) := by
        have := Rat.mul_le_mul_of_nonneg_right h (Rat.le_of_lt hqp)
        have e2 : ((r + r : Nat) : Rat) / (q : Rat) * (q : Rat) = ((r + r : Nat) : Rat) := by grind
        rw [e2, Rat.one_mul] at this; exact this
      exact twice.1 h3
    · intro h
      have h3 := twice.2 h
      have e2 : ((r + r : Nat) : Rat) / (q : Rat) * (q : Rat) = ((r + r : Nat) : Rat) := by grind
      apply Rat.le_of_mul_le_mul_right _ hqp
      rw [e2, Rat.one_mul]; exact h3
  have hge : 1 ≤ s + s ↔ q ≤ r + r := by
    rw [dbl]
    have e2 : ((r + r : Nat) : Rat) / (q : Rat) * (q : Rat) = ((r + r : Nat) : Rat) := by grind
    constructor
    · intro h
      have := Rat.mul_le_mul_of_nonneg_right h (Rat.le_of_lt hqp)
      rw [e2, Rat.one_mul] at this; exact twice.1 this
    · intro h
      apply Rat.le_of_mul_le_mul_right _ hqp
      rw [e2, Rat.one_mul]; exact twice.2 h
  have hs0 : 0 ≤ s := by
    apply Rat.le_of_mul_le_mul_right _ hqp
    rw [hsq, Rat.zero_mul]; exact hr0
  have hs1 : s < 1 := by
    have : (r : Rat) < (q : Rat) := Rat.natCast_lt_natCast.2 h2
    apply Rat.lt_of_mul_lt_mul_right _ (Rat.le_of_lt hqp)
    rw [hsq, Rat.one_mul]; exact this
  rw [hs] at e
  clear hsq dbl hr0 hqp hq0 hs h1 twice hA
  apply nr_unique
  unfold NrHalf
  subst e
  by_cases c1 : q < r + r
  · have c2 : 1 ≤ s + s := hge.2 (by omega)
    have c3 : ¬ s + s ≤ 1 := fun h => by have := hle.1 h; omega
    simp only [c1, decide_true, Bool.true_or, if_true]
    rw [Int.natCast_add, Rat.intCast_add, eT]
    have o2 : (((1 : Nat) : Int) : Rat) = 1 := rfl
    rw [o2]
    refine ⟨by grind, by grind, ?_⟩
    intro h; exfalso; grind
  · have c3 : s + s ≤ 1 := hle.2 (by omega)
    by_cases c2 : r + r = q
    · have c4 : 1 ≤ s + s := hge.2 (by omega)
      by_cases c5 : T % 2 = 1
      · simp only [c1, c2, c5, decide_true, decide_false, Bool.false_or, Bool.and_self, if_true, Nat.lt_irrefl]
        rw [Int.natCast_add, Rat.intCast_add, eT]
        have o2 : (((1 : Nat) : Int) : Rat) = 1 := rfl
        rw [o2]
        refine ⟨by grind, by grind, ?_⟩
        intro _; omega
      · simp only [c1, c2, c5, decide_true, decide_false, Bool.false_or, Bool.and_false, Nat.lt_irrefl]
        simp only [Bool.false_eq_true, if_false, Nat.add_zero]
        rw [eT]
        refine ⟨by grind, by grind, ?_⟩
        intro _; omega
    · have c4 : ¬ 1 ≤ s + s := fun h => by have := hge.1 h; omega
      simp only [c1, c2, decide_false, Bool.false_or, Bool.false_and]
      simp only [Bool.false_eq_true, if_false, Nat.add_zero]
      rw [eT]
      refine ⟨by grind, by grind, ?_⟩
      intro h; exfalso; grind
theorem sides_dw (a : Rat) (k : Nat) (h : ¬ a.num < 0) : a * dw k * (a.den : Rat) = ((a.num.natAbs * 2 ^ k : Nat) : Rat) := by
  unfold dw
  have h1 : a * (a.den : Rat) = ((a.num : Int) : Rat) := by
    conv => lhs; rw [← Rat.mkRat_self a]
    have h2 : ((a.den : Nat) : Rat) = mkRat ((a.den : Nat) : Int) 1 := by rw [Rat.mkRat_one]; rfl
    have h3 : ((a.num : Int) : Rat) = mkRat a.num 1 := by rw [Rat.mkRat_one]
    have hd := a.den_nz
    rw [Rat.mkRat_self, h3]
    conv => lhs; rw [← Rat.mkRat_self a]
    rw [Rat.mkRat_self]
    conv => lhs; arg 1; rw [← Rat.mkRat_self a]
    rw [h2, Rat.mkRat_mul_mkRat, Rat.mkRat_eq_iff (by omega) (by omega)]
    simp
  have h4 : ((a.num : Int) : Rat) = ((a.num.natAbs : Nat) : Rat) := by
    have : a.num = (a.num.natAbs : Int) := by omega
    conv => lhs; rw [this]
    rfl
  rw [Rat.natCast_mul, ← h4, ← h1]
  generalize ((2 ^ k : Nat) : Rat) = p
  grind
theorem nea_pos (a : Rat) (k : Nat) (h : ¬ a.num < 0) : nea a k = ((a.num.natAbs * 2 ^ k / a.den + (if fars (a.num.natAbs * 2 ^ k) a.den = true then 1 else 0) : Nat) : Int) := by
  unfold nea
  exact half_nat _ _ (Nat.pos_of_ne_zero a.den_nz) _ (sides_dw a k h)
theorem nea_less (a : Rat) (k : Nat) (h : a.num < 0) : nea a k = -((a.num.natAbs * 2 ^ k / a.den + (if fars (a.num.natAbs * 2 ^ k) a.den = true then 1 else 0) : Nat) : Int) := by
  have h1 : ¬ (-a).num < 0 := by rw [Rat.neg_num]; omega
  have e := nea_pos (-a) k h1
  rw [nea_neg, Rat.neg_num, Int.natAbs_neg, Rat.neg_den] at e
  omega

theorem isgrid_0 (w : World) {j : Int} (h : j < 0) :
    Calls Try.prog 99 #[.int .i64 j] w (GotV w (.bool false)) := by
  have t1 : decide (0 ≤ j) = false := decide_eq_false (by omega)
  go_enter Try.func99, Try.ntmps99
  go_wp2_with fail
  go_ret
  exact ⟨rfl, Below.refl _ _⟩

theorem isgrid_1 (w : World) {j : Int} (h0 : 0 ≤ j) (h1 : 2000 < j) :
    Calls Try.prog 99 #[.int .i64 j] w (GotV w (.bool false)) := by
  have t1 : decide (0 ≤ j) = true := decide_eq_true h0
  have t2 : decide (j ≤ 2000) = false := decide_eq_false (by omega)
  go_enter Try.func99, Try.ntmps99
  go_wp2_with fail
  go_ret
  exact ⟨rfl, Below.refl _ _⟩

theorem isgrid_2 (w : World) {j : Int} (h0 : 0 ≤ j) (h1 : j ≤ 2000) :
    Calls Try.prog 99 #[.int .i64 j] w (GotV w (.bool true)) := by
  have t1 : decide (0 ≤ j) = true := decide_eq_true h0
  have t2 : decide (j ≤ 2000) = true := decide_eq_true (by omega)
  go_enter Try.func99, Try.ntmps99
  go_wp2_with fail
  go_ret
  exact ⟨rfl, Below.refl _ _⟩

theorem isgrid_no (w : World) {j : Int} (h : j < 0 ∨ 2000 < j) :
    Calls Try.prog 99 #[.int .i64 j] w (GotV w (.bool false)) := by
  by_cases h0 : 0 ≤ j
  · exact isgrid_1 w h0 (by omega)
  · exact isgrid_0 w (by omega)

theorem disodd_0 {w : World} {A : Option Addr} {n c : Nat} (hn : n = 0) :
    Calls Try.prog 97 #[.slice A n c] w (GotV w (.bool false)) := by
  have t1 : decide ((0 : Int) < (n : Int)) = false := decide_eq_false (by omega)
  have t2 : decide (0 < n) = false := decide_eq_false (by omega)
  clear hn
  have cc := Below.refl w.heap.size w
  go_enter Try.func97, Try.ntmps97
  go_wp2_with fail
  go_ret
  exact ⟨rfl, cc⟩

theorem disodd_1 {w : World} {A : Option Addr} {n c x : Nat} (ha : Num w A n c x) (hn : 0 < n) (r : Bool) (hr : decide (x % 2 = 1) = r) :
    Calls Try.prog 97 #[.slice A n c] w (GotV w (.bool r)) := by
  obtain ⟨bk, off, rfl, hb, hc⟩ := ha.2.2.2 hn
  have h0 := hc 0 hn
  rw [Nat.add_zero] at h0
  have hz : x ≠ 0 := num_ne ha hn
  obtain ⟨v, hv⟩ : ∃ v, ((limbs x)[0]?.getD 0) = v := ⟨_, rfl⟩
  have hm := low_mod x hz
  rw [hv] at h0 hm
  clear hv hc
  have e1 : ((v : Int) % 2 == 1) = r := by rw [← hr, Bool.eq_iff_iff, beq_iff_eq, decide_eq_true_iff]; omega
  have hn2 : 1 ≤ n := hn
  have t1 : decide ((0 : Int) < (n : Int)) = true := decide_eq_true (by omega)
  have t2 : decide (0 < n) = true := decide_eq_true (by omega)
  have cc := Below.refl w.heap.size w
  go_enter Try.func97, Try.ntmps97
  go_wp2_with fail
  go_ret
  exact ⟨rfl, cc⟩

theorem disodd_N {w : World} {A : Option Addr} {n c x : Nat} (r : Bool) (ha : Num w A n c x) (hr : decide (x % 2 = 1) = r) :
    Calls Try.prog 97 #[.slice A n c] w (GotV w (.bool r)) := by
  rcases Nat.eq_zero_or_pos n with hn | hn
  · have : x = 0 := by
      have e := ha.len
      rw [hn] at e
      have e2 := List.length_eq_zero_iff.1 e.symm
      rw [← val_limbs x, e2, val_nil]
    subst this
    simp at hr
    subst hr
    exact disodd_0 hn
  · exact disodd_1 ha hn r hr







theorem knear_gt {w : World} {g n c m d x y : Nat} {A B : Option Addr} {b0 : Bool} {A0 B0 : Option Addr} {n0 c0 m0 d0 q : Nat} (r0 : w.cell? ⟨g, 0, none⟩ = some (.bool b0)) (r1 : w.cell? ⟨g, 1, none⟩ = some (.slice A0 n0 c0)) (r2 : w.cell? ⟨g, 2, none⟩ = some (.slice B0 m0 d0)) (ha : Num w A n c x) (hb : Num w B m d y) (hq : Num w B0 m0 d0 q) (ly : (limbs y).length ≤ 299) (lq : (limbs q).length ≤ 300) (hy : q < y + y) :
    Calls Try.prog 96 #[.slice A n c, .slice B m d, .pointer (some ⟨g, 0, none⟩)] w (GotV w (.bool true)) := by
  have ll : (limbs (y + y)).length ≤ 300 := limbs_length_add ly ly
  have hc : cmpN (y + y) q = 1 := cmpN_gt hy
  have hrl := cell_lt r2
  simp only at hrl
  have CC : ∀ {W : World} {A B : Option Addr} {n c m d : Nat}, Num W A n c (y + y) → Num W B m d q → Calls Try.prog 34 #[.slice A n c, .slice B m d] W (GotV W (.int .i64 (1))) := fun hu hv => by rw [← hc]; exact cmp_N hu hv (by omega) (by omega)
  clear hc hy
  have rl := hrl
  clear hrl
  have cc := Below.refl w.heap.size w
  go_enter Try.func96, Try.ntmps96
  go_wp2_with fail
  have qq : Below w.heap.size w w.drew := below_drewN (Below.refl _ w) 1
  have ha' := ha.on qq
  have hb' := hb.on qq
  have hq' := hq.on qq
  go_region_held3 (fun w' => w'.cell? ⟨g, 0, none⟩ = some (.bool b0) ∧ w'.cell? ⟨g, 1, none⟩ = some (.slice A0 n0 c0) ∧ w'.cell? ⟨g, 2, none⟩ = some (.slice B0 m0 d0))
    (first | with_reducible exact ⟨cK qq r0 rl, cK qq r1 rl, cK qq r2 rl⟩ | go_keep)
    (first
      | (go_at_call 29; (with_reducible refine (add_N hb' hb' (by omega) (by omega)).mono ?_); rintro e wz ⟨As, ns, cs, rfl, s, q⟩; replace qq := bK qq q; (try replace ha' := ha'.on q); (try replace hb' := hb'.on q); (try replace hq' := hq'.on q); clear q)
      | (go_at_call 34; (with_reducible refine (CC s hq').mono ?_); rintro e wz ⟨rfl, q⟩; replace qq := bK qq q; (try replace ha' := ha'.on q); (try replace hb' := hb'.on q); (try replace hq' := hq'.on q); (try replace s := s.on q); clear q))
  clear ha
  have ha := ha'
  clear ha'
  clear hb
  have hb := hb'
  clear hb'
  clear hq
  have hq := hq'
  clear hq'
  rewrite [cR qq rl] at r0 r1 r2
  replace rl := lK qq rl
  replace cc := bK cc qq
  clear qq
  go_wp2_with fail
  go_ret
  exact ⟨rfl, cc⟩

theorem knear_eq {w : World} {g n c m d x y : Nat} {A B : Option Addr} {b0 : Bool} {A0 B0 : Option Addr} {n0 c0 m0 d0 q : Nat} (r0 : w.cell? ⟨g, 0, none⟩ = some (.bool b0)) (r1 : w.cell? ⟨g, 1, none⟩ = some (.slice A0 n0 c0)) (r2 : w.cell? ⟨g, 2, none⟩ = some (.slice B0 m0 d0)) (ha : Num w A n c x) (hb : Num w B m d y) (hq : Num w B0 m0 d0 q) (ly : (limbs y).length ≤ 299) (lq : (limbs q).length ≤ 300) (hy : y + y = q) (r : Bool) (hr : decide (x % 2 = 1) = r) :
    Calls Try.prog 96 #[.slice A n c, .slice B m d, .pointer (some ⟨g, 0, none⟩)] w (GotV w (.bool r)) := by
  have ll : (limbs (y + y)).length ≤ 300 := limbs_length_add ly ly
  have hc : cmpN (y + y) q = 0 := cmpN_zero.2 hy
  have hrl := cell_lt r2
  simp only at hrl
  have CC : ∀ {W : World} {A B : Option Addr} {n c m d : Nat}, Num W A n c (y + y) → Num W B m d q → Calls Try.prog 34 #[.slice A n c, .slice B m d] W (GotV W (.int .i64 (0))) := fun hu hv => by rw [← hc]; exact cmp_N hu hv (by omega) (by omega)
  clear hc hy
  have rl := hrl
  clear hrl
  have cc := Below.refl w.heap.size w
  go_enter Try.func96, Try.ntmps96
  go_wp2_with fail
  have qq : Below w.heap.size w w.drew := below_drewN (Below.refl _ w) 1
  have ha' := ha.on qq
  have hb' := hb.on qq
  have hq' := hq.on qq
  go_region_held3 (fun w' => w'.cell? ⟨g, 0, none⟩ = some (.bool b0) ∧ w'.cell? ⟨g, 1, none⟩ = some (.slice A0 n0 c0) ∧ w'.cell? ⟨g, 2, none⟩ = some (.slice B0 m0 d0))
    (first | with_reducible exact ⟨cK qq r0 rl, cK qq r1 rl, cK qq r2 rl⟩ | go_keep)
    (first
      | (go_at_call 29; (with_reducible refine (add_N hb' hb' (by omega) (by omega)).mono ?_); rintro e wz ⟨As, ns, cs, rfl, s, q⟩; replace qq := bK qq q; (try replace ha' := ha'.on q); (try replace hb' := hb'.on q); (try replace hq' := hq'.on q); clear q)
      | (go_at_call 34; (with_reducible refine (CC s hq').mono ?_); rintro e wz ⟨rfl, q⟩; replace qq := bK qq q; (try replace ha' := ha'.on q); (try replace hb' := hb'.on q); (try replace hq' := hq'.on q); (try replace s := s.on q); clear q))
  clear ha
  have ha := ha'
  clear ha'
  clear hb
  have hb := hb'
  clear hb'
  clear hq
  have hq := hq'
  clear hq'
  rewrite [cR qq rl] at r0 r1 r2
  replace rl := lK qq rl
  replace cc := bK cc qq
  clear qq
  go_wp2_with fail
  refine (disodd_N r ha hr).mono ?_
  rintro e w9 ⟨rfl, b⟩
  replace ha := ha.on b
  replace hb := hb.on b
  replace hq := hq.on b
  rewrite [cR b rl] at r0 r1 r2
  replace rl := lK b rl
  replace cc := bK cc b
  clear b
  go_wp2_with fail
  go_ret
  exact ⟨rfl, cc⟩

theorem knear_lt {w : World} {g n c m d x y : Nat} {A B : Option Addr} {b0 : Bool} {A0 B0 : Option Addr} {n0 c0 m0 d0 q : Nat} (r0 : w.cell? ⟨g, 0, none⟩ = some (.bool b0)) (r1 : w.cell? ⟨g, 1, none⟩ = some (.slice A0 n0 c0)) (r2 : w.cell? ⟨g, 2, none⟩ = some (.slice B0 m0 d0)) (ha : Num w A n c x) (hb : Num w B m d y) (hq : Num w B0 m0 d0 q) (ly : (limbs y).length ≤ 299) (lq : (limbs q).length ≤ 300) (hy : y + y < q) :
    Calls Try.prog 96 #[.slice A n c, .slice B m d, .pointer (some ⟨g, 0, none⟩)] w (GotV w (.bool false)) := by
  have ll : (limbs (y + y)).length ≤ 300 := limbs_length_add ly ly
  have hc : cmpN (y + y) q = -1 := cmpN_lt hy
  have hrl := cell_lt r2
  simp only at hrl
  have CC : ∀ {W : World} {A B : Option Addr} {n c m d : Nat}, Num W A n c (y + y) → Num W B m d q → Calls Try.prog 34 #[.slice A n c, .slice B m d] W (GotV W (.int .i64 (-1))) := fun hu hv => by rw [← hc]; exact cmp_N hu hv (by omega) (by omega)
  clear hc hy
  have rl := hrl
  clear hrl
  have cc := Below.refl w.heap.size w
  go_enter Try.func96, Try.ntmps96
  go_wp2_with fail
  have qq : Below w.heap.size w w.drew := below_drewN (Below.refl _ w) 1
  have ha' := ha.on qq
  have hb' := hb.on qq
  have hq' := hq.on qq
  go_region_held3 (fun w' => w'.cell? ⟨g, 0, none⟩ = some (.bool b0) ∧ w'.cell? ⟨g, 1, none⟩ = some (.slice A0 n0 c0) ∧ w'.cell? ⟨g, 2, none⟩ = some (.slice B0 m0 d0))
    (first | with_reducible exact ⟨cK qq r0 rl, cK qq r1 rl, cK qq r2 rl⟩ | go_keep)
    (first
      | (go_at_call 29; (with_reducible refine (add_N hb' hb' (by omega) (by omega)).mono ?_); rintro e wz ⟨As, ns, cs, rfl, s, q⟩; replace qq := bK qq q; (try replace ha' := ha'.on q); (try replace hb' := hb'.on q); (try replace hq' := hq'.on q); clear q)
      | (go_at_call 34; (with_reducible refine (CC s hq').mono ?_); rintro e wz ⟨rfl, q⟩; replace qq := bK qq q; (try replace ha' := ha'.on q); (try replace hb' := hb'.on q); (try replace hq' := hq'.on q); (try replace s := s.on q); clear q))
  clear ha
  have ha := ha'
  clear ha'
  clear hb
  have hb := hb'
  clear hb'
  clear hq
  have hq := hq'
  clear hq'
  rewrite [cR qq rl] at r0 r1 r2
  replace rl := lK qq rl
  replace cc := bK cc qq
  clear qq
  go_wp2_with fail
  go_ret
  exact ⟨rfl, cc⟩

theorem knear_N {w : World} {g n c m d : Nat} {A B : Option Addr} {b0 : Bool} {A0 B0 : Option Addr} {n0 c0 m0 d0 q u : Nat} (r0 : w.cell? ⟨g, 0, none⟩ = some (.bool b0)) (r1 : w.cell? ⟨g, 1, none⟩ = some (.slice A0 n0 c0)) (r2 : w.cell? ⟨g, 2, none⟩ = some (.slice B0 m0 d0)) (ha : Num w A n c (u / q)) (hb : Num w B m d (u % q)) (hq : Num w B0 m0 d0 q) (ly : (limbs (u % q)).length ≤ 299) (lq : (limbs q).length ≤ 300) :
    Calls Try.prog 96 #[.slice A n c, .slice B m d, .pointer (some ⟨g, 0, none⟩)] w (GotV w (.bool (fars u q))) := by
  unfold fars
  rcases Nat.lt_trichotomy q (u % q + u % q) with h | h | h
  · have e : (decide (q < u % q + u % q) || (decide (u % q + u % q = q) && decide (u / q % 2 = 1))) = true := by rw [decide_eq_true h]; rfl
    rw [e]; exact knear_gt r0 r1 r2 ha hb hq ly lq h
  · have e : (decide (q < u % q + u % q) || (decide (u % q + u % q = q) && decide (u / q % 2 = 1))) = decide (u / q % 2 = 1) := by rw [decide_eq_false (show ¬ q < u % q + u % q by omega), decide_eq_true h.symm]; simp
    rw [e]; exact knear_eq r0 r1 r2 ha hb hq ly lq h.symm _ rfl
  · have e : (decide (q < u % q + u % q) || (decide (u % q + u % q = q) && decide (u / q % 2 = 1))) = false := by rw [decide_eq_false (show ¬ q < u % q + u % q by omega), decide_eq_false (show ¬ u % q + u % q = q by omega)]; rfl
    rw [e]; exact knear_lt r0 r1 r2 ha hb hq ly lq h

end Go.Proofs.Ytpephogadljncaa

/-
  Numbers rounded to the nearest, ties to even: what fix tells.
-/
namespace Go.Proofs.Ytpephogadljncaa
set_option linter.unusedSimpArgs false
set_option linter.unusedVariables false

theorem mk_times (n : Int) (d : Nat) (hd : d ≠ 0) : mkRat n d * ((d : Nat) : Rat) = (n : Rat) := by
  have h2 : ((d : Nat) : Rat) = mkRat ((d : Nat) : Int) 1 := by rw [Rat.mkRat_one]; rfl
  have h3 : (n : Rat) = mkRat n 1 := by rw [Rat.mkRat_one]
  rw [h2, h3, Rat.mkRat_mul_mkRat, Rat.mkRat_eq_iff (by omega) (by decide)]
  simp
theorem nat_pos_rat {d : Nat} (hd : d ≠ 0) : (0 : Rat) < ((d : Nat) : Rat) := Rat.natCast_pos.2 (by omega)
theorem mk_of {A : Rat} {n : Int} {d : Nat} (hd : d ≠ 0) (h : A * ((d : Nat) : Rat) = (n : Rat)) : A = mkRat n d := by
  have h1 := mk_times n d hd
  have h2 := nat_pos_rat hd
  have e := h.trans h1.symm
  exact Rat.le_antisymm (Rat.le_of_mul_le_mul_right (by rw [e]; exact Rat.le_refl) h2) (Rat.le_of_mul_le_mul_right (by rw [e]; exact Rat.le_refl) h2)
/-- A whole number by another one, to the nearest, ties to even. -/
def rn (n : Int) (d : Nat) : Int := nr (mkRat n d)
theorem rn_of {A : Rat} {n : Int} {d : Nat} (hd : d ≠ 0) (h : A * ((d : Nat) : Rat) = (n : Rat)) : nr A = rn n d := by rw [mk_of hd h]; rfl
theorem rn_neg (n : Int) {d : Nat} (hd : d ≠ 0) : rn (-n) d = -rn n d := by
  have h : -mkRat n d = mkRat (-n) d := mk_of hd (by rw [Rat.neg_mul, mk_times n d hd, Rat.intCast_neg])
  unfold rn
  rw [← h, nr_neg]
theorem rn_mono {n m : Int} {d : Nat} (hd : d ≠ 0) (h : n ≤ m) : rn n d ≤ rn m d := by
  refine nr_mono ?_
  apply Rat.le_of_mul_le_mul_right (c := ((d : Nat) : Rat)) _ (nat_pos_rat hd)
  rw [mk_times n d hd, mk_times m d hd]
  exact Rat.intCast_le_intCast.2 h
theorem rn_self (a : Int) {d : Nat} (hd : d ≠ 0) : rn (a * (d : Int)) d = a := by
  have h : (a : Rat) = mkRat (a * (d : Int)) d := mk_of hd (by rw [Rat.intCast_mul]; rfl)
  unfold rn
  rw [← h, nr_int]
theorem rn_nat (u d : Nat) (hd : d ≠ 0) : rn (u : Int) d = ((u / d + (if fars u d = true then 1 else 0) : Nat) : Int) := half_nat u d (by omega) _ (by rw [mk_times _ d hd]; rfl)
theorem rn_one (n : Int) : rn n 1 = n := by have := rn_self n (d := 1) (by omega); simpa using this
/-- What fix's calls tell. -/
theorem nea_sum (a b : Int) : nea ((a : Rat) + (b : Rat)) 0 = a + b := by
  unfold nea dw
  have : ((a : Rat) + (b : Rat)) * ((2 ^ 0 : Nat) : Rat) = ((a + b : Int) : Rat) := by rw [Rat.intCast_add]; simp
  rw [this, nr_int]
theorem nea_diff (a b : Int) : nea ((a : Rat) - (b : Rat)) 0 = a - b := by
  unfold nea dw
  have : ((a : Rat) - (b : Rat)) * ((2 ^ 0 : Nat) : Rat) = ((a - b : Int) : Rat) := by rw [Rat.intCast_sub]; simp
  rw [this, nr_int]
theorem pow_ne (k : Nat) : 2 ^ k ≠ 0 := Nat.ne_of_gt (Nat.pow_pos (by omega))
theorem nea_prod (a b : Int) (k : Nat) : nea (bak a k * bak b k) k = rn (a * b) (2 ^ k) := by
  unfold nea
  refine rn_of (pow_ne k) ?_
  have h1 := bak_mul a k
  have h2 := bak_mul b k
  rw [Rat.intCast_mul, ← h1, ← h2]
  show bak a k * bak b k * dw k * dw k = _
  grind
theorem nea_quot (a b : Int) (k : Nat) (hb : b ≠ 0) : nea ((a : Rat) / (b : Rat)) k = rn (b.sign * (a * ((2 ^ k : Nat) : Int))) b.natAbs := by
  unfold nea
  refine rn_of (by omega) ?_
  have h0 : (b : Rat) ≠ 0 := fun h => hb (Rat.intCast_eq_zero_iff.1 h)
  have h1 : ((b.natAbs : Nat) : Rat) = ((b.sign * b : Int) : Rat) := by
    have : ((b.natAbs : Nat) : Int) = b.sign * b := by
      rcases Int.lt_trichotomy b 0 with h | h | h
      · rw [Int.sign_eq_neg_one_of_neg h]; omega
      · omega
      · rw [Int.sign_eq_one_of_pos h]; omega
    rw [← this]; rfl
  have h2 : dw k = (((2 ^ k : Nat) : Int) : Rat) := rfl
  rw [h1, Rat.intCast_mul, Rat.intCast_mul, Rat.intCast_mul, ← h2]
  generalize (b.sign : Rat) = s
  grind
theorem nea_scale (a n : Int) (d : Nat) (hd : d ≠ 0) : nea ((a : Rat) * (n : Rat) / ((d : Int) : Rat)) 0 = rn (a * n) d := by
  unfold nea
  refine rn_of hd ?_
  have h0 := nat_pos_rat hd
  have h1 : ((d : Int) : Rat) = ((d : Nat) : Rat) := rfl
  have h2 : dw 0 = 1 := rfl
  rw [h1, h2, Rat.intCast_mul]
  grind
end Go.Proofs.Ytpephogadljncaa

/-
  The contracts of the sixth reference: Near.
-/
namespace Go.Proofs.Ytpephogadljncaa
open Go.RowKit
set_option linter.unusedVariables false
set_option linter.unusedSimpArgs false







end Go.Proofs.Ytpephogadljncaa

/-
  The contracts of the eighth reference: near, frac, Of, Rat.
-/
namespace Go.Proofs.Ytpephogadljncaa
open Go.RowKit
set_option linter.unusedVariables false
set_option linter.unusedSimpArgs false

/-- What is told of a whole number: itself, where 64 bits hold it; else 0 and ErrRange. -/
def nI (z : Int) : Int := if -9223372036854775808 ≤ z ∧ z ≤ 9223372036854775807 then z else 0
def nE (z : Int) : Int := if -9223372036854775808 ≤ z ∧ z ≤ 9223372036854775807 then 0 else 2
theorem nI_yes {z : Int} (h : I64 z) : nI z = z ∧ nE z = 0 := ⟨if_pos h, if_pos h⟩
theorem nI_no {z : Int} (h : ¬ I64 z) : nI z = 0 ∧ nE z = 2 := ⟨if_neg h, if_neg h⟩












end Go.Proofs.Ytpephogadljncaa
