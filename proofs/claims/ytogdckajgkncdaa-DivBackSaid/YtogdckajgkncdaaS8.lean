/-
  The contract of div's takeOff, and the arithmetic of a round of the long division.
-/
import Derived.Test.YtogdckajgkncdaaS7
namespace Go.Proofs.Ytogdckajgkncdaa
open Go.RowKit

theorem Win.lim {w : World} {base g N cap i cr n : Nat} {pre P post : List Nat} (h : Win w base g N cap pre P post) (hi : pre.length = i) (hP : Dig P) (lP : P.length = n) (hcr : n ≤ cr) : Lim w.heap.size w (some ⟨g, i, none⟩) n cr P := by
  refine ⟨lP.symm, hcr, hP, fun _ => ⟨g, i, rfl, (World.ownsRow.lt h g rfl).2, fun j hj => ?_⟩⟩
  have hlN : (pre ++ (P ++ post)).length = N := by have := h.1; simpa using this
  rw [World.ownsRow.cellAt h (i + j) (by simp at hlN; omega), win_get hi (by omega)]

theorem grown_of_below {w w' : World} {row : Option Nat} (h : Below w.heap.size w w') : w.grownBy w' row := ⟨h.os, h.tape, h.output, h.size, fun k hk _ => h.block k hk⟩

theorem pred_wrap {t : Nat} (h0 : t ≠ 0) (ht : t < B64) : IntKind.u64.wrap ((t : Int) - 1) = ((t - 1 : Nat) : Int) := by
  rw [IntKind.wrap_u64]
  unfold B64 at ht
  omega

theorem ret_u64 {a b : Int} (h : a = b) : Ending.returned (.int .u64 a) = .returned (.int .u64 b) := by rw [h]

set_option maxRecDepth 100000 in
set_option maxHeartbeats 2000000 in
theorem take_N (w : World) (base g N cap i cr b o cb k : Nat) (pre P post Dl : List Nat) (hW : Win w base g N cap pre P post) (hi : pre.length = i) (hP : Dig P) (lP : P.length = k + 2) (hcr : k + 2 ≤ cr) (hD : Lim w.heap.size w (some ⟨b, o, none⟩) (k + 1) cb Dl) (hne : b ≠ g) (hk : k ≤ 100000) (hin : i ≤ 1000000)
    (top : B64 ≤ 2 * Dl[k]?.getD 0) (hlt : val P < B64 * val Dl) :
    Calls Try.prog 40 #[.slice (some ⟨g, i, none⟩) (k + 2) cr, .slice (some ⟨b, o, none⟩) (k + 1) cb] w fun e w' => ∃ Q, e = .returned (.int .u64 ((val P / val Dl : Nat) : Int)) ∧ Dig Q ∧ Q.length = k + 2 ∧ val Q = val P % val Dl ∧ Win w' base g N cap pre Q post ∧ w.grownBy w' (some g) := by
  have hR := hW.lim hi hP lP hcr
  have hDlt : val Dl < B64 ^ (k + 1) := by rw [hD.1]; exact val_lt hD.2.2.1
  have hDM : val Dl ≤ B64 ^ (k + 2) := Nat.le_trans (Nat.le_of_lt hDlt) (Nat.pow_le_pow_right B64_pos (by omega))
  have HDM := Lib.hid hDM
  have HI := Lib.hid hi
  have HL := Lib.hid lP
  clear hDlt hDM hi lP
  go_enter Try.func40, Try.ntmps40
  go_wp2_with fail
  refine (guess_N w g i cr b o cb k P Dl hR hD (by omega) top hlt).mono ?_
  rintro e w1 ⟨t, rfl, hG, hB⟩
  have hW1 : Win w1 base g N cap pre P post := ownsRow_below hW hB
  have hD1 := hD.on hB
  have ht := hG.2.2
  have HG := Lib.hid hG
  have HB := Lib.hid (grown_of_below (row := some g) hB)
  clear hW hD hR hG hB
  go_wp2_with fail
  refine (less_N w1 base g N cap i cr b o cb (k + 1) t pre P post Dl hW1 HI.out hP HL.out hD1 hne (by omega) ht hin).mono ?_
  rintro e w2 ⟨Q, hQd, hQl, hW2, hg2, hcase⟩
  have HQL := Lib.hid hQl
  have HG2 := Lib.hid hg2
  clear hQl
  rcases hcase with ⟨rfl, hv⟩ | ⟨rfl, hv⟩
  · obtain ⟨e1, e2⟩ := good_zero HG.out hv
    have E1 := Lib.hid e1
    have E2 := Lib.hid e2
    clear hv e1 e2 hg2
    go_wp2_with fail
    go_ret
    exact ⟨Q, by rw [E1.out]; rfl, hQd, HQL.out, E2.out.symm, hW2, HB.out.trans HG2.out⟩
  · have hD2 := (hD1.apart hg2 hne (Nat.le_refl _)).more hg2.size
    have HV := Lib.hid hv
    clear hv hg2
    go_wp2_with fail
    refine (back_N w2 base g N cap i cr b o cb (k + 1) pre Q post Dl hW2 HI.out hQd HQL.out hD2 hne (by omega) hin).mono ?_
    rintro e w3 ⟨rfl, Q2, v, hQ2, hQ2l, hW3, hg3, hv3⟩
    have hvlt : val Q < B64 ^ (k + 2) := by have := val_lt hQd; rw [HQL.out] at this; exact this
    have hv2lt : val Q2 < B64 ^ (k + 2) := by have := val_lt hQ2; rw [hQ2l] at this; exact this
    obtain ⟨t0, e1, e2⟩ := good_one HG.out HV.out hvlt HDM.out hv3 hv2lt
    have E1 := Lib.hid e1
    have E2 := Lib.hid e2
    have HQ2 := Lib.hid hQ2l
    have HT0 := Lib.hid t0
    have HG3 := Lib.hid hg3
    clear e1 e2 hv3 hvlt hv2lt t0 hQ2l hg3 HV
    go_wp2_with fail
    go_ret
    refine ⟨Q2, ?_, hQ2, HQ2.out, E2.out.symm, hW3, (HB.out.trans HG2.out).trans HG3.out⟩
    rw [E1.out]
    exact ret_u64 (pred_wrap HT0.out ht)

/-- A round of the division: what the window holds, and what becomes of the row. -/
theorem long_step {Rl : List Nat} {t k D : Nat} (hR : Dig Rl) (hD : D < B64 ^ (k + 1)) (hD0 : 0 < D) (hl : t + (k + 2) ≤ Rl.length) (hlt : val Rl < D * B64 ^ (t + 1)) :
    val ((Rl.drop t).take (k + 2)) < B64 * D ∧ ∀ Q : List Nat, Q.length = k + 2 → val Q = val ((Rl.drop t).take (k + 2)) % D →
      val (Rl.take t ++ (Q ++ Rl.drop (t + (k + 2)))) + D * (B64 ^ t * (val ((Rl.drop t).take (k + 2)) / D)) = val Rl ∧ val (Rl.take t ++ (Q ++ Rl.drop (t + (k + 2)))) < D * B64 ^ t := by
  have e0 : Rl = Rl.take t ++ ((Rl.drop t).take (k + 2) ++ Rl.drop (t + (k + 2))) := by
    rw [← List.drop_drop, List.take_append_drop, List.take_append_drop]
  have lt : (Rl.take t).length = t := by rw [List.length_take, Nat.min_eq_left (by omega)]
  have lP : ((Rl.drop t).take (k + 2)).length = k + 2 := by rw [List.length_take, List.length_drop, Nat.min_eq_left (by omega)]
  have hpre : val (Rl.take t) < B64 ^ t := by have := val_lt (hR.take t); rw [lt] at this; exact this
  have ev : val Rl = val (Rl.take t) + B64 ^ t * (val ((Rl.drop t).take (k + 2)) + B64 ^ (k + 2) * val (Rl.drop (t + (k + 2)))) := by
    have h := congrArg val e0
    rw [val_append, val_append, lt, lP] at h
    exact h
  have hBt : 0 < B64 ^ t := Nat.pow_pos B64_pos
  generalize hp : val (Rl.take t) = pre at *
  generalize hP : val ((Rl.drop t).take (k + 2)) = P at *
  generalize hpo : val (Rl.drop (t + (k + 2))) = po at *
  generalize val Rl = X at *
  have h1 : P + B64 ^ (k + 2) * po < D * B64 := by
    rcases Nat.lt_or_ge (P + B64 ^ (k + 2) * po) (D * B64) with h | h
    · exact h
    · have h2 : B64 ^ t * (D * B64) ≤ B64 ^ t * (P + B64 ^ (k + 2) * po) := Nat.mul_le_mul_left _ h
      have h3 : D * B64 ^ (t + 1) = B64 ^ t * (D * B64) := by rw [Nat.pow_succ]; ac_rfl
      omega
  have h2 : D * B64 ≤ B64 ^ (k + 2) := by
    rw [Nat.pow_succ B64 (k + 1)]
    exact Nat.mul_le_mul_right _ (Nat.le_of_lt hD)
  have hpo0 : po = 0 := by
    rcases Nat.eq_zero_or_pos po with h | h
    · exact h
    · have h3 : B64 ^ (k + 2) * 1 ≤ B64 ^ (k + 2) * po := Nat.mul_le_mul_left _ h
      rw [Nat.mul_one] at h3
      omega
  subst hpo0
  rw [Nat.mul_zero, Nat.add_zero] at h1 ev
  refine ⟨by rw [Nat.mul_comm]; exact h1, fun Q hQ hv => ?_⟩
  rw [val_append, val_append, lt, hp, hQ, hpo, hv, Nat.mul_zero, Nat.add_zero]
  have h4 := Nat.mod_add_div P D
  have h5 := Nat.mod_lt P hD0
  generalize P % D = m at *
  generalize P / D = q at *
  have h6 : D * (B64 ^ t * q) = B64 ^ t * (D * q) := by ac_rfl
  have h7 : B64 ^ t * (m + D * q) = B64 ^ t * m + B64 ^ t * (D * q) := Nat.mul_add ..
  rw [h4] at h7
  refine ⟨by rw [h6]; omega, ?_⟩
  have h8 : B64 ^ t * (m + 1) ≤ B64 ^ t * D := Nat.mul_le_mul_left _ h5
  rw [Nat.mul_add, Nat.mul_one] at h8
  rw [Nat.mul_comm D]
  omega

/-- The divisor's top bit is set by the shift. -/
theorem norm_top {y k s : Nat} (hl : (limbs y).length = k + 1) (hs : s = 64 - blen ((limbs y)[k]?.getD 0)) : s < 64 ∧ y * 2 ^ s < B64 ^ (k + 1) ∧ (limbs (y * 2 ^ s)).length = k + 1 ∧ B64 ≤ 2 * (limbs (y * 2 ^ s))[k]?.getD 0 := by
  have hd := limbs_dig y
  have hv : val ((limbs y).take k) + B64 ^ k * (limbs y)[k]?.getD 0 = y := by rw [← val_take_succ, List.take_of_length_le (by omega), val_limbs]
  have hlo : val ((limbs y).take k) < B64 ^ k := by have := val_lt (hd.take k); rw [List.length_take, Nat.min_eq_left (by omega)] at this; exact this
  have htl : (limbs y)[k]?.getD 0 < B64 := hd.get k
  have ht0 : (limbs y)[k]?.getD 0 ≠ 0 := fun h => by
    have hge := limbs_ge (n := y) (by omega)
    rw [hl, Nat.add_sub_cancel] at hge
    rw [h, Nat.mul_zero, Nat.add_zero] at hv
    omega
  generalize (limbs y)[k]?.getD 0 = T at *
  have hb1 := blen_pos ht0
  have hb2 : blen T ≤ 64 := blen_le (by rw [← B64_two]; exact htl)
  have hs64 : s < 64 := by omega
  have h1 : T + 1 ≤ 2 ^ blen T := lt_blen T
  have h2 := blen_ge ht0
  have e1 : 2 ^ blen T * 2 ^ s = B64 := by rw [B64_two, ← Nat.pow_add]; congr 1; omega
  have e2 : 2 * (2 ^ (blen T - 1) * 2 ^ s) = B64 := by
    rw [← e1, ← Nat.mul_assoc]
    congr 1
    rw [Nat.mul_comm, ← Nat.pow_succ]
    congr 1
    omega
  have h3 : (T + 1) * 2 ^ s ≤ B64 := by rw [← e1]; exact Nat.mul_le_mul_right _ h1
  have h4 : B64 ≤ 2 * (T * 2 ^ s) := by rw [← e2]; exact Nat.mul_le_mul_left _ (Nat.mul_le_mul_right _ h2)
  have hp : 0 < 2 ^ s := Nat.pow_pos (by omega)
  have h5 : y * 2 ^ s < B64 ^ (k + 1) := by
    have h6 : y < B64 ^ k * (T + 1) := by rw [Nat.mul_add, Nat.mul_one]; omega
    have h7 : y * 2 ^ s < B64 ^ k * (T + 1) * 2 ^ s := Nat.mul_lt_mul_of_pos_right h6 hp
    have h8 : B64 ^ k * ((T + 1) * 2 ^ s) ≤ B64 ^ k * B64 := Nat.mul_le_mul_left _ h3
    rw [Nat.pow_succ]
    rw [Nat.mul_assoc] at h7
    omega
  have h6 : B64 ^ k * (T * 2 ^ s) ≤ y * 2 ^ s := by
    rw [← Nat.mul_assoc]
    exact Nat.mul_le_mul_right _ (by omega)
  have hBk : 0 < B64 ^ k := Nat.pow_pos B64_pos
  have hlen : (limbs (y * 2 ^ s)).length = k + 1 := by
    have a := limbs_length_le h5
    rcases Nat.lt_or_ge (limbs (y * 2 ^ s)).length (k + 1) with b | b
    · have c := lt_of_limbs_length (n := y * 2 ^ s) (k := k) (by omega)
      have d : B64 ^ k * 1 ≤ B64 ^ k * (T * 2 ^ s) := Nat.mul_le_mul_left _ (by have := B64_pos; omega)
      omega
    · omega
  refine ⟨hs64, h5, hlen, ?_⟩
  rw [limbs_get]
  unfold dig
  have h7 : y * 2 ^ s / B64 ^ k < B64 := by rw [Nat.div_lt_iff_lt_mul hBk, Nat.mul_comm B64, ← Nat.pow_succ]; exact h5
  rw [Nat.mod_eq_of_lt h7]
  have h8 : T * 2 ^ s ≤ y * 2 ^ s / B64 ^ k := by rw [Nat.le_div_iff_mul_le hBk, Nat.mul_comm _ (B64 ^ k)]; exact h6
  omega

/-- The end of the division. -/
theorem long_end {x y s R q : Nat} (hy : 0 < y) (hR : R < y * 2 ^ s) (e : R + y * 2 ^ s * q = x * 2 ^ s) : q = x / y ∧ R / 2 ^ s = x % y := by
  have hp : 0 < 2 ^ s := Nat.pow_pos (by omega)
  have hD : 0 < y * 2 ^ s := Nat.mul_pos hy hp
  have h1 : x * 2 ^ s / (y * 2 ^ s) = q := by rw [← e, Nat.add_mul_div_left _ _ hD, Nat.div_eq_of_lt hR, Nat.zero_add]
  have h2 : x * 2 ^ s % (y * 2 ^ s) = R := by rw [← e, Nat.add_mul_mod_self_left, Nat.mod_eq_of_lt hR]
  rw [Nat.mul_div_mul_right _ _ hp] at h1
  rw [Nat.mul_mod_mul_right] at h2
  exact ⟨h1.symm, by rw [← h2, Nat.mul_div_cancel _ hp]⟩

theorem long_start {x y k n s : Nat} (hn : (limbs x).length = n) (hl : (limbs y).length = k + 1) (hkn : k + 1 ≤ n) : x * 2 ^ s < y * 2 ^ s * B64 ^ (n - (k + 1) + 1) := by
  have h1 : x < B64 ^ n := lt_of_limbs_length (by omega)
  have h2 := limbs_ge (n := y) (by omega)
  rw [hl, Nat.add_sub_cancel] at h2
  have h3 : B64 ^ k * B64 ^ (n - (k + 1) + 1) ≤ y * B64 ^ (n - (k + 1) + 1) := Nat.mul_le_mul_right _ h2
  rw [← Nat.pow_add, show k + (n - (k + 1) + 1) = n by omega] at h3
  have h4 : y * 2 ^ s * B64 ^ (n - (k + 1) + 1) = y * B64 ^ (n - (k + 1) + 1) * 2 ^ s := by ac_rfl
  rw [h4]
  exact Nat.mul_lt_mul_of_pos_right (by omega) (Nat.pow_pos (by omega))

end Go.Proofs.Ytogdckajgkncdaa
