/-
  The contracts of package div in one style, over numbers.
-/
import Derived.Test.YtogdckajgkncdaaS8
namespace Go.Proofs.Ytogdckajgkncdaa
open Go.RowKit

theorem trim_N {w : World} {A : Option Addr} {n c x : Nat} (ha : Num w A n c x) (hx : (limbs x).length ≤ 1000) : Calls Try.prog 31 #[.slice A n c] w fun e w' => e = .returned (.slice A n c) ∧ w = w' := by
  have hl := ha.len
  refine (dtrim_lim _ _ _ _ _ _ ha (by omega)).mono ?_
  rintro e w' ⟨k, rfl, hk, rfl⟩
  have hk1 := hk.1
  rw [val_limbs] at hk1
  rw [hk1, ← hl]
  exact ⟨rfl, rfl⟩

set_option maxHeartbeats 1000000 in
theorem ddiv_zero {w : World} {A : Option Addr} {n c x : Nat} (B : Option Addr) (d : Nat) (ha : Num w A n c x) (hx : (limbs x).length ≤ 300) : Calls Try.prog 17 #[.slice A n c, .slice B 0 d] w (GotV w (.tuple #[.slice none 0 0, .slice none 0 0, .int .i64 4])) := by
  have hb := num_empty w B d
  go_enter Try.func17, Try.ntmps17
  go_wp2_with fail
  refine (trim_N ha (by omega)).mono ?_
  rintro e w' ⟨rfl, rfl⟩
  go_wp2_with fail
  refine (trim_N hb (by rw [limbs_zero]; simp)).mono ?_
  rintro e w' ⟨rfl, rfl⟩
  go_wp2_with fail
  go_ret3
  exact ⟨rfl, Below.refl _ _⟩

set_option maxRecDepth 100000 in
set_option maxHeartbeats 2000000 in
theorem ddiv_small {w : World} {A B : Option Addr} {n c m d x y : Nat} (ha : Num w A n c x) (hb : Num w B m d y) (hx : (limbs x).length ≤ 300) (hy : (limbs y).length ≤ 300) (hlt : x < y) : Calls Try.prog 17 #[.slice A n c, .slice B m d] w (GotD w 0 x) := by
  have hm0 : ((m : Int) == 0) = false := by have := hb.len; have := limbs_ne_nil (n := y) (by omega); simp; omega
  have hc := cmpN_lt hlt
  have hcm : cmpN x y < 0 := by omega
  have hn : n ≤ 300 := by rw [ha.len]; exact hx
  clear hc
  go_enter Try.func17, Try.ntmps17
  go_wp2_with fail
  refine (trim_N ha (by omega)).mono ?_
  rintro e w' ⟨rfl, rfl⟩
  go_wp2_with fail
  refine (trim_N hb (by omega)).mono ?_
  rintro e w' ⟨rfl, rfl⟩
  go_wp2_with fail
  refine (cmp_N ha hb (by omega) (by omega)).mono ?_
  rintro e w1 ⟨rfl, b1⟩
  go_wp2_with fail
  refine (clone_F (ha.on b1) (by omega)).mono ?_
  rintro e w2 ⟨A2, n2, c2, rfl, h2, b2, f2⟩
  go_wp2_with fail
  go_ret3
  exact ⟨_, _, _, _, _, _, rfl, num_empty _ _ _, h2, b1.trans (b2.mono b1.size)⟩

set_option maxRecDepth 100000 in
set_option maxHeartbeats 4000000 in
theorem ddiv_main {w : World} {A B : Option Addr} {n c k d x y : Nat} (ha : Num w A n c x) (hb : Num w B (k + 1) d y) (hx : (limbs x).length ≤ 300) (hy : (limbs y).length ≤ 300) (hle : y ≤ x) : Calls Try.prog 17 #[.slice A n c, .slice B (k + 1) d] w (GotD w (x / y) (x % y)) := by
  obtain ⟨i0, hi, hz0, hz1, hz2⟩ := info_parts info24
  have hcm : ¬ cmpN x y < 0 := by
    rcases Nat.lt_or_ge y x with h | h
    · rw [cmpN_gt h]; omega
    · rw [cmpN_zero.2 (by omega)]; omega
  have hn : n ≤ 300 := by rw [ha.len]; exact hx
  have hkn : k + 1 ≤ n := by rw [ha.len, hb.len]; exact limbs_length_mono hle
  have HN := Lib.hid ha.len
  have HK := Lib.hid hb.len
  obtain ⟨s, hs⟩ : ∃ s, s = 64 - blen ((limbs y)[k]?.getD 0) := ⟨_, rfl⟩
  obtain ⟨hs64, hDlt, hDlen, hDtop⟩ := norm_top HK.out.symm hs
  have htl : (limbs y)[k]?.getD 0 < B64 := (limbs_dig y).get k
  have hlead : ∀ W, Calls Try.prog 39 #[.int .u64 (((limbs y)[k]?.getD 0 : Nat) : Int)] W fun e w' => e = .returned (.int .i64 (s : Int)) ∧ W = w' := fun W => by rw [hs]; exact lead_any _ W htl
  have HLEAD := Lib.hid hlead
  have HDLT := Lib.hid hDlt
  have HDLEN := Lib.hid hDlen
  have HDTOP := Lib.hid hDtop
  have hy0 : 0 < y := by
    rcases Nat.eq_zero_or_pos y with h | h
    · have := HK.out; rw [h, limbs_zero] at this; simp at this
    · exact h
  have HST := Lib.hid (long_start (s := s) HN.out.symm HK.out.symm hkn)
  clear hs hDlt hDlen hDtop hlead
  go_enter Try.func17, Try.ntmps17
  go_wp2_with fail
  refine (trim_N ha (by omega)).mono ?_
  rintro e w' ⟨rfl, rfl⟩
  go_wp2_with fail
  refine (trim_N hb (by omega)).mono ?_
  rintro e w' ⟨rfl, rfl⟩
  go_wp2_with fail
  refine (cmp_N ha hb (by omega) (by omega)).mono ?_
  rintro e w1 ⟨rfl, b1⟩
  have ha1 := ha.on b1
  have hb1 := hb.on b1
  obtain ⟨bb, bo, rfl, hbb, hcell⟩ := hb1.2.2.2 (by omega)
  have h1 := hcell k (by omega)
  clear hcell
  go_wp2_with fail
  refine (HLEAD.out _).mono ?_
  rintro e w' ⟨rfl, rfl⟩
  go_wp2_with fail
  refine (raised_lim _ _ _ s _ _ ha1 (by omega) hs64).mono ?_
  rintro e w2 ⟨g1, cap1, R1, rfl, hown1, hd1, hv1, b2⟩
  have hb2 := hb1.on b2
  go_wp2_with fail
  refine (raised_lim _ _ _ s _ _ hb2 (by omega) hs64).mono ?_
  rintro e w3 ⟨g2, cap2, R2, rfl, hown2, hd2, hv2, b3⟩
  go_wp2_with fail
  refine (dtrim_lim _ _ _ _ _ _ (Lim.of_own hown2 hd2) (by omega)).mono ?_
  rintro e w' ⟨j, rfl, hj, rfl⟩
  have hjk : j = k + 1 := by rw [hj.1, hv2, val_limbs]; exact HDLEN.out
  subst hjk
  rw [hv2, val_limbs] at hj
  rw [val_limbs] at hv1
  have l1 := hown1.lt g1 rfl
  have l2 := hown2.lt g2 rfl
  have hownR := ownsRow_below hown1 b3
  have hB3 : Below w.heap.size w w3 := (b1.trans (b2.mono b1.size)).trans (b3.mono (by have := b1.size; have := b2.size; omega))
  have hs1 : w.heap.size ≤ w1.heap.size := b1.size
  obtain ⟨t1, ht1⟩ : ∃ t, w1.heap.size = t := ⟨_, rfl⟩
  obtain ⟨g3, hg3⟩ : ∃ t, w3.heap.size = t := ⟨_, rfl⟩
  rw [ht1] at hownR l1 hs1
  have hg12 : g1 < g2 := by omega
  have hg23 : g2 < g3 := by omega
  have hwt : w.heap.size ≤ t1 := by omega
  have htg : t1 ≤ g1 := by omega
  have HG3 := Lib.hid hg3
  have HV1 := Lib.hid hv1
  obtain ⟨q, hq⟩ : ∃ q, q = n - k := ⟨_, rfl⟩
  have hq1 : q + k ≤ n := by omega
  have hq2 : n ≤ q + k := by omega
  have HQ := Lib.hid hq
  clear hq hown1 hown2 hd2 hv2 b1 b2 b3 ha1 hb1 hb2 l1 l2 ht1 hg3 hs1 h1 ha hb hbb hv1
  go_wp2_with (at_make; refine wpList_make_full _ rfl _ _ 23 rfl g3 38 i0 (.int .u64 0) 1 Try.underlying23 hi hz0 hz1 .i64 .i64 _ _ q rfl rfl (by omega) (by omega) (by rw [hz2]; omega) (by unfold maxLen; omega) (by rw [HG3.out]; omega) ?_; intro w4 hown4 hgrow4; rw [made_zeros] at hown4)
  rw [HG3.out] at hown4 ⊢
  have hB4 : Below w.heap.size w w4 := hB3.grown hgrow4 hB3.size (fun k h => by cases h)
  have hownR4 := hownR.kept hgrow4 (.inr (by simp [Value.ownBlock]))
  have hD4 : Lim w4.heap.size w4 (some ⟨g2, 0, none⟩) (k + 1) cap2 (limbs (y * 2 ^ s)) := (Lim.below hj ⟨hgrow4.os, hgrow4.tape, hgrow4.output, hgrow4.size, fun a ha => hgrow4.block a ha (by simp)⟩).more hgrow4.size
  go_loopw [11] (fun iv wr => ∃ (j : Nat) (Rl Ql : List Nat), j ≤ q ∧ iv = .int .i64 ((j : Int) - 1) ∧ Dig Rl ∧ Dig Ql ∧ wr.ownsRow t1 38 1 (.slice (some ⟨g1, 0, none⟩) (n + 1) cap1) (n + 1) (Rl.map encD) ∧ wr.ownsRow g3 38 1 (.slice (some ⟨g3, 0, none⟩) q q) q (Ql.map encD) ∧ Lim wr.heap.size wr (some ⟨g2, 0, none⟩) (k + 1) cap2 (limbs (y * 2 ^ s)) ∧ Below w.heap.size w wr ∧ Hid (val Rl + y * 2 ^ s * val Ql = x * 2 ^ s) ∧ Hid (val Rl < y * 2 ^ s * B64 ^ j) ∧ Hid (∀ t, t < j → Ql[t]?.getD 0 = 0)) (fun iv _ => (intOf iv + 1).toNat)
  case atStart =>
    refine ⟨q, R1, List.replicate q 0, Nat.le_refl _, rfl, hd1, dig_zeros q, hownR4, hown4, hD4, hB4, Lib.hid ?_, Lib.hid ?_, Lib.hid fun t _ => get_zeros q t⟩
    · rw [val_zeros, Nat.mul_zero, Nat.add_zero]; exact HV1.out
    · rw [HV1.out]
      have := HST.out
      rw [show n - (k + 1) + 1 = q by omega] at this
      exact this
  case round =>
    obtain ⟨j, Rl, Ql, hjq, hiv, hdR, hdQ, hoR, hoQ, hLD, hBl, HV, HLT, HZ⟩ := hrel
    cases j with
    | zero =>
      subst hiv
      rw [show (((0 : Nat) : Int) - 1) = -1 from rfl]
      have hlq := Lim.of_own hoQ hdQ
      have hlr := Lim.of_own hoR hdR
      have hlt0 := HLT.out
      rw [Nat.pow_zero, Nat.mul_one] at hlt0
      obtain ⟨e1, e2⟩ := long_end hy0 hlt0 HV.out
      have E1 := Lib.hid e1
      have E2 := Lib.hid e2
      have HLD := Lib.hid (low_done hdR s)
      have HRL := Lib.hid hlr.1
      clear e1 e2 hlt0
      go_wp2_with fail
      refine (dtrim_lim _ _ _ _ _ _ hlq (by omega)).mono ?_
      rintro e w' ⟨j1, rfl, hj1, rfl⟩
      rw [E1.out] at hj1
      go_wp2_with fail
      refine (lowered_lim _ _ _ s _ _ hlr (by omega) hs64).mono ?_
      rintro e w5 ⟨g5, cap5, rfl, hown5, b5⟩
      have hl5 := Lim.of_own hown5 (digs_dig _ _)
      go_wp2_with fail
      refine (dtrim_lim _ _ _ _ _ _ hl5 (by omega)).mono ?_
      rintro e w' ⟨j2, rfl, hj2, rfl⟩
      rw [HRL.out, HLD.out, E2.out] at hj2
      go_wp2_with fail
      go_ret3
      exact ⟨_, _, _, _, _, _, rfl, Lim.on hj1 b5, hj2, hBl.trans (b5.mono hBl.size)⟩
    | succ t =>
      subst hiv
      rw [show (((t + 1 : Nat) : Int) - 1) = (t : Int) by omega]
      have hcap : n + 1 ≤ cap1 := (Lim.of_own hoR hdR).2.1
      have hne : ¬ cap1 = t := by omega
      have hlR : Rl.length = n + 1 := by have := hoR.1; simpa using this
      have hlQ : Ql.length = q := by have := hoQ.1; simpa using this
      have hD0 : 0 < y * 2 ^ s := Nat.mul_pos hy0 (Nat.pow_pos (by omega))
      have hcall : Calls Try.prog 40 #[.slice (some ⟨g1, t, none⟩) (k + 2) (cap1 - t), .slice (some ⟨g2, 0, none⟩) (k + 1) cap2] wr fun e w' => ∃ (R' : List Nat) (qd : Nat), e = .returned (.int .u64 (qd : Int)) ∧ qd < B64 ∧ Dig R' ∧ w'.ownsRow t1 38 1 (.slice (some ⟨g1, 0, none⟩) (n + 1) cap1) (n + 1) (R'.map encD) ∧
          Hid (val R' + y * 2 ^ s * (B64 ^ t * qd) = val Rl) ∧ Hid (val R' < y * 2 ^ s * B64 ^ t) ∧ wr.grownBy w' (some g1) := by
        obtain ⟨hs1, hs2⟩ := long_step (t := t) (k := k) (D := y * 2 ^ s) hdR HDLT.out hD0 (by omega) HLT.out
        have e0 : Rl = Rl.take t ++ ((Rl.drop t).take (k + 2) ++ Rl.drop (t + (k + 2))) := by
          rw [← List.drop_drop, List.take_append_drop, List.take_append_drop]
        have hWin : Win wr t1 g1 (n + 1) cap1 (Rl.take t) ((Rl.drop t).take (k + 2)) (Rl.drop (t + (k + 2))) := by
          unfold Win
          rw [← e0]
          exact hoR
        refine (take_N wr t1 g1 (n + 1) cap1 t (cap1 - t) g2 0 cap2 k _ _ _ (limbs (y * 2 ^ s)) hWin (by rw [List.length_take]; omega) ((hdR.drop t).take _) (by rw [List.length_take, List.length_drop]; omega) (by omega) hLD (by omega) (by omega) (by omega) HDTOP.out (by rw [val_limbs]; exact hs1)).mono ?_
        rintro e w5 ⟨Q, rfl, hQd, hQl, hQv, hW5, hg5⟩
        rw [val_limbs] at hQv ⊢
        obtain ⟨f1, f2⟩ := hs2 Q hQl hQv
        refine ⟨_, _, rfl, ?_, ?_, hW5, Lib.hid f1, Lib.hid f2, hg5⟩
        · rw [Nat.div_lt_iff_lt_mul hD0]; exact hs1
        · intro a ha
          rcases List.mem_append.1 ha with h | h
          · exact hdR a (List.mem_of_mem_take h)
          · rcases List.mem_append.1 h with h | h
            · exact hQd a h
            · exact hdR a (List.mem_of_mem_drop h)
      have HC := Lib.hid hcall
      have HLQ := Lib.hid hlQ
      clear hcall hlR hlQ hD0
      go_wp2_with fail
      rw [show t + (k + 1) + 1 - t = k + 2 by omega]
      refine HC.out.mono ?_
      rintro e w5 ⟨R', qd, rfl, hqd, hdR', hoR5, HV5, HLT5, hg5⟩
      have hoQ5 := hoQ.kept hg5 (.inr (by simp [Value.ownBlock]; omega))
      have hLD5 := (hLD.apart hg5 (by omega) (Nat.le_refl _)).more hg5.size
      have hB5 := hBl.grown hg5 hBl.size (fun a e => by cases e; omega)
      have hc5 : w5.cell? ⟨g3, t, none⟩ = some (.int .u64 ((Ql[t]?.getD 0 : Nat) : Int)) := by
        rw [hoQ5.cellAt t (by omega), List.getElem?_map, List.getElem?_eq_getElem (by rw [HLQ.out]; omega)]
        simp [encD]
      have hf5 := hoQ5.frozenAt t
      have hst := hoQ5.stored t (.int .u64 (qd : Int))
      have HS := Lib.hid hst
      have HOR := Lib.hid hoR5
      clear hst hoQ5 hoR5 hg5 hoR hoQ hBl
      go_wp2_with fail
      go_roundw
      case rel =>
        have hgs := HS.out.2
        refine ⟨t, R', Ql.set t qd, by omega, rfl, hdR', hdQ.set t hqd, HOR.out.kept hgs (.inr (by simp [Value.ownBlock]; omega)), ?_, (hLD5.apart hgs (by omega) (Nat.le_refl _)).more hgs.size, hB5.grown hgs hB5.size (fun a e => by cases e; omega), Lib.hid ?_, HLT5, Lib.hid fun a ha => ?_⟩
        · have h5 := HS.out.1
          rw [show (Value.int IntKind.u64 (qd : Int)) = encD qd from rfl, ← List.map_set] at h5
          exact h5
        · have h5 := val_set (l := Ql) (k := t) (by rw [HLQ.out]; omega) qd
          rw [HZ.out t (by omega), Nat.mul_zero, Nat.add_zero] at h5
          rw [h5, Nat.mul_add, ← HV.out, ← HV5.out]
          omega
        · rw [List.getElem?_set_ne (by omega)]
          exact HZ.out a (by omega)
      case measure => simp [intOf]

theorem ddiv_N {w : World} {A B : Option Addr} {n c m d x y : Nat} (ha : Num w A n c x) (hb : Num w B m d y) (hx : (limbs x).length ≤ 300) (hy : (limbs y).length ≤ 300) (hy0 : y ≠ 0) : Calls Try.prog 17 #[.slice A n c, .slice B m d] w (GotD w (x / y) (x % y)) := by
  rcases Nat.lt_or_ge x y with h | h
  · rw [Nat.div_eq_of_lt h, Nat.mod_eq_of_lt h]
    exact ddiv_small ha hb hx hy h
  · obtain ⟨k, rfl⟩ : ∃ k, m = k + 1 := ⟨m - 1, by have := hb.len; have := limbs_ne_nil hy0; omega⟩
    exact ddiv_main ha hb hx hy h

set_option maxRecDepth 100000 in
set_option maxHeartbeats 4000000 in
theorem dgcd_N {w : World} {A B : Option Addr} {n c m d x y : Nat} (ha : Num w A n c x) (hb : Num w B m d y) (hx : (limbs x).length ≤ 300) (hy : (limbs y).length ≤ 300) : Calls Try.prog 19 #[.slice A n c, .slice B m d] w (GotN w (Nat.gcd x y)) := by
  go_enter Try.func19, Try.ntmps19
  go_wp2_with fail
  refine (trim_N ha (by omega)).mono ?_
  rintro e w' ⟨rfl, rfl⟩
  go_wp2_with fail
  refine (trim_N hb (by omega)).mono ?_
  rintro e w' ⟨rfl, rfl⟩
  go_wp2_with fail
  go_loopg [0, 1] y (fun k av bv wr => ∃ (A' B' : Option Addr) (n' c' m' d' x' : Nat), av = .slice A' n' c' ∧ bv = .slice B' m' d' ∧ Num wr A' n' c' x' ∧ Num wr B' m' d' k ∧ (limbs x').length ≤ 300 ∧ (limbs k).length ≤ 300 ∧ Hid (Nat.gcd x' k = Nat.gcd x y) ∧ Below w.heap.size w wr)
  case atStart => exact ⟨A, B, n, c, m, d, x, rfl, rfl, ha, hb, hx, hy, Lib.hid rfl, Below.refl _ _⟩
  case round =>
    obtain ⟨A', B', n', c', m', d', x', rfl, rfl, h1, h2, l1, l2, hg, hbl⟩ := hrel
    have hm := h2.len
    by_cases h0 : gk = 0
    · subst h0
      rw [limbs_zero] at hm
      simp at hm
      subst hm
      have hn := h1.len
      have hn' : n' ≤ 300 := by omega
      clear hn
      go_wp2_with fail
      refine (clone_F h1 (by omega)).mono ?_
      rintro e w1 ⟨A1, n1, c1, rfl, h3, b1, f1⟩
      go_wp2_with fail
      go_ret
      have e := hg.out
      rw [Nat.gcd_zero_right] at e
      rw [e] at h3
      exact ⟨_, _, _, rfl, h3, hbl.trans (b1.mono hbl.size)⟩
    · have hm0 : 0 < m' := by have := limbs_ne_nil h0; omega
      have hmi : (0 : Int) < (m' : Int) := by omega
      have l3 := r_len (x := x') (by omega) l2
      have hg2 : Nat.gcd gk (x' % gk) = Nat.gcd x y := by rw [Nat.gcd_comm, ← Nat.gcd_rec, Nat.gcd_comm]; exact hg.out
      have HG := Lib.hid hg2
      clear hg hg2 hm
      go_wp2_with fail
      refine (ddiv_N h1 h2 (by omega) (by omega) h0).mono ?_
      rintro e w1 ⟨A1, n1, c1, B1, m1, d1, rfl, h3, h4, b1⟩
      go_wp2_with fail
      go_roundg (x' % gk)
      case measure => exact Nat.mod_lt _ (by omega)
      case rel => exact ⟨B', B1, m', d', m1, d1, gk, rfl, rfl, h2.on b1, h4, l2, l3, HG, hbl.trans (b1.mono hbl.size)⟩

end Go.Proofs.Ytogdckajgkncdaa
