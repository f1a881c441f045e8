/-
  Several texts in one: D, QR, QS, QT, MathY, F6, F7, DX, M8.
-/
import Derived.Test.YtpephogadljncaaGreatA5
import Derived.Test.YtpephogadljncaaGreatA4
import Derived.Test.YtpephogadljncaaGreatA3
import Derived.Test.YtpephogadljncaaGreatA2

/-
  The contracts of package div in one style, over numbers.
-/
namespace Go.Proofs.YtpephogadljncaaGreat
set_option maxRecDepth 100000
set_option maxHeartbeats 4000000
open Go.RowKit

theorem trim_N {w : World} {A : Option Addr} {n c x : Nat} (ha : Num w A n c x) (hx : (limbs x).length ≤ 1000) : Calls Tryz.prog 96 #[.slice A n c] w fun e w' => e = .returned (.slice A n c) ∧ w = w' := by
  have hl := ha.len
  refine (dtrim_lim _ _ _ _ _ _ ha (by omega)).mono ?_
  rintro e w' ⟨k, rfl, hk, rfl⟩
  have hk1 := hk.1
  rw [val_limbs] at hk1
  rw [hk1, ← hl]
  exact ⟨rfl, rfl⟩

theorem ddiv_zero {w : World} {A : Option Addr} {n c x : Nat} (B : Option Addr) (d : Nat) (ha : Num w A n c x) (hx : (limbs x).length ≤ 300) : Calls Tryz.prog 65 #[.slice A n c, .slice B 0 d] w (GotV w (.tuple #[.slice none 0 0, .slice none 0 0, .int .i64 4])) := by
  have hb := num_empty w B d
  go_enter Tryz.func65, Tryz.ntmps65
  go_wp2_with fail
  refine (trim_N ha (by omega)).mono ?_
  rintro e w' ⟨rfl, rfl⟩
  go_wp2_with fail
  refine (trim_N hb (by rw [limbs_zero]; simp)).mono ?_
  rintro e w' ⟨rfl, rfl⟩
  go_wp2_with fail
  go_ret3
  exact ⟨rfl, Below.refl _ _⟩

theorem ddiv_small {w : World} {A B : Option Addr} {n c m d x y : Nat} (ha : Num w A n c x) (hb : Num w B m d y) (hx : (limbs x).length ≤ 300) (hy : (limbs y).length ≤ 300) (hlt : x < y) : Calls Tryz.prog 65 #[.slice A n c, .slice B m d] w (GotD w 0 x) := by
  have hm0 : ((m : Int) == 0) = false := by have := hb.len; have := limbs_ne_nil (n := y) (by omega); simp; omega
  have hc := cmpN_lt hlt
  have hcm : cmpN x y < 0 := by omega
  have hn : n ≤ 300 := by rw [ha.len]; exact hx
  clear hc
  go_enter Tryz.func65, Tryz.ntmps65
  go_wp2_with fail
  refine (trim_N ha (by omega)).mono ?_
  rintro e w' ⟨rfl, rfl⟩
  go_wp2_with fail
  refine (trim_N hb (by omega)).mono ?_
  rintro e w' ⟨rfl, rfl⟩
  go_wp2_with fail
  refine (cmp_N ha hb (by omega) (by omega)).mono ?_
  rintro e w1 ⟨rfl, b1⟩
  go_wp2_with fail
  refine (clone_F (ha.on b1) (by omega)).mono ?_
  rintro e w2 ⟨A2, n2, c2, rfl, h2, b2, f2⟩
  go_wp2_with fail
  go_ret3
  exact ⟨_, _, _, _, _, _, rfl, num_empty _ _ _, h2, b1.trans (b2.mono b1.size)⟩

/-- A quotient in memory of the call's own, and what is left. -/
def GotDF (w : World) (q r : Nat) (e : Ending) (w' : World) : Prop := ∃ A n c B m d, e = .returned (.tuple #[.slice A n c, .slice B m d, .int .i64 0]) ∧ Num w' A n c q ∧ Num w' B m d r ∧ Below w.heap.size w w' ∧ Fresh w.heap.size A n
theorem ddiv_main_F {w : World} {A B : Option Addr} {n c k d x y : Nat} (ha : Num w A n c x) (hb : Num w B (k + 1) d y) (hx : (limbs x).length ≤ 300) (hy : (limbs y).length ≤ 300) (hle : y ≤ x) : Calls Tryz.prog 65 #[.slice A n c, .slice B (k + 1) d] w (GotDF w (x / y) (x % y)) := by
  obtain ⟨i0, hi, hz0, hz1, hz2⟩ := info_parts info24
  have hcm : ¬ cmpN x y < 0 := by
    rcases Nat.lt_or_ge y x with h | h
    · rw [cmpN_gt h]; omega
    · rw [cmpN_zero.2 (by omega)]; omega
  have hn : n ≤ 300 := by rw [ha.len]; exact hx
  have hkn : k + 1 ≤ n := by rw [ha.len, hb.len]; exact limbs_length_mono hle
  have HN := Lib.hid ha.len
  have HK := Lib.hid hb.len
  obtain ⟨s, hs⟩ : ∃ s, s = 64 - blen ((limbs y)[k]?.getD 0) := ⟨_, rfl⟩
  obtain ⟨hs64, hDlt, hDlen, hDtop⟩ := norm_top HK.out.symm hs
  have htl : (limbs y)[k]?.getD 0 < B64 := (limbs_dig y).get k
  have hlead : ∀ W, Calls Tryz.prog 98 #[.int .u64 (((limbs y)[k]?.getD 0 : Nat) : Int)] W fun e w' => e = .returned (.int .i64 (s : Int)) ∧ W = w' := fun W => by rw [hs]; exact lead_any _ W htl
  have HLEAD := Lib.hid hlead
  have HDLT := Lib.hid hDlt
  have HDLEN := Lib.hid hDlen
  have HDTOP := Lib.hid hDtop
  have hy0 : 0 < y := by
    rcases Nat.eq_zero_or_pos y with h | h
    · have := HK.out; rw [h, limbs_zero] at this; simp at this
    · exact h
  have HST := Lib.hid (long_start (s := s) HN.out.symm HK.out.symm hkn)
  clear hs hDlt hDlen hDtop hlead
  go_enter Tryz.func65, Tryz.ntmps65
  go_wp2_with fail
  refine (trim_N ha (by omega)).mono ?_
  rintro e w' ⟨rfl, rfl⟩
  go_wp2_with fail
  refine (trim_N hb (by omega)).mono ?_
  rintro e w' ⟨rfl, rfl⟩
  go_wp2_with fail
  refine (cmp_N ha hb (by omega) (by omega)).mono ?_
  rintro e w1 ⟨rfl, b1⟩
  have ha1 := ha.on b1
  have hb1 := hb.on b1
  obtain ⟨bb, bo, rfl, hbb, hcell⟩ := hb1.2.2.2 (by omega)
  have h1 := hcell k (by omega)
  clear hcell
  go_wp2_with fail
  refine (HLEAD.out _).mono ?_
  rintro e w' ⟨rfl, rfl⟩
  go_wp2_with fail
  refine (raised_lim _ _ _ s _ _ ha1 (by omega) hs64).mono ?_
  rintro e w2 ⟨g1, cap1, R1, rfl, hown1, hd1, hv1, b2⟩
  have hb2 := hb1.on b2
  go_wp2_with fail
  refine (raised_lim _ _ _ s _ _ hb2 (by omega) hs64).mono ?_
  rintro e w3 ⟨g2, cap2, R2, rfl, hown2, hd2, hv2, b3⟩
  go_wp2_with fail
  refine (dtrim_lim _ _ _ _ _ _ (Lim.of_own hown2 hd2) (by omega)).mono ?_
  rintro e w' ⟨j, rfl, hj, rfl⟩
  have hjk : j = k + 1 := by rw [hj.1, hv2, val_limbs]; exact HDLEN.out
  subst hjk
  rw [hv2, val_limbs] at hj
  rw [val_limbs] at hv1
  have l1 := hown1.lt g1 rfl
  have l2 := hown2.lt g2 rfl
  have hownR := ownsRow_below hown1 b3
  have hB3 : Below w.heap.size w w3 := (b1.trans (b2.mono b1.size)).trans (b3.mono (by have := b1.size; have := b2.size; omega))
  have hs1 : w.heap.size ≤ w1.heap.size := b1.size
  obtain ⟨t1, ht1⟩ : ∃ t, w1.heap.size = t := ⟨_, rfl⟩
  obtain ⟨g3, hg3⟩ : ∃ t, w3.heap.size = t := ⟨_, rfl⟩
  rw [ht1] at hownR l1 hs1
  have hg12 : g1 < g2 := by omega
  have hg23 : g2 < g3 := by omega
  have hwt : w.heap.size ≤ t1 := by omega
  have htg : t1 ≤ g1 := by omega
  have HG3 := Lib.hid hg3
  have HV1 := Lib.hid hv1
  obtain ⟨q, hq⟩ : ∃ q, q = n - k := ⟨_, rfl⟩
  have hq1 : q + k ≤ n := by omega
  have hq2 : n ≤ q + k := by omega
  have HQ := Lib.hid hq
  clear hq hown1 hown2 hd2 hv2 b1 b2 b3 ha1 hb1 hb2 l1 l2 ht1 hg3 hs1 h1 ha hb hbb hv1
  go_wp2_with (at_make; refine wpList_make_full _ rfl _ _ 24 rfl g3 37 i0 (.int .u64 0) 1 Tryz.underlying24 hi hz0 hz1 .i64 .i64 _ _ q rfl rfl (by omega) (by omega) (by rw [hz2]; omega) (by unfold maxLen; omega) (by rw [HG3.out]; omega) ?_; intro w4 hown4 hgrow4; rw [made_zeros] at hown4)
  rw [HG3.out] at hown4 ⊢
  have hB4 : Below w.heap.size w w4 := hB3.grown hgrow4 hB3.size (fun k h => by cases h)
  have hownR4 := hownR.kept hgrow4 (.inr (by simp [Value.ownBlock]))
  have hD4 : Lim w4.heap.size w4 (some ⟨g2, 0, none⟩) (k + 1) cap2 (limbs (y * 2 ^ s)) := (Lim.below hj ⟨hgrow4.os, hgrow4.tape, hgrow4.output, hgrow4.size, fun a ha => hgrow4.block a ha (by simp)⟩).more hgrow4.size
  go_loopw [11] (fun iv wr => ∃ (j : Nat) (Rl Ql : List Nat), j ≤ q ∧ iv = .int .i64 ((j : Int) - 1) ∧ Dig Rl ∧ Dig Ql ∧ wr.ownsRow t1 37 1 (.slice (some ⟨g1, 0, none⟩) (n + 1) cap1) (n + 1) (Rl.map encD) ∧ wr.ownsRow g3 37 1 (.slice (some ⟨g3, 0, none⟩) q q) q (Ql.map encD) ∧ Lim wr.heap.size wr (some ⟨g2, 0, none⟩) (k + 1) cap2 (limbs (y * 2 ^ s)) ∧ Below w.heap.size w wr ∧ Hid (val Rl + y * 2 ^ s * val Ql = x * 2 ^ s) ∧ Hid (val Rl < y * 2 ^ s * B64 ^ j) ∧ Hid (∀ t, t < j → Ql[t]?.getD 0 = 0)) (fun iv _ => (intOf iv + 1).toNat)
  case atStart =>
    refine ⟨q, R1, List.replicate q 0, Nat.le_refl _, rfl, hd1, dig_zeros q, hownR4, hown4, hD4, hB4, Lib.hid ?_, Lib.hid ?_, Lib.hid fun t _ => get_zeros q t⟩
    · rw [val_zeros, Nat.mul_zero, Nat.add_zero]; exact HV1.out
    · rw [HV1.out]
      have := HST.out
      rw [show n - (k + 1) + 1 = q by omega] at this
      exact this
  case round =>
    obtain ⟨j, Rl, Ql, hjq, hiv, hdR, hdQ, hoR, hoQ, hLD, hBl, HV, HLT, HZ⟩ := hrel
    cases j with
    | zero =>
      subst hiv
      rw [show (((0 : Nat) : Int) - 1) = -1 from rfl]
      have hlq := Lim.of_own hoQ hdQ
      have hlr := Lim.of_own hoR hdR
      have hlt0 := HLT.out
      rw [Nat.pow_zero, Nat.mul_one] at hlt0
      obtain ⟨e1, e2⟩ := long_end hy0 hlt0 HV.out
      have E1 := Lib.hid e1
      have E2 := Lib.hid e2
      have HLD := Lib.hid (low_done hdR s)
      have HRL := Lib.hid hlr.1
      clear e1 e2 hlt0
      go_wp2_with fail
      refine (dtrim_lim _ _ _ _ _ _ hlq (by omega)).mono ?_
      rintro e w' ⟨j1, rfl, hj1, rfl⟩
      rw [E1.out] at hj1
      go_wp2_with fail
      refine (lowered_lim _ _ _ s _ _ hlr (by omega) hs64).mono ?_
      rintro e w5 ⟨g5, cap5, rfl, hown5, b5⟩
      have hl5 := Lim.of_own hown5 (digs_dig _ _)
      go_wp2_with fail
      refine (dtrim_lim _ _ _ _ _ _ hl5 (by omega)).mono ?_
      rintro e w' ⟨j2, rfl, hj2, rfl⟩
      rw [HRL.out, HLD.out, E2.out] at hj2
      go_wp2_with fail
      go_ret3
      exact ⟨_, _, _, _, _, _, rfl, Lim.on hj1 b5, hj2, hBl.trans (b5.mono hBl.size), fun _ => ⟨g3, 0, rfl, by omega⟩⟩
    | succ t =>
      subst hiv
      rw [show (((t + 1 : Nat) : Int) - 1) = (t : Int) by omega]
      have hcap : n + 1 ≤ cap1 := (Lim.of_own hoR hdR).2.1
      have hne : ¬ cap1 = t := by omega
      have hlR : Rl.length = n + 1 := by have := hoR.1; simpa using this
      have hlQ : Ql.length = q := by have := hoQ.1; simpa using this
      have hD0 : 0 < y * 2 ^ s := Nat.mul_pos hy0 (Nat.pow_pos (by omega))
      have hcall : Calls Tryz.prog 100 #[.slice (some ⟨g1, t, none⟩) (k + 2) (cap1 - t), .slice (some ⟨g2, 0, none⟩) (k + 1) cap2] wr fun e w' => ∃ (R' : List Nat) (qd : Nat), e = .returned (.int .u64 (qd : Int)) ∧ qd < B64 ∧ Dig R' ∧ w'.ownsRow t1 37 1 (.slice (some ⟨g1, 0, none⟩) (n + 1) cap1) (n + 1) (R'.map encD) ∧
          Hid (val R' + y * 2 ^ s * (B64 ^ t * qd) = val Rl) ∧ Hid (val R' < y * 2 ^ s * B64 ^ t) ∧ wr.grownBy w' (some g1) := by
        obtain ⟨hs1, hs2⟩ := long_step (t := t) (k := k) (D := y * 2 ^ s) hdR HDLT.out hD0 (by omega) HLT.out
        have e0 : Rl = Rl.take t ++ ((Rl.drop t).take (k + 2) ++ Rl.drop (t + (k + 2))) := by
          rw [← List.drop_drop, List.take_append_drop, List.take_append_drop]
        have hWin : Win wr t1 g1 (n + 1) cap1 (Rl.take t) ((Rl.drop t).take (k + 2)) (Rl.drop (t + (k + 2))) := by
          unfold Win
          rw [← e0]
          exact hoR
        refine (take_N wr t1 g1 (n + 1) cap1 t (cap1 - t) g2 0 cap2 k _ _ _ (limbs (y * 2 ^ s)) hWin (by rw [List.length_take]; omega) ((hdR.drop t).take _) (by rw [List.length_take, List.length_drop]; omega) (by omega) hLD (by omega) (by omega) (by omega) HDTOP.out (by rw [val_limbs]; exact hs1)).mono ?_
        rintro e w5 ⟨Q, rfl, hQd, hQl, hQv, hW5, hg5⟩
        rw [val_limbs] at hQv ⊢
        obtain ⟨f1, f2⟩ := hs2 Q hQl hQv
        refine ⟨_, _, rfl, ?_, ?_, hW5, Lib.hid f1, Lib.hid f2, hg5⟩
        · rw [Nat.div_lt_iff_lt_mul hD0]; exact hs1
        · intro a ha
          rcases List.mem_append.1 ha with h | h
          · exact hdR a (List.mem_of_mem_take h)
          · rcases List.mem_append.1 h with h | h
            · exact hQd a h
            · exact hdR a (List.mem_of_mem_drop h)
      have HC := Lib.hid hcall
      have HLQ := Lib.hid hlQ
      clear hcall hlR hlQ hD0
      go_wp2_with fail
      rw [show t + (k + 1) + 1 - t = k + 2 by omega]
      refine HC.out.mono ?_
      rintro e w5 ⟨R', qd, rfl, hqd, hdR', hoR5, HV5, HLT5, hg5⟩
      have hoQ5 := hoQ.kept hg5 (.inr (by simp [Value.ownBlock]; omega))
      have hLD5 := (hLD.apart hg5 (by omega) (Nat.le_refl _)).more hg5.size
      have hB5 := hBl.grown hg5 hBl.size (fun a e => by cases e; omega)
      have hc5 : w5.cell? ⟨g3, t, none⟩ = some (.int .u64 ((Ql[t]?.getD 0 : Nat) : Int)) := by
        rw [hoQ5.cellAt t (by omega), List.getElem?_map, List.getElem?_eq_getElem (by rw [HLQ.out]; omega)]
        simp [encD]
      have hf5 := hoQ5.frozenAt t
      have hst := hoQ5.stored t (.int .u64 (qd : Int))
      have HS := Lib.hid hst
      have HOR := Lib.hid hoR5
      clear hst hoQ5 hoR5 hg5 hoR hoQ hBl
      go_wp2_with fail
      go_roundw
      case rel =>
        have hgs := HS.out.2
        refine ⟨t, R', Ql.set t qd, by omega, rfl, hdR', hdQ.set t hqd, HOR.out.kept hgs (.inr (by simp [Value.ownBlock]; omega)), ?_, (hLD5.apart hgs (by omega) (Nat.le_refl _)).more hgs.size, hB5.grown hgs hB5.size (fun a e => by cases e; omega), Lib.hid ?_, HLT5, Lib.hid fun a ha => ?_⟩
        · have h5 := HS.out.1
          rw [show (Value.int IntKind.u64 (qd : Int)) = encD qd from rfl, ← List.map_set] at h5
          exact h5
        · have h5 := val_set (l := Ql) (k := t) (by rw [HLQ.out]; omega) qd
          rw [HZ.out t (by omega), Nat.mul_zero, Nat.add_zero] at h5
          rw [h5, Nat.mul_add, ← HV.out, ← HV5.out]
          omega
        · rw [List.getElem?_set_ne (by omega)]
          exact HZ.out a (by omega)
      case measure => simp [intOf]

theorem ddiv_main {w : World} {A B : Option Addr} {n c k d x y : Nat} (ha : Num w A n c x) (hb : Num w B (k + 1) d y) (hx : (limbs x).length ≤ 300) (hy : (limbs y).length ≤ 300) (hle : y ≤ x) : Calls Tryz.prog 65 #[.slice A n c, .slice B (k + 1) d] w (GotD w (x / y) (x % y)) :=
  (ddiv_main_F ha hb hx hy hle).mono fun _ _ ⟨A', n', c', B', m', d', he, h1, h2, h3, _⟩ => ⟨A', n', c', B', m', d', he, h1, h2, h3⟩

theorem ddiv_N {w : World} {A B : Option Addr} {n c m d x y : Nat} (ha : Num w A n c x) (hb : Num w B m d y) (hx : (limbs x).length ≤ 300) (hy : (limbs y).length ≤ 300) (hy0 : y ≠ 0) : Calls Tryz.prog 65 #[.slice A n c, .slice B m d] w (GotD w (x / y) (x % y)) := by
  rcases Nat.lt_or_ge x y with h | h
  · rw [Nat.div_eq_of_lt h, Nat.mod_eq_of_lt h]
    exact ddiv_small ha hb hx hy h
  · obtain ⟨k, rfl⟩ : ∃ k, m = k + 1 := ⟨m - 1, by have := hb.len; have := limbs_ne_nil hy0; omega⟩
    exact ddiv_main ha hb hx hy h

theorem dgcd_N {w : World} {A B : Option Addr} {n c m d x y : Nat} (ha : Num w A n c x) (hb : Num w B m d y) (hx : (limbs x).length ≤ 300) (hy : (limbs y).length ≤ 300) : Calls Tryz.prog 103 #[.slice A n c, .slice B m d] w (GotN w (Nat.gcd x y)) := by
  go_enter Tryz.func103, Tryz.ntmps103
  go_wp2_with fail
  refine (trim_N ha (by omega)).mono ?_
  rintro e w' ⟨rfl, rfl⟩
  go_wp2_with fail
  refine (trim_N hb (by omega)).mono ?_
  rintro e w' ⟨rfl, rfl⟩
  go_wp2_with fail
  go_loopg [0, 1] y (fun k av bv wr => ∃ (A' B' : Option Addr) (n' c' m' d' x' : Nat), av = .slice A' n' c' ∧ bv = .slice B' m' d' ∧ Num wr A' n' c' x' ∧ Num wr B' m' d' k ∧ (limbs x').length ≤ 300 ∧ (limbs k).length ≤ 300 ∧ Hid (Nat.gcd x' k = Nat.gcd x y) ∧ Below w.heap.size w wr)
  case atStart => exact ⟨A, B, n, c, m, d, x, rfl, rfl, ha, hb, hx, hy, Lib.hid rfl, Below.refl _ _⟩
  case round =>
    obtain ⟨A', B', n', c', m', d', x', rfl, rfl, h1, h2, l1, l2, hg, hbl⟩ := hrel
    have hm := h2.len
    by_cases h0 : gk = 0
    · subst h0
      rw [limbs_zero] at hm
      simp at hm
      subst hm
      have hn := h1.len
      have hn' : n' ≤ 300 := by omega
      clear hn
      go_wp2_with fail
      refine (clone_F h1 (by omega)).mono ?_
      rintro e w1 ⟨A1, n1, c1, rfl, h3, b1, f1⟩
      go_wp2_with fail
      go_ret
      have e := hg.out
      rw [Nat.gcd_zero_right] at e
      rw [e] at h3
      exact ⟨_, _, _, rfl, h3, hbl.trans (b1.mono hbl.size)⟩
    · have hm0 : 0 < m' := by have := limbs_ne_nil h0; omega
      have hmi : (0 : Int) < (m' : Int) := by omega
      have l3 := r_len (x := x') (by omega) l2
      have hg2 : Nat.gcd gk (x' % gk) = Nat.gcd x y := by rw [Nat.gcd_comm, ← Nat.gcd_rec, Nat.gcd_comm]; exact hg.out
      have HG := Lib.hid hg2
      clear hg hg2 hm
      go_wp2_with fail
      refine (ddiv_N h1 h2 (by omega) (by omega) h0).mono ?_
      rintro e w1 ⟨A1, n1, c1, B1, m1, d1, rfl, h3, h4, b1⟩
      go_wp2_with fail
      go_roundg (x' % gk)
      case measure => exact Nat.mod_lt _ (by omega)
      case rel => exact ⟨B', B1, m', d', m1, d1, gk, rfl, rfl, h2.on b1, h4, l2, l3, HG, hbl.trans (b1.mono hbl.size)⟩

end Go.Proofs.YtpephogadljncaaGreat

/-
  The contracts of rat: quotient, isNought, times, less, reduced.
-/
namespace Go.Proofs.YtpephogadljncaaGreat
set_option maxRecDepth 100000
set_option maxHeartbeats 8000000
open Go.RowKit
set_option linter.unusedVariables false
set_option linter.unusedSimpArgs false

theorem isn_N {w : World} {A : Option Addr} {n c x : Nat} (r : Bool) (ha : Num w A n c x) (hx : (limbs x).length ≤ 300) (hr : decide (x = 0) = r) :
    Calls Tryz.prog 78 #[.slice A n c] w (GotV w (.bool r)) := by
  have he : (cmpN x 0 == 0) = r := (cmpN_nil x).trans hr
  have cc := Below.refl w.heap.size w
  go_enter Tryz.func78, Tryz.ntmps78
  go_wp2_with fail
  refine (cmp_N ha (num_zero _) (by omega) (Nat.le_trans len_nil (by omega))).mono ?_
  rintro e w1 ⟨rfl, b⟩
  replace ha := ha.on b
  replace cc := bK cc b
  clear b
  go_wp2_with fail
  go_ret
  exact ⟨rfl, cc⟩

theorem rquo_N {w : World} {A B : Option Addr} {n c m d x y : Nat} (ha : Num w A n c x) (hb : Num w B m d y) (hx : (limbs x).length ≤ 300) (hy : (limbs y).length ≤ 300) (hq : y ≠ 0) :
    Calls Tryz.prog 104 #[.slice A n c, .slice B m d] w (GotN w (x / y)) := by
  have cc := Below.refl w.heap.size w
  go_enter Tryz.func104, Tryz.ntmps104
  go_wp2_with fail
  refine (ddiv_N ha hb hx hy hq).mono ?_
  rintro e w1 ⟨A1, n1, k1, A2, n2, k2, rfl, h1, h2, b⟩
  go_wp2_with fail
  go_ret
  exact ⟨_, _, _, rfl, h1, b⟩



theorem reduced_N {w : World} {b : Bool} {A B : Option Addr} {n c m d q : Nat} {p : Int} (ha : Zn w b A n c p) (hb : Num w B m d q) (hq : q ≠ 0) (hx : (limbs p.natAbs).length ≤ 200) (hy : (limbs q).length ≤ 200) :
    Calls Tryz.prog 79 #[.agg #[.bool b, .slice A n c], .slice B m d] w (GotRt w (mkRat p q)) := by
  have hg := Nat.gcd_pos_of_pos_right p.natAbs (show 0 < q by omega)
  obtain ⟨g, hG⟩ : ∃ g, Nat.gcd p.natAbs q = g := ⟨_, rfl⟩
  have HN : Hid ((mkRat p q).num.natAbs = p.natAbs / g) := Lib.hid (by rw [← hG]; exact mkRat_abs p q hq)
  have HD : Hid ((mkRat p q).den = q / g) := Lib.hid (by rw [← hG]; exact mkRat_den p q hq)
  have HS : Hid (decide ((mkRat p q).num < 0) = decide (p < 0)) := Lib.hid (mkRat_neg p q hq)
  have hgl := gcd_len (p := p.natAbs) hq hy
  rw [hG] at hg hgl
  have hg0 : g ≠ 0 := by omega
  have HB := Lib.hid ha.2
  have p1 := ha.1
  have CG := Lib.hid hG
  clear hG hg ha
  have cc := Below.refl w.heap.size w
  go_enter Tryz.func79, Tryz.ntmps79
  go_wp2_with fail
  generalize hv_ : (w.alloc (.cells #[.bool b, .slice A n c] 42)).alloc (.cells #[.bool false, .slice none 0 0, .slice none 0 0] 48) = v1
  obtain ⟨f0, f1, f2⟩ : Fz3 v1 (w.heap.size + 1) := by simp [Fz3, ← hv_, go_sem]
  have bA : Below w.heap.size w v1 := by rw [← hv_]; exact (((Below.refl _ w).alloc (by simp) _).alloc (by simp) _)
  replace p1 := p1.on bA
  replace hb := hb.on bA
  replace cc := bK cc bA
  clear bA
  obtain ⟨k0, k1⟩ : Cs2 v1 w.heap.size (.bool b) (.slice A n c) := by simp [Cs2, ← hv_, go_sem]
  have kl : w.heap.size < v1.heap.size := by simp [← hv_] <;> omega
  obtain ⟨g0, g1, g2⟩ : Cs3 v1 (w.heap.size + 1) (.bool false) (.slice none 0 0) (.slice none 0 0) := by simp [Cs3, ← hv_, go_sem]
  have gl : w.heap.size + 1 < v1.heap.size := by simp [← hv_] <;> omega
  clear hv_
  refine (dgcd_N p1 hb (by omega) (by omega)).mono ?_
  rintro e w2 ⟨Av, nv, cv, rfl, v, b⟩
  rw [CG.out] at v
  rewrite [fR b gl] at f0 f1 f2
  replace p1 := p1.on b
  replace hb := hb.on b
  rewrite [cR b kl] at k0 k1
  replace kl := lK b kl
  rewrite [cR b gl] at g0 g1 g2
  replace gl := lK b gl
  replace cc := bK cc b
  clear b
  go_upto_region 2 with fail
  go_cut [6] (fun u wx => ∃ (g_ : Nat) (b_ : Bool) (A_ : Option Addr) (n_ c_ : Nat), u = .pointer (some ⟨g_, 0, none⟩) ∧ LoneZ w2 wx g_ b_ A_ n_ c_ ((mkRat p q).num))
  case first =>
    have BB0 : Below w2.heap.size w2 w2.drew := below_drewN (Below.refl _ w2) 1
    have BB1 : Below w2.heap.size w2 (w2.alloc (.cells #[.bool false, .slice none 0 0] 42)).drew := below_drewN (below_one _ _) 1
    go_region_held3 (fun w' => w'.cell? ⟨w.heap.size, 0, none⟩ = some (.bool b) ∧ w'.cell? ⟨w.heap.size, 1, none⟩ = some (.slice A n c) ∧ w'.cell? ⟨w.heap.size + 1, 0, none⟩ = some (.bool false) ∧ w'.cell? ⟨w.heap.size + 1, 1, none⟩ = some (.slice none 0 0) ∧ w'.cell? ⟨w.heap.size + 1, 2, none⟩ = some (.slice none 0 0))
      (first | with_reducible exact ⟨(cK qq k0 kl), (cK qq k1 kl), (cK qq g0 gl), (cK qq g1 gl), (cK qq g2 gl)⟩ | with_reducible exact ⟨keep_alloc ((cK qq k0 kl)), keep_alloc ((cK qq k1 kl)), keep_alloc ((cK qq g0 gl)), keep_alloc ((cK qq g1 gl)), keep_alloc ((cK qq g2 gl))⟩ | with_reducible exact ⟨((cell_store (by omega)).trans (cK qq k0 kl)), ((cell_store (by omega)).trans (cK qq k1 kl)), ((cell_store (by omega)).trans (cK qq g0 gl)), ((cell_store (by omega)).trans (cK qq g1 gl)), ((cell_store (by omega)).trans (cK qq g2 gl))⟩ | go_keep)
      (first
        | (go_at_call 104; (with_reducible refine (rquo_N (p1.on BB0) (v.on BB0) (by omega) (by omega) hg0).mono ?_); rintro e y1 ⟨As, ns, cs, rfl, s, q⟩; have qq := BB0.trans (q.mono BB0.size); have p1' := (p1.on BB0).on q; have hb' := (hb.on BB0).on q; have v' := (v.on BB0).on q; have qs1 := qq.size; clear q)
        | (go_at_call 104; (with_reducible refine (rquo_N (p1.on BB1) (v.on BB1) (by omega) (by omega) hg0).mono ?_); rintro e y1 ⟨As, ns, cs, rfl, s, q⟩; have qq := BB1.trans (q.mono BB1.size); have p1' := (p1.on BB1).on q; have hb' := (hb.on BB1).on q; have v' := (v.on BB1).on q; have qs1 := qq.size; obtain ⟨bo_0, fo_0, bo_1, fo_1, ol⟩ := zb2 (g := w2.heap.size) q (by simp) (by simp [Cs2, go_sem]) (by simp [Fz2, go_sem]); clear q))
    all_goals (go_wp2_with fail; go_meet)
    all_goals have o : Zn y1 b As ns cs (mkRat p q).num := ⟨by rw [HN.out]; exact s, by rw [HS.out]; exact HB.out⟩
    all_goals refine ⟨_, b, As, ns, cs, rfl, ?_⟩
    all_goals first
      | with_reducible exact loneZA o qq _
      | with_reducible exact loneZB bo_0 bo_1 o qq (by omega)
  case rest =>
    obtain ⟨gt, bt, At, nt, ct, rfl, ⟨t0, t1⟩, ht, b, tge⟩ := hcut
    have tl := cell_lt t0
    simp only at tl
    have tqk : w.heap.size < gt := Nat.lt_of_lt_of_le kl tge
    have tqg : w.heap.size + 1 < gt := Nat.lt_of_lt_of_le gl tge
    rewrite [fR b gl] at f0 f1 f2
    replace p1 := p1.on b
    replace hb := hb.on b
    replace v := v.on b
    rewrite [cR b kl] at k0 k1
    replace kl := lK b kl
    rewrite [cR b gl] at g0 g1 g2
    replace gl := lK b gl
    replace cc := bK cc b
    clear b
    go_wp2_with fail
    have qq : Below wc.heap.size wc wc.drew := below_drewN (Below.refl _ wc) 1
    have p1' := p1.on qq
    have hb' := hb.on qq
    have v' := v.on qq
    have ht' := ht.on qq
    go_region_held3 (fun w' => w'.cell? ⟨w.heap.size, 0, none⟩ = some (.bool b) ∧ w'.cell? ⟨w.heap.size, 1, none⟩ = some (.slice A n c) ∧ w'.cell? ⟨gt, 0, none⟩ = some (.bool bt) ∧ w'.cell? ⟨gt, 1, none⟩ = some (.slice At nt ct))
      (first | with_reducible exact ⟨cK qq k0 kl, cK qq k1 kl, cK qq t0 tl, cK qq t1 tl⟩ | with_reducible exact ⟨(cell_putR (by omega)).trans (cK qq k0 kl), (cell_putR (by omega)).trans (cK qq k1 kl), (cell_putR (by omega)).trans (cK qq t0 tl), (cell_putR (by omega)).trans (cK qq t1 tl)⟩)
      (first
        | (go_at_call 104; (with_reducible refine (rquo_N hb' v' (by omega) (by omega) hg0).mono ?_); rintro e wz ⟨Bm, mm, dm, rfl, qm, q⟩; replace qq := bK qq q; (try replace p1' := p1'.on q); (try replace hb' := hb'.on q); (try replace v' := v'.on q); (try replace ht' := ht'.on q); clear q; have xa0 := cK qq g0 gl; have ya0 := fK qq f0 gl; have xa1 := cK qq g1 gl; have ya1 := fK qq f1 gl; have xa2 := cK qq g2 gl; have ya2 := fK qq f2 gl))
    replace cc := bK cc qq
    have hn : Rt wz bt At nt ct Bm mm dm (mkRat p q) := ⟨ht', by rw [HD.out]; exact qm⟩
    have eb : BoxR wz (w.heap.size + 1) false none 0 0 none 0 0 := ⟨xa0, xa1, xa2⟩
    have HZ : Hid (Rt (putR wz (w.heap.size + 1) (.bool bt) (.slice At nt ct) (.slice Bm mm dm)) bt At nt ct Bm mm dm (mkRat p q)) := Lib.hid (Rt.putR hn eb _ _ _)
    clear hn
    go_wp2_with fail
    refine bodyPost_ret (v := .agg #[.bool bt, .slice At nt ct, .slice Bm mm dm]) (by simp [results, Tryz.results79, go_sem, xa0, xa1, xa2]) rfl ⟨_, _, _, _, _, _, _, rfl, HZ.out, below_putR cc (by omega) _ _ _⟩

end Go.Proofs.YtpephogadljncaaGreat

/-
  The contracts of rat: join, Add, Sub, Mul.
-/
namespace Go.Proofs.YtpephogadljncaaGreat
open Go.RowKit
set_option linter.unusedVariables false
set_option linter.unusedSimpArgs false






end Go.Proofs.YtpephogadljncaaGreat

/-
  The contracts of rat: Make, Of, Cmp, Div, Right.
-/
namespace Go.Proofs.YtpephogadljncaaGreat
set_option maxRecDepth 100000
set_option maxHeartbeats 8000000
open Go.RowKit
set_option linter.unusedVariables false
set_option linter.unusedSimpArgs false

theorem qmake_N {w : World} {b : Bool} {A B : Option Addr} {n c m d q : Nat} {p : Int} (ha : Zn w b A n c p) (hb : Num w B m d q) (hq : q ≠ 0) (hx : (limbs p.natAbs).length ≤ 40) (hy : (limbs q).length ≤ 40) :
    Calls Tryz.prog 45 #[.agg #[.bool b, .slice A n c], .slice B m d] w (GotRp w (mkRat p q) 0) := by
  have cc := Below.refl w.heap.size w
  go_enter Tryz.func45, Tryz.ntmps45
  go_wp2_with fail
  generalize hv_ : (w.alloc (.cells #[.bool b, .slice A n c] 42)).alloc (.cells #[.bool false, .slice none 0 0, .slice none 0 0] 48) = v1
  obtain ⟨f0, f1, f2⟩ : Fz3 v1 (w.heap.size + 1) := by simp [Fz3, ← hv_, go_sem]
  have bA : Below w.heap.size w v1 := by rw [← hv_]; exact (((Below.refl _ w).alloc (by simp) _).alloc (by simp) _)
  replace ha := ha.on bA
  replace hb := hb.on bA
  replace cc := bK cc bA
  clear bA
  obtain ⟨k0, k1⟩ : Cs2 v1 w.heap.size (.bool b) (.slice A n c) := by simp [Cs2, ← hv_, go_sem]
  have kl : w.heap.size < v1.heap.size := by simp [← hv_] <;> omega
  obtain ⟨g0, g1, g2⟩ : Cs3 v1 (w.heap.size + 1) (.bool false) (.slice none 0 0) (.slice none 0 0) := by simp [Cs3, ← hv_, go_sem]
  have gl : w.heap.size + 1 < v1.heap.size := by simp [← hv_] <;> omega
  clear hv_
  refine (isn_N false hb (by omega) (decide_eq_false hq)).mono ?_
  rintro e w2 ⟨rfl, b⟩
  rewrite [fR b gl] at f0 f1 f2
  replace ha := ha.on b
  replace hb := hb.on b
  rewrite [cR b kl] at k0 k1
  replace kl := lK b kl
  rewrite [cR b gl] at g0 g1 g2
  replace gl := lK b gl
  replace cc := bK cc b
  clear b
  go_wp2_with fail
  refine (reduced_N ha hb hq (by omega) (by omega)).mono ?_
  rintro e w3 ⟨bm, Am, nm, cm, Bm, mm, dm, rfl, hm, b⟩
  rewrite [fR b gl] at f0 f1 f2
  replace ha := ha.on b
  replace hb := hb.on b
  rewrite [cR b kl] at k0 k1
  replace kl := lK b kl
  rewrite [cR b gl] at g0 g1 g2
  replace gl := lK b gl
  replace cc := bK cc b
  clear b
  have hn : Rt w3 bm Am nm cm Bm mm dm (mkRat p q) := hm
  have eb : BoxR w3 (w.heap.size + 1) false none 0 0 none 0 0 := ⟨g0, g1, g2⟩
  have HZ : Hid (Rt (putR w3 (w.heap.size + 1) (.bool bm) (.slice Am nm cm) (.slice Bm mm dm)) bm Am nm cm Bm mm dm (mkRat p q)) := Lib.hid (Rt.putR hn eb _ _ _)
  clear hn
  go_wp2_with fail
  refine bodyPost_ret (v := .tuple #[.agg #[.bool bm, .slice Am nm cm, .slice Bm mm dm], .int .i64 0]) (by simp [results, Tryz.results45, go_sem, g0, g1, g2]) rfl ⟨_, _, _, _, _, _, _, rfl, HZ.out, below_putR cc (by omega) _ _ _⟩

theorem qmake_zero {w : World} {b : Bool} {A B : Option Addr} {n c d : Nat} :
    Calls Tryz.prog 45 #[.agg #[.bool b, .slice A n c], .slice B 0 d] w (GotV w (.tuple #[.agg #[.bool false, .slice none 0 0, .slice none 0 0], .int .i64 4])) := by
  have cc := Below.refl w.heap.size w
  go_enter Tryz.func45, Tryz.ntmps45
  go_wp2_with fail
  generalize hv_ : (w.alloc (.cells #[.bool b, .slice A n c] 42)).alloc (.cells #[.bool false, .slice none 0 0, .slice none 0 0] 48) = v1
  obtain ⟨f0, f1, f2⟩ : Fz3 v1 (w.heap.size + 1) := by simp [Fz3, ← hv_, go_sem]
  have bA : Below w.heap.size w v1 := by rw [← hv_]; exact (((Below.refl _ w).alloc (by simp) _).alloc (by simp) _)
  replace cc := bK cc bA
  clear bA
  obtain ⟨k0, k1⟩ : Cs2 v1 w.heap.size (.bool b) (.slice A n c) := by simp [Cs2, ← hv_, go_sem]
  have kl : w.heap.size < v1.heap.size := by simp [← hv_] <;> omega
  obtain ⟨g0, g1, g2⟩ : Cs3 v1 (w.heap.size + 1) (.bool false) (.slice none 0 0) (.slice none 0 0) := by simp [Cs3, ← hv_, go_sem]
  have gl : w.heap.size + 1 < v1.heap.size := by simp [← hv_] <;> omega
  clear hv_
  refine (isn_N true (num_nil _ B d) len_nil (by simp)).mono ?_
  rintro e w2 ⟨rfl, b⟩
  rewrite [fR b gl] at f0 f1 f2
  rewrite [cR b kl] at k0 k1
  replace kl := lK b kl
  rewrite [cR b gl] at g0 g1 g2
  replace gl := lK b gl
  replace cc := bK cc b
  clear b
  go_wp2_with fail
  exact bodyPost_ret (v := .tuple #[.agg #[.bool false, .slice none 0 0, .slice none 0 0], .int .i64 4]) (by simp [results, Tryz.results45, go_sem, g0, g1, g2]) rfl ⟨rfl, below_putR cc (by omega) _ _ _⟩



theorem rt_inv {w : World} {b : Bool} {A B : Option Addr} {n c m d : Nat} {x : Rat} (h : Rt w b A n c B m d x) (hne : x.num ≠ 0) : Rt w b B m d A n c x⁻¹ := by
  refine ⟨?_, ?_⟩
  · rw [inv_num x hne]; exact zn_side h.1 h.2 x.den_nz
  · rw [inv_den x hne]; exact h.1.1




theorem gcd_any {p q k : Nat} (hp : (limbs p).length ≤ k) (hq : (limbs q).length ≤ k) : (limbs (Nat.gcd p q)).length ≤ k := by
  rcases Nat.eq_zero_or_pos q with h | h
  · subst h; rw [Nat.gcd_zero_right]; exact hp
  · exact gcd_len (by omega) hq





end Go.Proofs.YtpephogadljncaaGreat

/-
  Rationals on a grid: rounded down, up, to the nearest; a multiple's number.
-/
namespace Go.Proofs.YtpephogadljncaaGreat
set_option linter.unusedSimpArgs false

theorem cmpQ_scale (a b c : Rat) (h : 0 < c) : cmpQ (a * c) (b * c) = cmpQ a b := by
  have e1 : (a * c < b * c) ↔ a < b := by
    constructor
    · intro h1; exact Rat.lt_of_mul_lt_mul_right h1 (Rat.le_of_lt h)
    · intro h1; exact Rat.mul_lt_mul_of_pos_right h1 h
  have e2 : (b * c < a * c) ↔ b < a := by
    constructor
    · intro h1; exact Rat.lt_of_mul_lt_mul_right h1 (Rat.le_of_lt h)
    · intro h1; exact Rat.mul_lt_mul_of_pos_right h1 h
  unfold cmpQ; simp only [e1, e2]
/-- To the nearest whole number, of two as near the even one. -/
def nr (A : Rat) : Int := if A - (A.floor : Rat) < ((-(-A).floor : Int) : Rat) - A ∨ (A - (A.floor : Rat) = ((-(-A).floor : Int) : Rat) - A ∧ A.floor % 2 = 0) then A.floor else -(-A).floor
theorem fl_le (A : Rat) : (A.floor : Rat) ≤ A := Rat.floor_le A
theorem fl_lt (A : Rat) : A < (A.floor : Rat) + 1 := by
  have := Rat.lt_floor_add_one A
  rw [Rat.intCast_add] at this; exact this
theorem fl_eq {A : Rat} {n : Int} (h1 : (n : Rat) ≤ A) (h2 : A < (n : Rat) + 1) : A.floor = n := by
  have a1 := Rat.le_floor_iff.2 h1
  have a2 : A.floor < n + 1 := Rat.floor_lt_iff.2 (by rw [Rat.intCast_add]; exact h2)
  omega
theorem up_ge (A : Rat) : A ≤ ((-(-A).floor : Int) : Rat) := by
  have := fl_le (-A); rw [Rat.intCast_neg]; grind
theorem up_lt (A : Rat) : ((-(-A).floor : Int) : Rat) < A + 1 := by
  have := fl_lt (-A); rw [Rat.intCast_neg]; grind
theorem up_cases (A : Rat) : (-(-A).floor = A.floor ∧ A = (A.floor : Rat)) ∨ (-(-A).floor = A.floor + 1 ∧ (A.floor : Rat) < A) := by
  have h1 := fl_le A
  have h2 := fl_lt A
  have h3 := up_ge A
  have h4 := up_lt A
  rcases Classical.em ((A.floor : Rat) < A) with h | h
  · right
    refine ⟨?_, h⟩
    have : (-A).floor = -(A.floor + 1) := by
      apply fl_eq
      · rw [Rat.intCast_neg, Rat.intCast_add]; grind
      · rw [Rat.intCast_neg, Rat.intCast_add]; grind
    omega
  · left
    have h' : A = (A.floor : Rat) := by grind
    refine ⟨?_, h'⟩
    have : (-A).floor = -A.floor := by
      apply fl_eq
      · rw [Rat.intCast_neg]; grind
      · rw [Rat.intCast_neg]; grind
    omega
/-- n is at most half a step away, and even, if it is just that. -/
def NrHalf (A : Rat) (n : Int) : Prop := (n : Rat) - A + ((n : Rat) - A) ≤ 1 ∧ A - (n : Rat) + (A - (n : Rat)) ≤ 1 ∧ (((n : Rat) - A + ((n : Rat) - A) = 1 ∨ A - (n : Rat) + (A - (n : Rat)) = 1) → n % 2 = 0)
theorem nr_half (A : Rat) : NrHalf A (nr A) := by
  have f1 := fl_le A
  have f2 := fl_lt A
  unfold nr NrHalf
  rcases up_cases A with ⟨h1, h2⟩ | ⟨h1, h2⟩
  · have e : (if A - (A.floor : Rat) < ((-(-A).floor : Int) : Rat) - A ∨ (A - (A.floor : Rat) = ((-(-A).floor : Int) : Rat) - A ∧ A.floor % 2 = 0) then A.floor else -(-A).floor) = A.floor := by rw [h1]; split <;> rfl
    rw [e]
    refine ⟨by grind, by grind, ?_⟩
    intro h; exfalso; grind
  · rw [h1, Rat.intCast_add]
    have e : ((1 : Int) : Rat) = 1 := rfl
    rw [e]
    by_cases hc : A - (A.floor : Rat) < (A.floor : Rat) + 1 - A ∨ (A - (A.floor : Rat) = (A.floor : Rat) + 1 - A ∧ A.floor % 2 = 0)
    · rw [if_pos hc]
      refine ⟨by grind, by grind, ?_⟩
      intro h
      rcases hc with hc | ⟨_, hc⟩
      · exfalso; grind
      · exact hc
    · rw [if_neg hc, Rat.intCast_add, e]
      have hn : ¬ A - (A.floor : Rat) < (A.floor : Rat) + 1 - A := fun x => hc (.inl x)
      refine ⟨by grind, by grind, ?_⟩
      intro h
      have h4 : A.floor % 2 ≠ 0 := fun x => by
        rcases h with h | h
        · exact hc (.inr ⟨by grind, x⟩)
        · grind
      omega
theorem half_unique {A : Rat} {n m : Int} (h : NrHalf A n) (g : NrHalf A m) : n = m := by
  obtain ⟨h1, h2, h3⟩ := h
  obtain ⟨g1, g2, g3⟩ := g
  have o : ((1 : Int) : Rat) = 1 := rfl
  have k1 : ((m : Int) : Rat) ≤ ((n + 1 : Int) : Rat) := by rw [Rat.intCast_add, o]; grind
  have k2 : ((n : Int) : Rat) ≤ ((m + 1 : Int) : Rat) := by rw [Rat.intCast_add, o]; grind
  rw [Rat.intCast_le_intCast] at k1 k2
  have : n = m ∨ m = n + 1 ∨ n = m + 1 := by omega
  rcases this with h | h | h
  · exact h
  · exfalso
    have e : ((m : Int) : Rat) = (n : Rat) + 1 := by rw [h, Rat.intCast_add, o]
    have b1 := g3 (.inl (by grind))
    have b2 := h3 (.inr (by grind))
    omega
  · exfalso
    have e : ((n : Int) : Rat) = (m : Rat) + 1 := by rw [h, Rat.intCast_add, o]
    have b1 := g3 (.inr (by grind))
    have b2 := h3 (.inl (by grind))
    omega
theorem nr_unique {A : Rat} {n : Int} (h : NrHalf A n) : nr A = n := half_unique (nr_half A) h
theorem nr_neg (A : Rat) : nr (-A) = -nr A := by
  obtain ⟨g1, g2, g3⟩ := nr_half A
  apply nr_unique
  unfold NrHalf
  rw [Rat.intCast_neg]
  refine ⟨by grind, by grind, ?_⟩
  intro h
  have : nr A % 2 = 0 := g3 (by grind)
  omega
theorem nr_int (n : Int) : nr (n : Rat) = n := by
  apply nr_unique
  unfold NrHalf
  refine ⟨by grind, by grind, ?_⟩
  intro h; exfalso; grind
theorem nr_mono {A B : Rat} (h : A ≤ B) : nr A ≤ nr B := by
  obtain ⟨g1, g2, g3⟩ := nr_half A
  obtain ⟨f1, f2, f3⟩ := nr_half B
  rcases Int.lt_or_le (nr B) (nr A) with h1 | h1
  · exfalso
    have k : ((nr B + 1 : Int) : Rat) ≤ ((nr A : Int) : Rat) := Rat.intCast_le_intCast.2 (by omega)
    rw [Rat.intCast_add] at k
    have e1 : ((1 : Int) : Rat) = 1 := rfl
    rw [e1] at k
    have b1 := g3 (.inl (by grind))
    have b2 := f3 (.inr (by grind))
    have k2 : ((nr A : Int) : Rat) = ((nr B + 1 : Int) : Rat) := by rw [Rat.intCast_add, e1]; grind
    have := Rat.intCast_inj.1 k2
    omega
  · exact h1
theorem nr_one (A : Rat) : nr A = A.floor ∨ nr A = -(-A).floor := by unfold nr; split <;> simp
/-- 2 to the power of k. -/
def dw (k : Nat) : Rat := ((2 ^ k : Nat) : Rat)
theorem dw_pos (k : Nat) : 0 < dw k := by
  unfold dw
  have : 0 < 2 ^ k := Nat.pow_pos (by omega)
  exact Rat.natCast_pos.2 this
theorem dw_add (k n : Nat) : dw (k + n) = dw k * dw n := by
  unfold dw
  rw [Nat.pow_add, Rat.natCast_mul]
def flo (a : Rat) (k : Nat) : Int := (a * dw k).floor
def cei (a : Rat) (k : Nat) : Int := -flo (-a) k
def nea (a : Rat) (k : Nat) : Int := nr (a * dw k)
def bak (n : Int) (k : Nat) : Rat := mkRat n (2 ^ k)
theorem bak_mul (n : Int) (k : Nat) : bak n k * dw k = (n : Rat) := by
  unfold bak dw
  have h : (2 ^ k : Nat) ≠ 0 := Nat.ne_of_gt (Nat.pow_pos (by omega))
  have h2 : ((2 ^ k : Nat) : Rat) = mkRat ((2 ^ k : Nat) : Int) 1 := by rw [Rat.mkRat_one]; rfl
  have h3 : (n : Rat) = mkRat n 1 := by rw [Rat.mkRat_one]
  rw [h2, h3, Rat.mkRat_mul_mkRat, Rat.mkRat_eq_iff (by omega) (by omega)]
  simp
theorem bak_eq (n : Int) (k : Nat) : bak n k = (n : Rat) / dw k := by
  have h := bak_mul n k
  have := dw_pos k
  grind
theorem dw_cancel {a b : Rat} {k : Nat} (h : a * dw k = b * dw k) : a = b := by
  have := dw_pos k
  have h0 : dw k ≠ 0 := by grind
  grind
theorem floor_mk (p : Int) (q : Nat) (hq : q ≠ 0) : (mkRat p q).floor = p / (q : Int) := by
  have h0 : (0 : Int) < q := by omega
  have hm : mkRat p q * (q : Rat) = (p : Rat) := by
    have h2 : ((q : Nat) : Rat) = mkRat ((q : Nat) : Int) 1 := by rw [Rat.mkRat_one]; rfl
    have h3 : (p : Rat) = mkRat p 1 := by rw [Rat.mkRat_one]
    rw [h2, h3, Rat.mkRat_mul_mkRat, Rat.mkRat_eq_iff (by omega) (by omega)]
    simp
  have hqp : (0 : Rat) < (q : Rat) := Rat.natCast_pos.2 (by omega)
  have e : ((q : Int) : Rat) = (q : Rat) := rfl
  apply fl_eq
  · have h1 : p / (q : Int) * (q : Int) ≤ p := Int.ediv_mul_le _ (by omega)
    have h2 : ((p / (q : Int) * (q : Int) : Int) : Rat) ≤ (p : Rat) := Rat.intCast_le_intCast.2 h1
    rw [Rat.intCast_mul, e, ← hm] at h2
    exact Rat.le_of_mul_le_mul_right h2 hqp
  · have h1 : p < (p / (q : Int) + 1) * (q : Int) := Int.lt_ediv_add_one_mul_self _ h0
    have h2 : (p : Rat) < (((p / (q : Int) + 1) * (q : Int) : Int) : Rat) := Rat.intCast_lt_intCast.2 h1
    rw [Rat.intCast_mul, Rat.intCast_add, e, ← hm] at h2
    exact Rat.lt_of_mul_lt_mul_right h2 (Rat.le_of_lt hqp)
theorem flo_ediv (a : Rat) (k : Nat) : flo a k = a.num * ((2 ^ k : Nat) : Int) / (a.den : Int) := by
  unfold flo dw
  have h2 : ((2 ^ k : Nat) : Rat) = mkRat ((2 ^ k : Nat) : Int) 1 := by rw [Rat.mkRat_one]; rfl
  have h3 : a * mkRat ((2 ^ k : Nat) : Int) 1 = mkRat (a.num * ((2 ^ k : Nat) : Int)) a.den := by
    conv => lhs; rw [← Rat.mkRat_self a]
    rw [Rat.mkRat_mul_mkRat, Nat.mul_one]
  rw [h2, h3, floor_mk _ _ a.den_nz]
/-- As the document's answer reckons it: of the size, and the side put on. -/
theorem flo_pos (a : Rat) (k : Nat) (h : ¬ a.num < 0) : flo a k = ((a.num.natAbs * 2 ^ k / a.den : Nat) : Int) := by
  rw [flo_ediv]
  have e : a.num = (a.num.natAbs : Int) := by omega
  conv => lhs; rw [e]
  rw [← Int.natCast_mul, ← Int.natCast_ediv]
theorem flo_neg (a : Rat) (k : Nat) (h : a.num < 0) : flo a k = -((a.num.natAbs * 2 ^ k / a.den + (if a.num.natAbs * 2 ^ k % a.den = 0 then 0 else 1) : Nat) : Int) := by
  rw [flo_ediv]
  have e : a.num = -(a.num.natAbs : Int) := by omega
  conv => lhs; rw [e]
  have hd : 0 < a.den := Nat.pos_of_ne_zero a.den_nz
  generalize a.den = d at hd ⊢
  rw [Int.neg_mul, ← Int.natCast_mul]
  generalize a.num.natAbs * 2 ^ k = x
  have h1 := Nat.div_add_mod x d
  have h2 := Nat.mod_lt x hd
  generalize x / d = q at h1 ⊢
  generalize x % d = r at h1 h2 ⊢
  subst h1
  split
  · next h0 =>
    subst h0
    simp only [Nat.add_zero]
    rw [Int.natCast_mul, show -((d : Int) * (q : Int)) = (d : Int) * (-(q : Int)) by rw [Int.mul_neg], Int.mul_ediv_cancel_left _ (by omega)]
  · next h0 =>
    have : -((d * q + r : Nat) : Int) = ((d : Int) - (r : Int)) + (d : Int) * (-((q + 1 : Nat) : Int)) := by
      simp only [Int.natCast_add, Int.natCast_mul, Int.mul_neg, Int.mul_add]; omega
    rw [this, Int.add_mul_ediv_left _ _ (by omega), Int.ediv_eq_zero_of_lt (by omega) (by omega)]
    omega
theorem cei_up (a : Rat) (k : Nat) : cei a k = -(-(a * dw k)).floor := by
  unfold cei flo; rw [Rat.neg_mul]
/-- How the document's answer takes the nearest: by which of both is nearer. -/
theorem nea_by (a : Rat) (k : Nat) : nea a k = if cmpQ (a - bak (flo a k) k) (bak (cei a k) k - a) < 0 ∨ (cmpQ (a - bak (flo a k) k) (bak (cei a k) k - a) = 0 ∧ flo a k % 2 = 0) then flo a k else cei a k := by
  have hp := dw_pos k
  rw [← cmpQ_scale _ _ _ hp]
  have e1 : (a - bak (flo a k) k) * dw k = a * dw k - (flo a k : Rat) := by rw [← bak_mul (flo a k) k]; grind
  have e2 : (bak (cei a k) k - a) * dw k = (cei a k : Rat) - a * dw k := by rw [← bak_mul (cei a k) k]; grind
  rw [e1, e2, cei_up]
  unfold nea nr flo cmpQ
  generalize a * dw k = A
  generalize -(-A).floor = hi
  generalize A.floor = lo
  by_cases h1 : A - (lo : Rat) < (hi : Rat) - A
  · simp [h1]
  · by_cases h2 : (hi : Rat) - A < A - (lo : Rat)
    · have h3 : ¬ (A - (lo : Rat) = (hi : Rat) - A) := by grind
      simp [h1, h2, h3]
    · have h3 : A - (lo : Rat) = (hi : Rat) - A := by grind
      simp [h1, h2, h3]
theorem bak_one (k : Nat) : bak 1 k * dw k = 1 := by rw [bak_mul]; rfl
theorem low_le (a : Rat) (k : Nat) : cmpQ (bak (flo a k) k) a ≤ 0 := by
  rw [← cmpQ_scale _ _ _ (dw_pos k), bak_mul]
  have := fl_le (a * dw k)
  unfold flo cmpQ; grind
theorem high_ge (a : Rat) (k : Nat) : cmpQ a (bak (cei a k) k) ≤ 0 := by
  rw [← cmpQ_scale _ _ _ (dw_pos k), bak_mul, cei_up]
  have := up_ge (a * dw k)
  unfold cmpQ; grind
theorem on_both (a : Rat) (k : Nat) : (bak (flo a k) k = a ↔ bak (cei a k) k = a) ∧ (bak (flo a k) k ≠ a → bak (cei a k) k - bak (flo a k) k = bak 1 k) := by
  have hp := dw_pos k
  have h1 : bak (flo a k) k = a ↔ ((flo a k : Int) : Rat) = a * dw k := by
    rw [← bak_mul (flo a k) k]; constructor
    · intro h; rw [h]
    · intro h; exact dw_cancel h
  have h2 : bak (cei a k) k = a ↔ ((cei a k : Int) : Rat) = a * dw k := by
    rw [← bak_mul (cei a k) k]; constructor
    · intro h; rw [h]
    · intro h; exact dw_cancel h
  rw [h1, h2, cei_up]
  have hc := up_cases (a * dw k)
  unfold flo at *
  have o : ((1 : Int) : Rat) = 1 := rfl
  rcases hc with ⟨c1, c2⟩ | ⟨c1, c2⟩
  · rw [c1]
    refine ⟨Iff.rfl, fun h => absurd (h1.2 c2.symm) h⟩
  · refine ⟨⟨fun h => by exfalso; grind, fun h => ?_⟩, fun h => ?_⟩
    · exfalso
      have u := up_lt (a * dw k)
      have f := fl_lt (a * dw k)
      rw [c1, Rat.intCast_add, o] at h
      grind
    · apply dw_cancel (k := k)
      rw [bak_one]
      have e := bak_mul (-(-(a * dw k)).floor) k
      have e' := bak_mul ((a * dw k).floor) k
      rw [c1, Rat.intCast_add, o] at e
      rw [c1]
      grind
theorem nea_one (a : Rat) (k : Nat) : nea a k = flo a k ∨ nea a k = cei a k := by rw [cei_up]; exact nr_one _
def absQ (x : Rat) : Rat := if x < 0 then -x else x
theorem near_half (a : Rat) (k : Nat) : cmpQ (absQ (bak (nea a k) k - a) + absQ (bak (nea a k) k - a)) (bak 1 k) ≤ 0 ∧ (absQ (bak (nea a k) k - a) + absQ (bak (nea a k) k - a) = bak 1 k → nea a k % 2 = 0) := by
  have hp := dw_pos k
  obtain ⟨h1, h2, h3⟩ := nr_half (a * dw k)
  have e : ∀ x : Rat, absQ x * dw k = absQ (x * dw k) := by
    intro x
    unfold absQ
    by_cases hx : x < 0
    · have : x * dw k < 0 := by
        have := Rat.mul_lt_mul_of_pos_right hx hp
        rwa [Rat.zero_mul] at this
      rw [if_pos hx, if_pos this, Rat.neg_mul]
    · have : ¬ x * dw k < 0 := by
        have h0 : 0 ≤ x := by grind
        have := Rat.mul_nonneg h0 (Rat.le_of_lt hp)
        grind
      rw [if_neg hx, if_neg this]
  have e2 : (bak (nea a k) k - a) * dw k = (nea a k : Rat) - a * dw k := by rw [← bak_mul (nea a k) k]; grind
  have e3 : (absQ (bak (nea a k) k - a) + absQ (bak (nea a k) k - a)) * dw k = absQ ((nea a k : Rat) - a * dw k) + absQ ((nea a k : Rat) - a * dw k) := by rw [Rat.add_mul, e, e2]
  refine ⟨?_, fun h => ?_⟩
  · rw [← cmpQ_scale _ _ _ hp, e3, bak_one]
    unfold nea absQ cmpQ
    grind
  · have h4 : (absQ (bak (nea a k) k - a) + absQ (bak (nea a k) k - a)) * dw k = bak 1 k * dw k := by rw [h]
    rw [e3, bak_one] at h4
    unfold nea at *
    apply h3
    unfold absQ at h4
    grind
theorem flo_mono {a b : Rat} (k : Nat) (h : a ≤ b) : flo a k ≤ flo b k := Rat.floor_monotone (Rat.mul_le_mul_of_nonneg_right h (Rat.le_of_lt (dw_pos k)))
theorem cei_mono {a b : Rat} (k : Nat) (h : a ≤ b) : cei a k ≤ cei b k := by
  have : flo (-b) k ≤ flo (-a) k := flo_mono k (by grind)
  unfold cei; omega
theorem nea_mono {a b : Rat} (k : Nat) (h : a ≤ b) : nea a k ≤ nea b k := nr_mono (Rat.mul_le_mul_of_nonneg_right h (Rat.le_of_lt (dw_pos k)))
theorem cei_neg (a : Rat) (k : Nat) : cei (-a) k = -flo a k := by unfold cei; rw [Rat.neg_neg]
theorem nea_neg (a : Rat) (k : Nat) : nea (-a) k = -nea a k := by unfold nea; rw [Rat.neg_mul, nr_neg]
theorem flo_bak (n : Int) (k : Nat) : flo (bak n k) k = n := by unfold flo; rw [bak_mul, Rat.floor_intCast]
theorem bak_neg (n : Int) (k : Nat) : -bak n k = bak (-n) k := by
  apply dw_cancel (k := k)
  rw [Rat.neg_mul, bak_mul, bak_mul, Rat.intCast_neg]
theorem cei_bak (n : Int) (k : Nat) : cei (bak n k) k = n := by unfold cei; rw [bak_neg, flo_bak]; omega
theorem nea_bak (n : Int) (k : Nat) : nea (bak n k) k = n := by unfold nea; rw [bak_mul, nr_int]
theorem nea_fine (n : Int) (k : Nat) : nea (bak n k) (k + 1) = n + n := by
  unfold nea
  rw [dw_add, ← Rat.mul_assoc, bak_mul, show (n : Rat) * dw 1 = ((n + n : Int) : Rat) by rw [Rat.intCast_add]; unfold dw; grind, nr_int]
theorem flo_add (a b : Rat) (k : Nat) : flo a k + flo b k ≤ flo (a + b) k ∧ flo (a + b) k ≤ flo a k + flo b k + 1 := by
  unfold flo
  rw [Rat.add_mul]
  generalize a * dw k = A
  generalize b * dw k = B
  have f1 := fl_le A
  have f2 := fl_lt A
  have f3 := fl_le B
  have f4 := fl_lt B
  have o : ((1 : Int) : Rat) = 1 := rfl
  refine ⟨Rat.le_floor_iff.2 (by rw [Rat.intCast_add]; grind), ?_⟩
  have : (A + B).floor < A.floor + B.floor + 1 + 1 := Rat.floor_lt_iff.2 (by rw [Rat.intCast_add, Rat.intCast_add, Rat.intCast_add, o]; grind)
  omega
theorem flo_shift (a : Rat) (n : Int) (k : Nat) : flo (a + bak n k) k = flo a k + n := by
  unfold flo
  rw [Rat.add_mul, bak_mul, Rat.floor_add_intCast]
theorem flo_finer (a : Rat) (k n : Nat) : flo (bak (flo a (k + n)) (k + n)) k = flo a k := by
  have hb := bak_mul (flo a (k + n)) (k + n)
  have hp := dw_pos n
  have hl := fl_le (a * dw (k + n))
  have hm : ∀ m : Int, (m : Rat) ≤ bak (flo a (k + n)) (k + n) * dw k ↔ (m : Rat) ≤ a * dw k := by
    intro m
    have e1 : (m : Rat) * dw n = ((m * ((2 ^ n : Nat) : Int) : Int) : Rat) := by rw [Rat.intCast_mul]; rfl
    have g1 : (m : Rat) ≤ bak (flo a (k + n)) (k + n) * dw k ↔ (m : Rat) * dw n ≤ ((flo a (k + n) : Int) : Rat) := by
      rw [← hb, dw_add, ← Rat.mul_assoc]
      exact ⟨fun h => Rat.mul_le_mul_of_nonneg_right h (Rat.le_of_lt hp), fun h => Rat.le_of_mul_le_mul_right h hp⟩
    have g2 : (m : Rat) ≤ a * dw k ↔ (m : Rat) * dw n ≤ a * dw (k + n) := by
      rw [dw_add, ← Rat.mul_assoc]
      exact ⟨fun h => Rat.mul_le_mul_of_nonneg_right h (Rat.le_of_lt hp), fun h => Rat.le_of_mul_le_mul_right h hp⟩
    rw [g1, g2, e1, Rat.intCast_le_intCast]
    unfold flo
    exact Rat.le_floor_iff
  apply Int.le_antisymm
  · unfold flo
    exact Rat.le_floor_iff.2 ((hm _).1 (Rat.le_floor_iff.1 (Int.le_refl _)))
  · exact Rat.le_floor_iff.2 ((hm _).2 (Rat.le_floor_iff.1 (Int.le_refl _)))
theorem cei_finer (a : Rat) (k n : Nat) : cei (bak (cei a (k + n)) (k + n)) k = cei a k := by
  unfold cei
  rw [bak_neg, Int.neg_neg, flo_finer]
theorem flo_shr (a : Rat) (k n : Nat) : flo a k = flo a (k + n) / ((2 ^ n : Nat) : Int) := by
  rw [← flo_finer a k n, flo_ediv]
  have h0 : (2 ^ n : Nat) ≠ 0 := Nat.ne_of_gt (Nat.pow_pos (by omega))
  have h1 : (2 ^ (k + n) : Nat) ≠ 0 := Nat.ne_of_gt (Nat.pow_pos (by omega))
  have h2 : (2 ^ k : Nat) ≠ 0 := Nat.ne_of_gt (Nat.pow_pos (by omega))
  rw [← flo_ediv, flo, bak]
  have e : mkRat (flo a (k + n)) (2 ^ (k + n)) * dw k = mkRat (flo a (k + n)) (2 ^ n) := by
    unfold dw
    have h3 : ((2 ^ k : Nat) : Rat) = mkRat ((2 ^ k : Nat) : Int) 1 := by rw [Rat.mkRat_one]; rfl
    rw [h3, Rat.mkRat_mul_mkRat, Rat.mkRat_eq_iff (by omega) h0, Nat.pow_add]
    simp only [Nat.mul_one, Int.natCast_mul]
    ac_rfl
  rw [e, floor_mk _ _ h0]
end Go.Proofs.YtpephogadljncaaGreat

/-
  The contracts of the sixth reference: Back, Floor, Ceil.
-/
namespace Go.Proofs.YtpephogadljncaaGreat
set_option maxRecDepth 100000
set_option maxHeartbeats 8000000
open Go.RowKit
set_option linter.unusedVariables false
set_option linter.unusedSimpArgs false

/-- A call has answered an integer and a code. -/
def GotZp (w : World) (z : Int) (r : Int) (e : Ending) (w' : World) : Prop := ∃ b A n c, e = .returned (.tuple #[.agg #[.bool b, .slice A n c], .int .i64 r]) ∧ Zn w' b A n c z ∧ Below w.heap.size w w'
theorem len_pow2 {k : Nat} (h : k ≤ 500) : (limbs (2 ^ k)).length ≤ 8 := by
  refine Nat.le_trans (limbs_length_le (k := k / 64 + 1) ?_) (by omega)
  rw [show B64 = 2 ^ 64 from rfl, ← Nat.pow_mul]
  exact Nat.pow_lt_pow_right (by omega) (by omega)
theorem to_nat {j : Int} (h : 0 ≤ j) : ((j.toNat : Nat) : Int) = j := Int.toNat_of_nonneg h
theorem zn_none (w : World) : Zn w false none 0 0 0 := ⟨num_zero w, rfl⟩

theorem rback_N {w : World} {b : Bool} {A : Option Addr} {n c : Nat} {z : Int} (ha : Zn w b A n c z) (hz : (limbs z.natAbs).length ≤ 80) {j : Int} (h0 : 0 ≤ j) (h1 : j ≤ 500) :
    Calls Tryz.prog 110 #[.agg #[.bool b, .slice A n c], .int .i64 j] w (GotRp w (bak z j.toNat) 0) := by
  have t1 : decide (j < 0) = false := decide_eq_false (by omega)
  have t2 : decide (2000 < j) = false := decide_eq_false (by omega)
  have je := to_nat h0
  have jl : j.toNat ≤ 500 := by omega
  obtain ⟨k, hk⟩ : ∃ k, j.toNat = k := ⟨_, rfl⟩
  rw [hk] at je jl ⊢
  have lk := len_pow2 jl
  have CS : ∀ {W : World} {A : Option Addr} {m c x : Nat}, Num W A m c x → (limbs x).length ≤ 1000 → Calls Tryz.prog 93 #[.slice A m c, .int .i64 j] W (GotP W (x * 2 ^ k) 0) := fun ha hx => by rw [← je]; exact rshl_N ha hx (by omega)
  clear hk
  have hp : 2 ^ k ≠ 0 := Nat.ne_of_gt (Nat.pow_pos (by omega))
  have l1 : (limbs 1).length ≤ 1000 := Nat.le_trans (len_one (by decide)) (by omega)
  clear je h0 h1
  have cc := Below.refl w.heap.size w
  go_enter Tryz.func110, Tryz.ntmps110
  go_wp2_with fail
  generalize hv_ : (w.alloc (.cells #[.bool b, .slice A n c] 42)).alloc (.cells #[.bool false, .slice none 0 0, .slice none 0 0] 48) = v1
  obtain ⟨f0, f1, f2⟩ : Fz3 v1 (w.heap.size + 1) := by simp [Fz3, ← hv_, go_sem]
  have bA : Below w.heap.size w v1 := by rw [← hv_]; exact (((Below.refl _ w).alloc (by simp) _).alloc (by simp) _)
  replace ha := ha.on bA
  replace cc := bK cc bA
  clear bA
  obtain ⟨k0, k1⟩ : Cs2 v1 w.heap.size (.bool b) (.slice A n c) := by simp [Cs2, ← hv_, go_sem]
  have kl : w.heap.size < v1.heap.size := by simp [← hv_] <;> omega
  obtain ⟨g0, g1, g2⟩ : Cs3 v1 (w.heap.size + 1) (.bool false) (.slice none 0 0) (.slice none 0 0) := by simp [Cs3, ← hv_, go_sem]
  have gl : w.heap.size + 1 < v1.heap.size := by simp [← hv_] <;> omega
  clear hv_
  refine (rof_N v1 1 (by decide)).mono ?_
  rintro e w2 ⟨Ao, no, co, rfl, o, b⟩
  rewrite [fR b gl] at f0 f1 f2
  replace ha := ha.on b
  rewrite [cR b kl] at k0 k1
  replace kl := lK b kl
  rewrite [cR b gl] at g0 g1 g2
  replace gl := lK b gl
  replace cc := bK cc b
  clear b
  go_wp2_with fail
  refine (CS o l1).mono ?_
  rintro e w3 ⟨Aq, nq, cq, rfl, q, b⟩
  rw [Nat.one_mul] at q
  rewrite [fR b gl] at f0 f1 f2
  replace ha := ha.on b
  replace o := o.on b
  rewrite [cR b kl] at k0 k1
  replace kl := lK b kl
  rewrite [cR b gl] at g0 g1 g2
  replace gl := lK b gl
  replace cc := bK cc b
  clear b
  go_wp2_with fail
  refine (rtmake_N ha q hp (by omega) (by omega)).mono ?_
  rintro e w4 ⟨bm, Am, nm, cm, Bm, mm, dm, rfl, hm, b⟩
  rewrite [fR b gl] at f0 f1 f2
  replace ha := ha.on b
  replace o := o.on b
  replace q := q.on b
  rewrite [cR b kl] at k0 k1
  replace kl := lK b kl
  rewrite [cR b gl] at g0 g1 g2
  replace gl := lK b gl
  replace cc := bK cc b
  clear b
  have hn : Rt w4 bm Am nm cm Bm mm dm (bak z k) := hm
  have eb : BoxR w4 (w.heap.size + 1) false none 0 0 none 0 0 := ⟨g0, g1, g2⟩
  have HZ : Hid (Rt (putR w4 (w.heap.size + 1) (.bool bm) (.slice Am nm cm) (.slice Bm mm dm)) bm Am nm cm Bm mm dm (bak z k)) := Lib.hid (Rt.putR hn eb _ _ _)
  clear hn
  go_wp2_with fail
  refine bodyPost_ret (v := .tuple #[.agg #[.bool bm, .slice Am nm cm, .slice Bm mm dm], .int .i64 0]) (by simp [results, Tryz.results110, go_sem, g0, g1, g2]) rfl ⟨_, _, _, _, _, _, _, rfl, HZ.out, below_putR cc (by omega) _ _ _⟩

theorem rback_no0 {w : World} {b : Bool} {A : Option Addr} {n c : Nat} {j : Int} (h : j < 0) :
    Calls Tryz.prog 110 #[.agg #[.bool b, .slice A n c], .int .i64 j] w (GotV w (.tuple #[.agg #[.bool false, .slice none 0 0, .slice none 0 0], .int .i64 1])) := by
  have t1 : decide (j < 0) = true := decide_eq_true h
  have cc := Below.refl w.heap.size w
  go_enter Tryz.func110, Tryz.ntmps110
  go_wp2_with fail
  generalize hv_ : (w.alloc (.cells #[.bool b, .slice A n c] 42)).alloc (.cells #[.bool false, .slice none 0 0, .slice none 0 0] 48) = v1
  obtain ⟨f0, f1, f2⟩ : Fz3 v1 (w.heap.size + 1) := by simp [Fz3, ← hv_, go_sem]
  have bA : Below w.heap.size w v1 := by rw [← hv_]; exact (((Below.refl _ w).alloc (by simp) _).alloc (by simp) _)
  replace cc := bK cc bA
  clear bA
  obtain ⟨k0, k1⟩ : Cs2 v1 w.heap.size (.bool b) (.slice A n c) := by simp [Cs2, ← hv_, go_sem]
  have kl : w.heap.size < v1.heap.size := by simp [← hv_] <;> omega
  obtain ⟨g0, g1, g2⟩ : Cs3 v1 (w.heap.size + 1) (.bool false) (.slice none 0 0) (.slice none 0 0) := by simp [Cs3, ← hv_, go_sem]
  have gl : w.heap.size + 1 < v1.heap.size := by simp [← hv_] <;> omega
  clear hv_
  exact bodyPost_ret (v := .tuple #[.agg #[.bool false, .slice none 0 0, .slice none 0 0], .int .i64 1]) (by simp [results, Tryz.results110, go_sem, g0, g1, g2]) rfl ⟨rfl, cc⟩

theorem rback_no1 {w : World} {b : Bool} {A : Option Addr} {n c : Nat} {j : Int} (h : 2000 < j) :
    Calls Tryz.prog 110 #[.agg #[.bool b, .slice A n c], .int .i64 j] w (GotV w (.tuple #[.agg #[.bool false, .slice none 0 0, .slice none 0 0], .int .i64 1])) := by
  have t1 : decide (j < 0) = false := decide_eq_false (by omega)
  have t2 : decide (2000 < j) = true := decide_eq_true h
  have cc := Below.refl w.heap.size w
  go_enter Tryz.func110, Tryz.ntmps110
  go_wp2_with fail
  generalize hv_ : (w.alloc (.cells #[.bool b, .slice A n c] 42)).alloc (.cells #[.bool false, .slice none 0 0, .slice none 0 0] 48) = v1
  obtain ⟨f0, f1, f2⟩ : Fz3 v1 (w.heap.size + 1) := by simp [Fz3, ← hv_, go_sem]
  have bA : Below w.heap.size w v1 := by rw [← hv_]; exact (((Below.refl _ w).alloc (by simp) _).alloc (by simp) _)
  replace cc := bK cc bA
  clear bA
  obtain ⟨k0, k1⟩ : Cs2 v1 w.heap.size (.bool b) (.slice A n c) := by simp [Cs2, ← hv_, go_sem]
  have kl : w.heap.size < v1.heap.size := by simp [← hv_] <;> omega
  obtain ⟨g0, g1, g2⟩ : Cs3 v1 (w.heap.size + 1) (.bool false) (.slice none 0 0) (.slice none 0 0) := by simp [Cs3, ← hv_, go_sem]
  have gl : w.heap.size + 1 < v1.heap.size := by simp [← hv_] <;> omega
  clear hv_
  exact bodyPost_ret (v := .tuple #[.agg #[.bool false, .slice none 0 0, .slice none 0 0], .int .i64 1]) (by simp [results, Tryz.results110, go_sem, g0, g1, g2]) rfl ⟨rfl, cc⟩

theorem rback_no {w : World} {b : Bool} {A : Option Addr} {n c : Nat} {j : Int} (h : j < 0 ∨ 2000 < j) :
    Calls Tryz.prog 110 #[.agg #[.bool b, .slice A n c], .int .i64 j] w (GotV w (.tuple #[.agg #[.bool false, .slice none 0 0, .slice none 0 0], .int .i64 1])) := by
  rcases h with h | h
  · exact rback_no0 h
  · exact rback_no1 h

theorem rfloor_pos {w : World} {b0 : Bool} {A0 B0 : Option Addr} {n0 c0 m0 d0 : Nat} {x0 : Rat} (hx : Rt w b0 A0 n0 c0 B0 m0 d0 x0) (s0 : Sz x0 30) {j : Int} (h0 : 0 ≤ j) (h1 : j ≤ 500) (hs : ¬ x0.num < 0) :
    Calls Tryz.prog 108 #[.agg #[.bool b0, .slice A0 n0 c0, .slice B0 m0 d0], .int .i64 j] w (GotZp w (flo x0 j.toNat) 0) := by
  have t1 : decide (j < 0) = false := decide_eq_false (by omega)
  have t2 : decide (2000 < j) = false := decide_eq_false (by omega)
  have je := to_nat h0
  have jl : j.toNat ≤ 500 := by omega
  obtain ⟨k, hk⟩ : ∃ k, j.toNat = k := ⟨_, rfl⟩
  rw [hk] at je jl ⊢
  have lk := len_pow2 jl
  have CS : ∀ {W : World} {A : Option Addr} {m c x : Nat}, Num W A m c x → (limbs x).length ≤ 1000 → Calls Tryz.prog 93 #[.slice A m c, .int .i64 j] W (GotP W (x * 2 ^ k) 0) := fun ha hx => by rw [← je]; exact rshl_N ha hx (by omega)
  clear hk
  have p0 := hx.1.1
  have q0 := hx.2
  have hb0 : b0 = false := by rw [hx.1.2]; exact decide_eq_false hs
  subst hb0
  have lp := s0.1
  have lq := s0.2
  have hq0 := x0.den_nz
  have lu : (limbs (x0.num.natAbs * 2 ^ k)).length ≤ 38 := limbs_length_mul lp lk
  have ld : (limbs (x0.num.natAbs * 2 ^ k / x0.den)).length ≤ 38 := Nat.le_trans (limbs_length_mono (Nat.div_le_self _ _)) lu
  obtain ⟨u, hU⟩ : ∃ u, x0.num.natAbs * 2 ^ k = u := ⟨_, rfl⟩
  have HF : Hid (flo x0 k = ((u / x0.den : Nat) : Int)) := Lib.hid (by rw [← hU]; exact flo_pos x0 k hs)
  rw [hU] at lu ld
  have CU : ∀ {W : World} {A : Option Addr} {m c : Nat}, Num W A m c x0.num.natAbs → Calls Tryz.prog 93 #[.slice A m c, .int .i64 j] W (GotP W u 0) := fun ha => by rw [← hU]; exact CS ha (by omega)
  clear hU CS hs je h0 h1
  have cc := Below.refl w.heap.size w
  go_enter Tryz.func108, Tryz.ntmps108
  go_wp2_with fail
  generalize hv_ : (w.alloc (.cells #[.bool false, .slice A0 n0 c0, .slice B0 m0 d0] 48)).alloc (.cells #[.bool false, .slice none 0 0] 42) = v1
  obtain ⟨f0, f1⟩ : Fz2 v1 (w.heap.size + 1) := by simp [Fz2, ← hv_, go_sem]
  have bA : Below w.heap.size w v1 := by rw [← hv_]; exact (((Below.refl _ w).alloc (by simp) _).alloc (by simp) _)
  replace p0 := p0.on bA
  replace q0 := q0.on bA
  replace cc := bK cc bA
  clear bA
  obtain ⟨k0, k1, k2⟩ : Cs3 v1 w.heap.size (.bool false) (.slice A0 n0 c0) (.slice B0 m0 d0) := by simp [Cs3, ← hv_, go_sem]
  have kl : w.heap.size < v1.heap.size := by simp [← hv_] <;> omega
  obtain ⟨g0, g1⟩ : Cs2 v1 (w.heap.size + 1) (.bool false) (.slice none 0 0) := by simp [Cs2, ← hv_, go_sem]
  have gl : w.heap.size + 1 < v1.heap.size := by simp [← hv_] <;> omega
  clear hv_
  refine (CU p0).mono ?_
  rintro e w2 ⟨Av, nv, cv, rfl, v, b⟩
  rewrite [fR b gl] at f0 f1
  replace p0 := p0.on b
  replace q0 := q0.on b
  rewrite [cR b kl] at k0 k1 k2
  replace kl := lK b kl
  rewrite [cR b gl] at g0 g1
  replace gl := lK b gl
  replace cc := bK cc b
  clear b
  go_wp2_with fail
  refine (rdiv_N v q0 (by omega) (by omega) hq0).mono ?_
  rintro e w3 ⟨Aq, nq, cq, Ar, nr_, cr, rfl, dq, dr, b⟩
  rewrite [fR b gl] at f0 f1
  replace p0 := p0.on b
  replace q0 := q0.on b
  replace v := v.on b
  rewrite [cR b kl] at k0 k1 k2
  replace kl := lK b kl
  rewrite [cR b gl] at g0 g1
  replace gl := lK b gl
  replace cc := bK cc b
  clear b
  have hn : Zn w3 false Aq nq cq (flo x0 k) := by rw [HF.out]; exact zn_nat dq
  have eb : Box w3 (w.heap.size + 1) false none 0 0 := ⟨g0, g1⟩
  have HZ : Hid (Zn ((w3.setCell ⟨w.heap.size + 1, 0, none⟩ (.bool false)).setCell ⟨w.heap.size + 1, 1, none⟩ (.slice Aq nq cq)) false Aq nq cq (flo x0 k)) := Lib.hid (hn.put eb _ _)
  clear hn
  go_wp2_with fail
  refine bodyPost_ret (v := .tuple #[.agg #[.bool false, .slice Aq nq cq], .int .i64 0]) (by simp [results, Tryz.results108, go_sem, g0, g1]) rfl ⟨_, _, _, _, rfl, HZ.out, below_put cc (by omega) _ _⟩

theorem rfloor_neg0 {w : World} {b0 : Bool} {A0 B0 : Option Addr} {n0 c0 m0 d0 : Nat} {x0 : Rat} (hx : Rt w b0 A0 n0 c0 B0 m0 d0 x0) (s0 : Sz x0 30) {j : Int} (h0 : 0 ≤ j) (h1 : j ≤ 500) (hs : x0.num < 0) (hr : x0.num.natAbs * 2 ^ j.toNat % x0.den = 0) :
    Calls Tryz.prog 108 #[.agg #[.bool b0, .slice A0 n0 c0, .slice B0 m0 d0], .int .i64 j] w (GotZp w (flo x0 j.toNat) 0) := by
  have t1 : decide (j < 0) = false := decide_eq_false (by omega)
  have t2 : decide (2000 < j) = false := decide_eq_false (by omega)
  have je := to_nat h0
  have jl : j.toNat ≤ 500 := by omega
  obtain ⟨k, hk⟩ : ∃ k, j.toNat = k := ⟨_, rfl⟩
  rw [hk] at je jl hr ⊢
  have lk := len_pow2 jl
  have CS : ∀ {W : World} {A : Option Addr} {m c x : Nat}, Num W A m c x → (limbs x).length ≤ 1000 → Calls Tryz.prog 93 #[.slice A m c, .int .i64 j] W (GotP W (x * 2 ^ k) 0) := fun ha hx => by rw [← je]; exact rshl_N ha hx (by omega)
  clear hk
  have p0 := hx.1.1
  have q0 := hx.2
  have hb0 : b0 = true := by rw [hx.1.2]; exact decide_eq_true hs
  subst hb0
  have lp := s0.1
  have lq := s0.2
  have hq0 := x0.den_nz
  have lu : (limbs (x0.num.natAbs * 2 ^ k)).length ≤ 38 := limbs_length_mul lp lk
  have ld : (limbs (x0.num.natAbs * 2 ^ k / x0.den)).length ≤ 38 := Nat.le_trans (limbs_length_mono (Nat.div_le_self _ _)) lu
  obtain ⟨u, hU⟩ : ∃ u, x0.num.natAbs * 2 ^ k = u := ⟨_, rfl⟩
  have HF : Hid (flo x0 k = -((u / x0.den : Nat) : Int)) := Lib.hid (by rw [flo_neg x0 k hs, hU, if_pos (by rw [← hU]; exact hr), Nat.add_zero])
  have HR : Hid (u % x0.den = 0) := Lib.hid (by rw [← hU]; exact hr)
  rw [hU] at lu ld
  have CU : ∀ {W : World} {A : Option Addr} {m c : Nat}, Num W A m c x0.num.natAbs → Calls Tryz.prog 93 #[.slice A m c, .int .i64 j] W (GotP W u 0) := fun ha => by rw [← hU]; exact CS ha (by omega)
  clear hU CS hs je h0 h1 hr
  have cc := Below.refl w.heap.size w
  go_enter Tryz.func108, Tryz.ntmps108
  go_wp2_with fail
  generalize hv_ : (w.alloc (.cells #[.bool true, .slice A0 n0 c0, .slice B0 m0 d0] 48)).alloc (.cells #[.bool false, .slice none 0 0] 42) = v1
  obtain ⟨f0, f1⟩ : Fz2 v1 (w.heap.size + 1) := by simp [Fz2, ← hv_, go_sem]
  have bA : Below w.heap.size w v1 := by rw [← hv_]; exact (((Below.refl _ w).alloc (by simp) _).alloc (by simp) _)
  replace p0 := p0.on bA
  replace q0 := q0.on bA
  replace cc := bK cc bA
  clear bA
  obtain ⟨k0, k1, k2⟩ : Cs3 v1 w.heap.size (.bool true) (.slice A0 n0 c0) (.slice B0 m0 d0) := by simp [Cs3, ← hv_, go_sem]
  have kl : w.heap.size < v1.heap.size := by simp [← hv_] <;> omega
  obtain ⟨g0, g1⟩ : Cs2 v1 (w.heap.size + 1) (.bool false) (.slice none 0 0) := by simp [Cs2, ← hv_, go_sem]
  have gl : w.heap.size + 1 < v1.heap.size := by simp [← hv_] <;> omega
  clear hv_
  refine (CU p0).mono ?_
  rintro e w2 ⟨Av, nv, cv, rfl, v, b⟩
  rewrite [fR b gl] at f0 f1
  replace p0 := p0.on b
  replace q0 := q0.on b
  rewrite [cR b kl] at k0 k1 k2
  replace kl := lK b kl
  rewrite [cR b gl] at g0 g1
  replace gl := lK b gl
  replace cc := bK cc b
  clear b
  go_wp2_with fail
  refine (rdiv_N v q0 (by omega) (by omega) hq0).mono ?_
  rintro e w3 ⟨Aq, nq, cq, Ar, nr_, cr, rfl, dq, dr, b⟩
  rewrite [fR b gl] at f0 f1
  replace p0 := p0.on b
  replace q0 := q0.on b
  replace v := v.on b
  rewrite [cR b kl] at k0 k1 k2
  replace kl := lK b kl
  rewrite [cR b gl] at g0 g1
  replace gl := lK b gl
  replace cc := bK cc b
  clear b
  have hz := dr.len
  rw [HR.out, limbs_zero] at hz
  simp only [List.length_nil] at hz
  subst hz
  have zq := zn_nat dq
  have lz : (limbs ((u / x0.den : Nat) : Int).natAbs).length ≤ 1000000 := by rw [Int.natAbs_natCast]; omega
  go_wp2_with fail
  refine (rzneg_N zq lz).mono ?_
  rintro e w4 ⟨bm, Am, nm, cm, rfl, hm, b⟩
  rewrite [fR b gl] at f0 f1
  replace p0 := p0.on b
  replace q0 := q0.on b
  replace v := v.on b
  replace dq := dq.on b
  replace dr := dr.on b
  replace zq := zq.on b
  rewrite [cR b kl] at k0 k1 k2
  replace kl := lK b kl
  rewrite [cR b gl] at g0 g1
  replace gl := lK b gl
  replace cc := bK cc b
  clear b
  have hn : Zn w4 bm Am nm cm (flo x0 k) := by rw [HF.out]; exact hm
  have eb : Box w4 (w.heap.size + 1) false none 0 0 := ⟨g0, g1⟩
  have HZ : Hid (Zn ((w4.setCell ⟨w.heap.size + 1, 0, none⟩ (.bool bm)).setCell ⟨w.heap.size + 1, 1, none⟩ (.slice Am nm cm)) bm Am nm cm (flo x0 k)) := Lib.hid (hn.put eb _ _)
  clear hn
  go_wp2_with fail
  refine bodyPost_ret (v := .tuple #[.agg #[.bool bm, .slice Am nm cm], .int .i64 0]) (by simp [results, Tryz.results108, go_sem, g0, g1]) rfl ⟨_, _, _, _, rfl, HZ.out, below_put cc (by omega) _ _⟩

theorem rfloor_neg1 {w : World} {b0 : Bool} {A0 B0 : Option Addr} {n0 c0 m0 d0 : Nat} {x0 : Rat} (hx : Rt w b0 A0 n0 c0 B0 m0 d0 x0) (s0 : Sz x0 30) {j : Int} (h0 : 0 ≤ j) (h1 : j ≤ 500) (hs : x0.num < 0) (hr : x0.num.natAbs * 2 ^ j.toNat % x0.den ≠ 0) :
    Calls Tryz.prog 108 #[.agg #[.bool b0, .slice A0 n0 c0, .slice B0 m0 d0], .int .i64 j] w (GotZp w (flo x0 j.toNat) 0) := by
  have t1 : decide (j < 0) = false := decide_eq_false (by omega)
  have t2 : decide (2000 < j) = false := decide_eq_false (by omega)
  have je := to_nat h0
  have jl : j.toNat ≤ 500 := by omega
  obtain ⟨k, hk⟩ : ∃ k, j.toNat = k := ⟨_, rfl⟩
  rw [hk] at je jl hr ⊢
  have lk := len_pow2 jl
  have CS : ∀ {W : World} {A : Option Addr} {m c x : Nat}, Num W A m c x → (limbs x).length ≤ 1000 → Calls Tryz.prog 93 #[.slice A m c, .int .i64 j] W (GotP W (x * 2 ^ k) 0) := fun ha hx => by rw [← je]; exact rshl_N ha hx (by omega)
  clear hk
  have p0 := hx.1.1
  have q0 := hx.2
  have hb0 : b0 = true := by rw [hx.1.2]; exact decide_eq_true hs
  subst hb0
  have lp := s0.1
  have lq := s0.2
  have hq0 := x0.den_nz
  have lu : (limbs (x0.num.natAbs * 2 ^ k)).length ≤ 38 := limbs_length_mul lp lk
  have ld : (limbs (x0.num.natAbs * 2 ^ k / x0.den)).length ≤ 38 := Nat.le_trans (limbs_length_mono (Nat.div_le_self _ _)) lu
  obtain ⟨u, hU⟩ : ∃ u, x0.num.natAbs * 2 ^ k = u := ⟨_, rfl⟩
  have HF : Hid (flo x0 k = -((u / x0.den + 1 : Nat) : Int)) := Lib.hid (by rw [flo_neg x0 k hs, hU, if_neg (by rw [← hU]; exact hr)])
  have HR : Hid (u % x0.den ≠ 0) := Lib.hid (by rw [← hU]; exact hr)
  have la : (limbs (u / x0.den + 1)).length ≤ 39 := by rw [← hU]; exact limbs_length_add ld (Nat.le_trans (len_one (by decide)) (by omega))
  rw [hU] at lu ld
  have CU : ∀ {W : World} {A : Option Addr} {m c : Nat}, Num W A m c x0.num.natAbs → Calls Tryz.prog 93 #[.slice A m c, .int .i64 j] W (GotP W u 0) := fun ha => by rw [← hU]; exact CS ha (by omega)
  clear hU CS hs je h0 h1 hr
  have cc := Below.refl w.heap.size w
  go_enter Tryz.func108, Tryz.ntmps108
  go_wp2_with fail
  generalize hv_ : (w.alloc (.cells #[.bool true, .slice A0 n0 c0, .slice B0 m0 d0] 48)).alloc (.cells #[.bool false, .slice none 0 0] 42) = v1
  obtain ⟨f0, f1⟩ : Fz2 v1 (w.heap.size + 1) := by simp [Fz2, ← hv_, go_sem]
  have bA : Below w.heap.size w v1 := by rw [← hv_]; exact (((Below.refl _ w).alloc (by simp) _).alloc (by simp) _)
  replace p0 := p0.on bA
  replace q0 := q0.on bA
  replace cc := bK cc bA
  clear bA
  obtain ⟨k0, k1, k2⟩ : Cs3 v1 w.heap.size (.bool true) (.slice A0 n0 c0) (.slice B0 m0 d0) := by simp [Cs3, ← hv_, go_sem]
  have kl : w.heap.size < v1.heap.size := by simp [← hv_] <;> omega
  obtain ⟨g0, g1⟩ : Cs2 v1 (w.heap.size + 1) (.bool false) (.slice none 0 0) := by simp [Cs2, ← hv_, go_sem]
  have gl : w.heap.size + 1 < v1.heap.size := by simp [← hv_] <;> omega
  clear hv_
  refine (CU p0).mono ?_
  rintro e w2 ⟨Av, nv, cv, rfl, v, b⟩
  rewrite [fR b gl] at f0 f1
  replace p0 := p0.on b
  replace q0 := q0.on b
  rewrite [cR b kl] at k0 k1 k2
  replace kl := lK b kl
  rewrite [cR b gl] at g0 g1
  replace gl := lK b gl
  replace cc := bK cc b
  clear b
  go_wp2_with fail
  refine (rdiv_N v q0 (by omega) (by omega) hq0).mono ?_
  rintro e w3 ⟨Aq, nq, cq, Ar, nr_, cr, rfl, dq, dr, b⟩
  rewrite [fR b gl] at f0 f1
  replace p0 := p0.on b
  replace q0 := q0.on b
  replace v := v.on b
  rewrite [cR b kl] at k0 k1 k2
  replace kl := lK b kl
  rewrite [cR b gl] at g0 g1
  replace gl := lK b gl
  replace cc := bK cc b
  clear b
  have hz : 0 < nr_ := dr.some_len HR.out
  have hz0 : decide ((0 : Int) < (nr_ : Int)) = true := decide_eq_true (by omega)
  have lz : (limbs ((u / x0.den + 1 : Nat) : Int).natAbs).length ≤ 1000000 := by rw [Int.natAbs_natCast]; omega
  have l1 : (limbs 1).length ≤ 1000000 := Nat.le_trans (len_one (by decide)) (by omega)
  go_wp2_with fail
  refine (rof_N _ 1 (by decide)).mono ?_
  rintro e w4 ⟨Ao, no, co, rfl, o, b⟩
  rewrite [fR b gl] at f0 f1
  replace p0 := p0.on b
  replace q0 := q0.on b
  replace v := v.on b
  replace dq := dq.on b
  replace dr := dr.on b
  rewrite [cR b kl] at k0 k1 k2
  replace kl := lK b kl
  rewrite [cR b gl] at g0 g1
  replace gl := lK b gl
  replace cc := bK cc b
  clear b
  go_wp2_with fail
  refine (radd_N dq o (by omega) l1).mono ?_
  rintro e w5 ⟨Aa, na, ca, rfl, a, b⟩
  rewrite [fR b gl] at f0 f1
  replace p0 := p0.on b
  replace q0 := q0.on b
  replace v := v.on b
  replace dq := dq.on b
  replace dr := dr.on b
  replace o := o.on b
  rewrite [cR b kl] at k0 k1 k2
  replace kl := lK b kl
  rewrite [cR b gl] at g0 g1
  replace gl := lK b gl
  replace cc := bK cc b
  clear b
  have zq := zn_nat a
  go_wp2_with fail
  refine (rzneg_N zq lz).mono ?_
  rintro e w6 ⟨bm, Am, nm, cm, rfl, hm, b⟩
  rewrite [fR b gl] at f0 f1
  replace p0 := p0.on b
  replace q0 := q0.on b
  replace v := v.on b
  replace dq := dq.on b
  replace dr := dr.on b
  replace o := o.on b
  replace a := a.on b
  replace zq := zq.on b
  rewrite [cR b kl] at k0 k1 k2
  replace kl := lK b kl
  rewrite [cR b gl] at g0 g1
  replace gl := lK b gl
  replace cc := bK cc b
  clear b
  have hn : Zn w6 bm Am nm cm (flo x0 k) := by rw [HF.out]; exact hm
  have eb : Box w6 (w.heap.size + 1) false none 0 0 := ⟨g0, g1⟩
  have HZ : Hid (Zn ((w6.setCell ⟨w.heap.size + 1, 0, none⟩ (.bool bm)).setCell ⟨w.heap.size + 1, 1, none⟩ (.slice Am nm cm)) bm Am nm cm (flo x0 k)) := Lib.hid (hn.put eb _ _)
  clear hn
  go_wp2_with fail
  refine bodyPost_ret (v := .tuple #[.agg #[.bool bm, .slice Am nm cm], .int .i64 0]) (by simp [results, Tryz.results108, go_sem, g0, g1]) rfl ⟨_, _, _, _, rfl, HZ.out, below_put cc (by omega) _ _⟩

theorem rfloor_N {w : World} {b0 : Bool} {A0 B0 : Option Addr} {n0 c0 m0 d0 : Nat} {x0 : Rat} (hx : Rt w b0 A0 n0 c0 B0 m0 d0 x0) (s0 : Sz x0 30) {j : Int} (h0 : 0 ≤ j) (h1 : j ≤ 500) :
    Calls Tryz.prog 108 #[.agg #[.bool b0, .slice A0 n0 c0, .slice B0 m0 d0], .int .i64 j] w (GotZp w (flo x0 j.toNat) 0) := by
  by_cases hs : x0.num < 0
  · by_cases hr : x0.num.natAbs * 2 ^ j.toNat % x0.den = 0
    · exact rfloor_neg0 hx s0 h0 h1 hs hr
    · exact rfloor_neg1 hx s0 h0 h1 hs hr
  · exact rfloor_pos hx s0 h0 h1 hs

theorem rfloor_no0 {w : World} {b0 : Bool} {A0 B0 : Option Addr} {n0 c0 m0 d0 : Nat} {j : Int} (h : j < 0) :
    Calls Tryz.prog 108 #[.agg #[.bool b0, .slice A0 n0 c0, .slice B0 m0 d0], .int .i64 j] w (GotZp w 0 1) := by
  have t1 : decide (j < 0) = true := decide_eq_true h
  have cc := Below.refl w.heap.size w
  go_enter Tryz.func108, Tryz.ntmps108
  go_wp2_with fail
  generalize hv_ : (w.alloc (.cells #[.bool b0, .slice A0 n0 c0, .slice B0 m0 d0] 48)).alloc (.cells #[.bool false, .slice none 0 0] 42) = v1
  obtain ⟨f0, f1⟩ : Fz2 v1 (w.heap.size + 1) := by simp [Fz2, ← hv_, go_sem]
  have bA : Below w.heap.size w v1 := by rw [← hv_]; exact (((Below.refl _ w).alloc (by simp) _).alloc (by simp) _)
  replace cc := bK cc bA
  clear bA
  obtain ⟨k0, k1, k2⟩ : Cs3 v1 w.heap.size (.bool b0) (.slice A0 n0 c0) (.slice B0 m0 d0) := by simp [Cs3, ← hv_, go_sem]
  have kl : w.heap.size < v1.heap.size := by simp [← hv_] <;> omega
  obtain ⟨g0, g1⟩ : Cs2 v1 (w.heap.size + 1) (.bool false) (.slice none 0 0) := by simp [Cs2, ← hv_, go_sem]
  have gl : w.heap.size + 1 < v1.heap.size := by simp [← hv_] <;> omega
  clear hv_
  exact bodyPost_ret (v := .tuple #[.agg #[.bool false, .slice none 0 0], .int .i64 1]) (by simp [results, Tryz.results108, go_sem, g0, g1]) rfl ⟨_, _, _, _, rfl, zn_none _, cc⟩

theorem rfloor_no1 {w : World} {b0 : Bool} {A0 B0 : Option Addr} {n0 c0 m0 d0 : Nat} {j : Int} (h : 2000 < j) :
    Calls Tryz.prog 108 #[.agg #[.bool b0, .slice A0 n0 c0, .slice B0 m0 d0], .int .i64 j] w (GotZp w 0 1) := by
  have t1 : decide (j < 0) = false := decide_eq_false (by omega)
  have t2 : decide (2000 < j) = true := decide_eq_true h
  have cc := Below.refl w.heap.size w
  go_enter Tryz.func108, Tryz.ntmps108
  go_wp2_with fail
  generalize hv_ : (w.alloc (.cells #[.bool b0, .slice A0 n0 c0, .slice B0 m0 d0] 48)).alloc (.cells #[.bool false, .slice none 0 0] 42) = v1
  obtain ⟨f0, f1⟩ : Fz2 v1 (w.heap.size + 1) := by simp [Fz2, ← hv_, go_sem]
  have bA : Below w.heap.size w v1 := by rw [← hv_]; exact (((Below.refl _ w).alloc (by simp) _).alloc (by simp) _)
  replace cc := bK cc bA
  clear bA
  obtain ⟨k0, k1, k2⟩ : Cs3 v1 w.heap.size (.bool b0) (.slice A0 n0 c0) (.slice B0 m0 d0) := by simp [Cs3, ← hv_, go_sem]
  have kl : w.heap.size < v1.heap.size := by simp [← hv_] <;> omega
  obtain ⟨g0, g1⟩ : Cs2 v1 (w.heap.size + 1) (.bool false) (.slice none 0 0) := by simp [Cs2, ← hv_, go_sem]
  have gl : w.heap.size + 1 < v1.heap.size := by simp [← hv_] <;> omega
  clear hv_
  exact bodyPost_ret (v := .tuple #[.agg #[.bool false, .slice none 0 0], .int .i64 1]) (by simp [results, Tryz.results108, go_sem, g0, g1]) rfl ⟨_, _, _, _, rfl, zn_none _, cc⟩

theorem rfloor_no {w : World} {b0 : Bool} {A0 B0 : Option Addr} {n0 c0 m0 d0 : Nat} {j : Int} (h : j < 0 ∨ 2000 < j) :
    Calls Tryz.prog 108 #[.agg #[.bool b0, .slice A0 n0 c0, .slice B0 m0 d0], .int .i64 j] w (GotZp w 0 1) := by
  rcases h with h | h
  · exact rfloor_no0 h
  · exact rfloor_no1 h

theorem flo_len {x : Rat} {j k : Nat} (h : Sz x k) (hj : j ≤ 500) : (limbs (flo x j).natAbs).length ≤ k + 9 := by
  have h1 : (limbs (x.num.natAbs * 2 ^ j)).length ≤ k + 8 := limbs_length_mul h.1 (len_pow2 hj)
  have h2 : (limbs (x.num.natAbs * 2 ^ j / x.den)).length ≤ k + 8 := Nat.le_trans (limbs_length_mono (Nat.div_le_self _ _)) h1
  by_cases hs : x.num < 0
  · rw [flo_neg x j hs, Int.natAbs_neg, Int.natAbs_natCast]
    refine limbs_length_add h2 (Nat.le_trans (len_one (Nat.lt_of_le_of_lt (m := 1) ?_ (by decide))) (by omega))
    split <;> omega
  · rw [flo_pos x j hs, Int.natAbs_natCast]
    omega
theorem cei_len {x : Rat} {j k : Nat} (h : Sz x k) (hj : j ≤ 500) : (limbs (cei x j).natAbs).length ≤ k + 9 := by
  unfold cei; rw [Int.natAbs_neg]; exact flo_len h.neg hj
theorem nea_len {x : Rat} {j k : Nat} (h : Sz x k) (hj : j ≤ 500) : (limbs (nea x j).natAbs).length ≤ k + 9 := by
  rcases nea_one x j with e | e
  · rw [e]; exact flo_len h hj
  · rw [e]; exact cei_len h hj
theorem bak_sz {z : Int} {j k : Nat} (h : (limbs z.natAbs).length ≤ k) (h8 : 8 ≤ k) (hj : j ≤ 500) : Sz (bak z j) k := sz_mk (Nat.ne_of_gt (Nat.pow_pos (by omega))) h (Nat.le_trans (len_pow2 hj) h8)

theorem rceil_N {w : World} {b0 : Bool} {A0 B0 : Option Addr} {n0 c0 m0 d0 : Nat} {x0 : Rat} (hx : Rt w b0 A0 n0 c0 B0 m0 d0 x0) (s0 : Sz x0 30) {j : Int} (h0 : 0 ≤ j) (h1 : j ≤ 500) :
    Calls Tryz.prog 109 #[.agg #[.bool b0, .slice A0 n0 c0, .slice B0 m0 d0], .int .i64 j] w (GotZp w (cei x0 j.toNat) 0) := by
  obtain ⟨y, hy⟩ : ∃ y : Rat, y = -x0 := ⟨_, rfl⟩
  have CF : ∀ {W : World} {b : Bool} {A B : Option Addr} {n c m d : Nat}, Rt W b A n c B m d y → Calls Tryz.prog 108 #[.agg #[.bool b, .slice A n c, .slice B m d], .int .i64 j] W (GotZp W (flo y j.toNat) 0) := fun hh => rfloor_N hh (by rw [hy]; exact s0.neg) h0 h1
  have lz : (limbs (flo y j.toNat).natAbs).length ≤ 1000000 := Nat.le_trans (flo_len (by rw [hy]; exact s0.neg) (by omega)) (by omega)
  have HC : Hid (cei x0 j.toNat = -flo y j.toNat) := Lib.hid (by rw [hy]; rfl)
  have CN : ∀ {W : World} {b : Bool} {A B : Option Addr} {n c m d : Nat}, Rt W b A n c B m d x0 → Calls Tryz.prog 125 #[.agg #[.bool b, .slice A n c, .slice B m d]] W (GotRt W y) := fun hh => by rw [hy]; exact rtneg_N hh (s0.le (by omega))
  clear hy
  have cc := Below.refl w.heap.size w
  go_enter Tryz.func109, Tryz.ntmps109
  go_wp2_with fail
  generalize hv_ : (w.alloc (.cells #[.bool b0, .slice A0 n0 c0, .slice B0 m0 d0] 48)).alloc (.cells #[.bool false, .slice none 0 0] 42) = v1
  obtain ⟨f0, f1⟩ : Fz2 v1 (w.heap.size + 1) := by simp [Fz2, ← hv_, go_sem]
  have bA : Below w.heap.size w v1 := by rw [← hv_]; exact (((Below.refl _ w).alloc (by simp) _).alloc (by simp) _)
  replace hx := hx.on bA
  replace cc := bK cc bA
  clear bA
  obtain ⟨k0, k1, k2⟩ : Cs3 v1 w.heap.size (.bool b0) (.slice A0 n0 c0) (.slice B0 m0 d0) := by simp [Cs3, ← hv_, go_sem]
  have kl : w.heap.size < v1.heap.size := by simp [← hv_] <;> omega
  obtain ⟨g0, g1⟩ : Cs2 v1 (w.heap.size + 1) (.bool false) (.slice none 0 0) := by simp [Cs2, ← hv_, go_sem]
  have gl : w.heap.size + 1 < v1.heap.size := by simp [← hv_] <;> omega
  clear hv_
  refine (CN hx).mono ?_
  rintro e w2 ⟨bv, Av, nv, cv, Bv, mv, dv, rfl, v, b⟩
  rewrite [fR b gl] at f0 f1
  replace hx := hx.on b
  rewrite [cR b kl] at k0 k1 k2
  replace kl := lK b kl
  rewrite [cR b gl] at g0 g1
  replace gl := lK b gl
  replace cc := bK cc b
  clear b
  go_wp2_with fail
  refine (CF v).mono ?_
  rintro e w3 ⟨bt, At, nt, ct, rfl, t, b⟩
  rewrite [fR b gl] at f0 f1
  replace hx := hx.on b
  replace v := v.on b
  rewrite [cR b kl] at k0 k1 k2
  replace kl := lK b kl
  rewrite [cR b gl] at g0 g1
  replace gl := lK b gl
  replace cc := bK cc b
  clear b
  go_wp2_with fail
  generalize hv_ : w3.alloc (.cells #[.bool bt, .slice At nt ct] 42) = v4
  have bA : Below w3.heap.size w3 v4 := by rw [← hv_]; exact below_one _ _
  rewrite [fR bA gl] at f0 f1
  replace hx := hx.on bA
  replace v := v.on bA
  replace t := t.on bA
  rewrite [cR bA kl] at k0 k1 k2
  replace kl := lK bA kl
  rewrite [cR bA gl] at g0 g1
  replace gl := lK bA gl
  replace cc := bK cc bA
  clear bA
  obtain ⟨y0, y1⟩ : Cs2 v4 w3.heap.size (.bool bt) (.slice At nt ct) := by simp [Cs2, ← hv_, go_sem]
  have yl : w3.heap.size < v4.heap.size := by simp [← hv_]
  clear hv_
  refine (rzneg_N t lz).mono ?_
  rintro e w5 ⟨bm, Am, nm, cm, rfl, hm, b⟩
  rewrite [fR b gl] at f0 f1
  replace hx := hx.on b
  replace v := v.on b
  replace t := t.on b
  rewrite [cR b kl] at k0 k1 k2
  replace kl := lK b kl
  rewrite [cR b gl] at g0 g1
  replace gl := lK b gl
  rewrite [cR b yl] at y0 y1
  replace yl := lK b yl
  replace cc := bK cc b
  clear b
  have hn : Zn w5 bm Am nm cm (cei x0 j.toNat) := by rw [HC.out]; exact hm
  have eb : Box w5 (w.heap.size + 1) false none 0 0 := ⟨g0, g1⟩
  have HZ : Hid (Zn ((w5.setCell ⟨w.heap.size + 1, 0, none⟩ (.bool bm)).setCell ⟨w.heap.size + 1, 1, none⟩ (.slice Am nm cm)) bm Am nm cm (cei x0 j.toNat)) := Lib.hid (hn.put eb _ _)
  clear hn
  go_wp2_with fail
  refine bodyPost_ret (v := .tuple #[.agg #[.bool bm, .slice Am nm cm], .int .i64 0]) (by simp [results, Tryz.results109, go_sem, g0, g1]) rfl ⟨_, _, _, _, rfl, HZ.out, below_put cc (by omega) _ _⟩

theorem rceil_no {w : World} {b0 : Bool} {A0 B0 : Option Addr} {n0 c0 m0 d0 : Nat} {x0 : Rat} (hx : Rt w b0 A0 n0 c0 B0 m0 d0 x0) (s0 : Sz x0 30) {j : Int} (h : j < 0 ∨ 2000 < j) :
    Calls Tryz.prog 109 #[.agg #[.bool b0, .slice A0 n0 c0, .slice B0 m0 d0], .int .i64 j] w (GotZp w 0 1) := by
  obtain ⟨y, hy⟩ : ∃ y : Rat, y = -x0 := ⟨_, rfl⟩
  have CF : ∀ {W : World} {b : Bool} {A B : Option Addr} {n c m d : Nat}, Rt W b A n c B m d y → Calls Tryz.prog 108 #[.agg #[.bool b, .slice A n c, .slice B m d], .int .i64 j] W (GotZp W 0 1) := fun _ => rfloor_no h
  have lz : (limbs (0 : Int).natAbs).length ≤ 1000000 := len_z0
  have CN : ∀ {W : World} {b : Bool} {A B : Option Addr} {n c m d : Nat}, Rt W b A n c B m d x0 → Calls Tryz.prog 125 #[.agg #[.bool b, .slice A n c, .slice B m d]] W (GotRt W y) := fun hh => by rw [hy]; exact rtneg_N hh (s0.le (by omega))
  clear hy
  have cc := Below.refl w.heap.size w
  go_enter Tryz.func109, Tryz.ntmps109
  go_wp2_with fail
  generalize hv_ : (w.alloc (.cells #[.bool b0, .slice A0 n0 c0, .slice B0 m0 d0] 48)).alloc (.cells #[.bool false, .slice none 0 0] 42) = v1
  obtain ⟨f0, f1⟩ : Fz2 v1 (w.heap.size + 1) := by simp [Fz2, ← hv_, go_sem]
  have bA : Below w.heap.size w v1 := by rw [← hv_]; exact (((Below.refl _ w).alloc (by simp) _).alloc (by simp) _)
  replace hx := hx.on bA
  replace cc := bK cc bA
  clear bA
  obtain ⟨k0, k1, k2⟩ : Cs3 v1 w.heap.size (.bool b0) (.slice A0 n0 c0) (.slice B0 m0 d0) := by simp [Cs3, ← hv_, go_sem]
  have kl : w.heap.size < v1.heap.size := by simp [← hv_] <;> omega
  obtain ⟨g0, g1⟩ : Cs2 v1 (w.heap.size + 1) (.bool false) (.slice none 0 0) := by simp [Cs2, ← hv_, go_sem]
  have gl : w.heap.size + 1 < v1.heap.size := by simp [← hv_] <;> omega
  clear hv_
  refine (CN hx).mono ?_
  rintro e w2 ⟨bv, Av, nv, cv, Bv, mv, dv, rfl, v, b⟩
  rewrite [fR b gl] at f0 f1
  replace hx := hx.on b
  rewrite [cR b kl] at k0 k1 k2
  replace kl := lK b kl
  rewrite [cR b gl] at g0 g1
  replace gl := lK b gl
  replace cc := bK cc b
  clear b
  go_wp2_with fail
  refine (CF v).mono ?_
  rintro e w3 ⟨bt, At, nt, ct, rfl, t, b⟩
  rewrite [fR b gl] at f0 f1
  replace hx := hx.on b
  replace v := v.on b
  rewrite [cR b kl] at k0 k1 k2
  replace kl := lK b kl
  rewrite [cR b gl] at g0 g1
  replace gl := lK b gl
  replace cc := bK cc b
  clear b
  go_wp2_with fail
  generalize hv_ : w3.alloc (.cells #[.bool bt, .slice At nt ct] 42) = v4
  have bA : Below w3.heap.size w3 v4 := by rw [← hv_]; exact below_one _ _
  rewrite [fR bA gl] at f0 f1
  replace hx := hx.on bA
  replace v := v.on bA
  replace t := t.on bA
  rewrite [cR bA kl] at k0 k1 k2
  replace kl := lK bA kl
  rewrite [cR bA gl] at g0 g1
  replace gl := lK bA gl
  replace cc := bK cc bA
  clear bA
  obtain ⟨y0, y1⟩ : Cs2 v4 w3.heap.size (.bool bt) (.slice At nt ct) := by simp [Cs2, ← hv_, go_sem]
  have yl : w3.heap.size < v4.heap.size := by simp [← hv_]
  clear hv_
  refine (rzneg_N t lz).mono ?_
  rintro e w5 ⟨bm, Am, nm, cm, rfl, hm, b⟩
  rewrite [fR b gl] at f0 f1
  replace hx := hx.on b
  replace v := v.on b
  replace t := t.on b
  rewrite [cR b kl] at k0 k1 k2
  replace kl := lK b kl
  rewrite [cR b gl] at g0 g1
  replace gl := lK b gl
  rewrite [cR b yl] at y0 y1
  replace yl := lK b yl
  replace cc := bK cc b
  clear b
  have hn : Zn w5 bm Am nm cm (0) := hm
  have eb : Box w5 (w.heap.size + 1) false none 0 0 := ⟨g0, g1⟩
  have HZ : Hid (Zn ((w5.setCell ⟨w.heap.size + 1, 0, none⟩ (.bool bm)).setCell ⟨w.heap.size + 1, 1, none⟩ (.slice Am nm cm)) bm Am nm cm (0)) := Lib.hid (hn.put eb _ _)
  clear hn
  go_wp2_with fail
  refine bodyPost_ret (v := .tuple #[.agg #[.bool bm, .slice Am nm cm], .int .i64 1]) (by simp [results, Tryz.results109, go_sem, g0, g1]) rfl ⟨_, _, _, _, rfl, HZ.out, below_put cc (by omega) _ _⟩

end Go.Proofs.YtpephogadljncaaGreat

/-
  The contracts of the sixth reference: odd.
-/
namespace Go.Proofs.YtpephogadljncaaGreat
set_option maxRecDepth 100000
set_option maxHeartbeats 8000000
open Go.RowKit
set_option linter.unusedVariables false
set_option linter.unusedSimpArgs false

theorem low_mod (x : Nat) (h : x ≠ 0) : ((limbs x)[0]?.getD 0) % 2 = x % 2 := by
  rw [limbs_pos (by omega)]
  show x % B64 % 2 = x % 2
  exact Nat.mod_mod_of_dvd x ⟨9223372036854775808, by decide⟩
theorem abs_mod (z : Int) : z.natAbs % 2 = (z % 2).toNat := by omega

theorem rodd_0 {w : World} {b : Bool} {A : Option Addr} {n c : Nat} {z : Int} (ha : Zn w b A n c z) (hn : n = 0) :
    Calls Tryz.prog 113 #[.agg #[.bool b, .slice A n c]] w (GotV w (.bool false)) := by
  have t1 : decide ((0 : Int) < (n : Int)) = false := decide_eq_false (by omega)
  have t2 : decide (0 < n) = false := decide_eq_false (by omega)
  clear hn
  have cc := Below.refl w.heap.size w
  go_enter Tryz.func113, Tryz.ntmps113
  go_wp2_with fail
  generalize hv_ : w.alloc (.cells #[.bool b, .slice A n c] 42) = v1
  have bA : Below w.heap.size w v1 := by rw [← hv_]; exact ((Below.refl _ w).alloc (by simp) _)
  replace ha := ha.on bA
  replace cc := bK cc bA
  clear bA
  obtain ⟨k0, k1⟩ : Cs2 v1 w.heap.size (.bool b) (.slice A n c) := by simp [Cs2, ← hv_, go_sem]
  have kl : w.heap.size < v1.heap.size := by simp [← hv_] <;> omega
  clear hv_
  go_ret
  exact ⟨rfl, cc⟩

theorem rodd_1 {w : World} {b : Bool} {A : Option Addr} {n c : Nat} {z : Int} (ha : Zn w b A n c z) (hn : 0 < n) (r : Bool) (hr : decide (z % 2 = 1) = r) :
    Calls Tryz.prog 113 #[.agg #[.bool b, .slice A n c]] w (GotV w (.bool r)) := by
  obtain ⟨bk, off, rfl, hb, hc⟩ := ha.1.2.2.2 hn
  have h0 := hc 0 hn
  rw [Nat.add_zero] at h0
  have hz : z.natAbs ≠ 0 := num_ne ha.1 hn
  obtain ⟨v, hv⟩ : ∃ v, ((limbs z.natAbs)[0]?.getD 0) = v := ⟨_, rfl⟩
  have hm := low_mod z.natAbs hz
  rw [hv] at h0 hm
  rw [abs_mod] at hm
  clear hv hc
  have hB := below_one w (.cells #[.bool b, .slice (some ⟨bk, off, none⟩) n c] 42)
  have h1 := cK hB h0 hb
  have e1 : ((v : Int) % 2 == 1) = r := by rw [← hr, Bool.eq_iff_iff, beq_iff_eq, decide_eq_true_iff]; omega
  have hn2 : 1 ≤ n := hn
  have cc := Below.refl w.heap.size w
  go_enter Tryz.func113, Tryz.ntmps113
  go_wp2_with fail
  go_ret
  exact ⟨rfl, hB⟩

theorem rodd_N {w : World} {b : Bool} {A : Option Addr} {n c : Nat} {z : Int} (r : Bool) (ha : Zn w b A n c z) (hr : decide (z % 2 = 1) = r) :
    Calls Tryz.prog 113 #[.agg #[.bool b, .slice A n c]] w (GotV w (.bool r)) := by
  rcases Nat.eq_zero_or_pos n with hn | hn
  · have : z = 0 := by
      have e := ha.1.len
      rw [hn] at e
      have e2 := List.length_eq_zero_iff.1 e.symm
      have e3 : z.natAbs = 0 := by rw [← val_limbs z.natAbs, e2, val_nil]
      omega
    subst this
    simp at hr
    subst hr
    exact rodd_0 ha hn
  · exact rodd_1 ha hn r hr

end Go.Proofs.YtpephogadljncaaGreat

/-
  Numbers on a grid by what is left; the contracts of dyad: isGrid, isOdd, the closures.
-/
namespace Go.Proofs.YtpephogadljncaaGreat
set_option maxRecDepth 100000
set_option maxHeartbeats 8000000
open Go.RowKit
set_option linter.unusedVariables false
set_option linter.unusedSimpArgs false

theorem zn_minus {w : World} {A : Option Addr} {n c t : Nat} (h : Num w A n c t) (h0 : t ≠ 0) : Zn w true A n c (-(t : Int)) := ⟨by rw [Int.natAbs_neg, Int.natAbs_natCast]; exact h, (decide_eq_true (by omega)).symm⟩
theorem num_void {w : World} {A : Option Addr} {n c t : Nat} (h : Num w A n c t) (h0 : t = 0) : n = 0 := by
  have e := h.len
  rw [h0, limbs_zero] at e; simpa using e
theorem cei_pos (a : Rat) (k : Nat) (h : ¬ a.num < 0) : cei a k = ((a.num.natAbs * 2 ^ k / a.den + (if a.num.natAbs * 2 ^ k % a.den = 0 then 0 else 1) : Nat) : Int) := by
  unfold cei
  by_cases h0 : a.num = 0
  · have e : a.num.natAbs * 2 ^ k = 0 := by rw [h0]; simp
    have h1 : ¬ (-a).num < 0 := by rw [Rat.neg_num]; omega
    rw [flo_pos _ _ h1, Rat.neg_num, Int.natAbs_neg, Rat.neg_den, e]
    simp
  · have h1 : (-a).num < 0 := by rw [Rat.neg_num]; omega
    rw [flo_neg _ _ h1, Rat.neg_num, Int.natAbs_neg, Rat.neg_den, Int.neg_neg]
theorem cei_less (a : Rat) (k : Nat) (h : a.num < 0) : cei a k = -((a.num.natAbs * 2 ^ k / a.den : Nat) : Int) := by
  unfold cei
  have h1 : ¬ (-a).num < 0 := by rw [Rat.neg_num]; omega
  rw [flo_pos _ _ h1, Rat.neg_num, Int.natAbs_neg, Rat.neg_den]
/-- Whether the nearest is one step farther from nought. -/
def fars (u q : Nat) : Bool := decide (q < u % q + u % q) || (decide (u % q + u % q = q) && decide (u / q % 2 = 1))
theorem half_nat (u q : Nat) (hq : 0 < q) (A : Rat) (hA : A * (q : Rat) = (u : Rat)) : nr A = ((u / q + (if fars u q = true then 1 else 0) : Nat) : Int) := by
  have h1 := Nat.div_add_mod u q
  have h2 := Nat.mod_lt u hq
  unfold fars
  generalize u / q = T at h1 ⊢
  generalize u % q = r at h1 h2 ⊢
  have hqp : (0 : Rat) < (q : Rat) := Rat.natCast_pos.2 hq
  have hq0 : (q : Rat) ≠ 0 := by grind
  have e : A = (T : Rat) + (r : Rat) / (q : Rat) := by
    have : (u : Rat) = (q : Rat) * (T : Rat) + (r : Rat) := by rw [← h1, Rat.natCast_add, Rat.natCast_mul]
    grind
  have hr0 : (0 : Rat) ≤ (r : Rat) := Rat.natCast_nonneg
  have eT : ((T : Int) : Rat) = (T : Rat) := rfl
  have o : ((1 : Int) : Rat) = 1 := rfl
  obtain ⟨s, hs⟩ : ∃ s : Rat, (r : Rat) / (q : Rat) = s := ⟨_, rfl⟩
  have hsq : s * (q : Rat) = (r : Rat) := by rw [← hs]; grind
  have twice : ∀ {a b : Nat}, (a : Rat) ≤ (b : Rat) ↔ a ≤ b := fun {a b} => Rat.natCast_le_natCast
  have dbl : s + s = ((r + r : Nat) : Rat) / (q : Rat) := by rw [Rat.natCast_add]; grind
  have hle : s + s ≤ 1 ↔ r + r ≤ q := by
    rw [dbl]
    constructor
    · intro h
      have h3 : ((r + r : Nat) : Rat) ≤ (q : Rat) := by
        have := Rat.mul_le_mul_of_nonneg_right h (Rat.le_of_lt hqp)
        have e2 : ((r + r : Nat) : Rat) / (q : Rat) * (q : Rat) = ((r + r : Nat) : Rat) := by grind
        rw [e2, Rat.one_mul] at this; exact this
      exact twice.1 h3
    · intro h
      have h3 := twice.2 h
      have e2 : ((r + r : Nat) : Rat) / (q : Rat) * (q : Rat) = ((r + r : Nat) : Rat) := by grind
      apply Rat.le_of_mul_le_mul_right _ hqp
      rw [e2, Rat.one_mul]; exact h3
  have hge : 1 ≤ s + s ↔ q ≤ r + r := by
    rw [dbl]
    have e2 : ((r + r : Nat) : Rat) / (q : Rat) * (q : Rat) = ((r + r : Nat) : Rat) := by grind
    constructor
    · intro h
      have := Rat.mul_le_mul_of_nonneg_right h (Rat.le_of_lt hqp)
      rw [e2, Rat.one_mul] at this; exact twice.1 this
    · intro h
      apply Rat.le_of_mul_le_mul_right _ hqp
      rw [e2, Rat.one_mul]; exact twice.2 h
  have hs0 : 0 ≤ s := by
    apply Rat.le_of_mul_le_mul_right _ hqp
    rw [hsq, Rat.zero_mul]; exact hr0
  have hs1 : s < 1 := by
    have : (r : Rat) < (q : Rat) := Rat.natCast_lt_natCast.2 h2
    apply Rat.lt_of_mul_lt_mul_right _ (Rat.le_of_lt hqp)
    rw [hsq, Rat.one_mul]; exact this
  rw [hs] at e
  clear hsq dbl hr0 hqp hq0 hs h1 twice hA
  apply nr_unique
  unfold NrHalf
  subst e
  by_cases c1 : q < r + r
  · have c2 : 1 ≤ s + s := hge.2 (by omega)
    have c3 : ¬ s + s ≤ 1 := fun h => by have := hle.1 h; omega
    simp only [c1, decide_true, Bool.true_or, if_true]
    rw [Int.natCast_add, Rat.intCast_add, eT]
    have o2 : (((1 : Nat) : Int) : Rat) = 1 := rfl
    rw [o2]
    refine ⟨by grind, by grind, ?_⟩
    intro h; exfalso; grind
  · have c3 : s + s ≤ 1 := hle.2 (by omega)
    by_cases c2 : r + r = q
    · have c4 : 1 ≤ s + s := hge.2 (by omega)
      by_cases c5 : T % 2 = 1
      · simp only [c1, c2, c5, decide_true, decide_false, Bool.false_or, Bool.and_self, if_true, Nat.lt_irrefl]
        rw [Int.natCast_add, Rat.intCast_add, eT]
        have o2 : (((1 : Nat) : Int) : Rat) = 1 := rfl
        rw [o2]
        refine ⟨by grind, by grind, ?_⟩
        intro _; omega
      · simp only [c1, c2, c5, decide_true, decide_false, Bool.false_or, Bool.and_false, Nat.lt_irrefl]
        simp only [Bool.false_eq_true, if_false, Nat.add_zero]
        rw [eT]
        refine ⟨by grind, by grind, ?_⟩
        intro _; omega
    · have c4 : ¬ 1 ≤ s + s := fun h => by have := hge.1 h; omega
      simp only [c1, c2, decide_false, Bool.false_or, Bool.false_and]
      simp only [Bool.false_eq_true, if_false, Nat.add_zero]
      rw [eT]
      refine ⟨by grind, by grind, ?_⟩
      intro h; exfalso; grind
theorem sides_dw (a : Rat) (k : Nat) (h : ¬ a.num < 0) : a * dw k * (a.den : Rat) = ((a.num.natAbs * 2 ^ k : Nat) : Rat) := by
  unfold dw
  have h1 : a * (a.den : Rat) = ((a.num : Int) : Rat) := by
    conv => lhs; rw [← Rat.mkRat_self a]
    have h2 : ((a.den : Nat) : Rat) = mkRat ((a.den : Nat) : Int) 1 := by rw [Rat.mkRat_one]; rfl
    have h3 : ((a.num : Int) : Rat) = mkRat a.num 1 := by rw [Rat.mkRat_one]
    have hd := a.den_nz
    rw [Rat.mkRat_self, h3]
    conv => lhs; rw [← Rat.mkRat_self a]
    rw [Rat.mkRat_self]
    conv => lhs; arg 1; rw [← Rat.mkRat_self a]
    rw [h2, Rat.mkRat_mul_mkRat, Rat.mkRat_eq_iff (by omega) (by omega)]
    simp
  have h4 : ((a.num : Int) : Rat) = ((a.num.natAbs : Nat) : Rat) := by
    have : a.num = (a.num.natAbs : Int) := by omega
    conv => lhs; rw [this]
    rfl
  rw [Rat.natCast_mul, ← h4, ← h1]
  generalize ((2 ^ k : Nat) : Rat) = p
  grind
theorem nea_pos (a : Rat) (k : Nat) (h : ¬ a.num < 0) : nea a k = ((a.num.natAbs * 2 ^ k / a.den + (if fars (a.num.natAbs * 2 ^ k) a.den = true then 1 else 0) : Nat) : Int) := by
  unfold nea
  exact half_nat _ _ (Nat.pos_of_ne_zero a.den_nz) _ (sides_dw a k h)
theorem nea_less (a : Rat) (k : Nat) (h : a.num < 0) : nea a k = -((a.num.natAbs * 2 ^ k / a.den + (if fars (a.num.natAbs * 2 ^ k) a.den = true then 1 else 0) : Nat) : Int) := by
  have h1 : ¬ (-a).num < 0 := by rw [Rat.neg_num]; omega
  have e := nea_pos (-a) k h1
  rw [nea_neg, Rat.neg_num, Int.natAbs_neg, Rat.neg_den] at e
  omega

theorem isgrid_0 (w : World) {j : Int} (h : j < 0) :
    Calls Tryz.prog 122 #[.int .i64 j] w (GotV w (.bool false)) := by
  have t1 : decide (0 ≤ j) = false := decide_eq_false (by omega)
  go_enter Tryz.func122, Tryz.ntmps122
  go_wp2_with fail
  go_ret
  exact ⟨rfl, Below.refl _ _⟩

theorem isgrid_1 (w : World) {j : Int} (h0 : 0 ≤ j) (h1 : 2000 < j) :
    Calls Tryz.prog 122 #[.int .i64 j] w (GotV w (.bool false)) := by
  have t1 : decide (0 ≤ j) = true := decide_eq_true h0
  have t2 : decide (j ≤ 2000) = false := decide_eq_false (by omega)
  go_enter Tryz.func122, Tryz.ntmps122
  go_wp2_with fail
  go_ret
  exact ⟨rfl, Below.refl _ _⟩

theorem isgrid_2 (w : World) {j : Int} (h0 : 0 ≤ j) (h1 : j ≤ 2000) :
    Calls Tryz.prog 122 #[.int .i64 j] w (GotV w (.bool true)) := by
  have t1 : decide (0 ≤ j) = true := decide_eq_true h0
  have t2 : decide (j ≤ 2000) = true := decide_eq_true (by omega)
  go_enter Tryz.func122, Tryz.ntmps122
  go_wp2_with fail
  go_ret
  exact ⟨rfl, Below.refl _ _⟩

theorem isgrid_no (w : World) {j : Int} (h : j < 0 ∨ 2000 < j) :
    Calls Tryz.prog 122 #[.int .i64 j] w (GotV w (.bool false)) := by
  by_cases h0 : 0 ≤ j
  · exact isgrid_1 w h0 (by omega)
  · exact isgrid_0 w (by omega)

theorem disodd_0 {w : World} {A : Option Addr} {n c : Nat} (hn : n = 0) :
    Calls Tryz.prog 107 #[.slice A n c] w (GotV w (.bool false)) := by
  have t1 : decide ((0 : Int) < (n : Int)) = false := decide_eq_false (by omega)
  have t2 : decide (0 < n) = false := decide_eq_false (by omega)
  clear hn
  have cc := Below.refl w.heap.size w
  go_enter Tryz.func107, Tryz.ntmps107
  go_wp2_with fail
  go_ret
  exact ⟨rfl, cc⟩

theorem disodd_1 {w : World} {A : Option Addr} {n c x : Nat} (ha : Num w A n c x) (hn : 0 < n) (r : Bool) (hr : decide (x % 2 = 1) = r) :
    Calls Tryz.prog 107 #[.slice A n c] w (GotV w (.bool r)) := by
  obtain ⟨bk, off, rfl, hb, hc⟩ := ha.2.2.2 hn
  have h0 := hc 0 hn
  rw [Nat.add_zero] at h0
  have hz : x ≠ 0 := num_ne ha hn
  obtain ⟨v, hv⟩ : ∃ v, ((limbs x)[0]?.getD 0) = v := ⟨_, rfl⟩
  have hm := low_mod x hz
  rw [hv] at h0 hm
  clear hv hc
  have e1 : ((v : Int) % 2 == 1) = r := by rw [← hr, Bool.eq_iff_iff, beq_iff_eq, decide_eq_true_iff]; omega
  have hn2 : 1 ≤ n := hn
  have t1 : decide ((0 : Int) < (n : Int)) = true := decide_eq_true (by omega)
  have t2 : decide (0 < n) = true := decide_eq_true (by omega)
  have cc := Below.refl w.heap.size w
  go_enter Tryz.func107, Tryz.ntmps107
  go_wp2_with fail
  go_ret
  exact ⟨rfl, cc⟩

theorem disodd_N {w : World} {A : Option Addr} {n c x : Nat} (r : Bool) (ha : Num w A n c x) (hr : decide (x % 2 = 1) = r) :
    Calls Tryz.prog 107 #[.slice A n c] w (GotV w (.bool r)) := by
  rcases Nat.eq_zero_or_pos n with hn | hn
  · have : x = 0 := by
      have e := ha.len
      rw [hn] at e
      have e2 := List.length_eq_zero_iff.1 e.symm
      rw [← val_limbs x, e2, val_nil]
    subst this
    simp at hr
    subst hr
    exact disodd_0 hn
  · exact disodd_1 ha hn r hr







theorem knear_gt {w : World} {g n c m d x y : Nat} {A B : Option Addr} {b0 : Bool} {A0 B0 : Option Addr} {n0 c0 m0 d0 q : Nat} (r0 : w.cell? ⟨g, 0, none⟩ = some (.bool b0)) (r1 : w.cell? ⟨g, 1, none⟩ = some (.slice A0 n0 c0)) (r2 : w.cell? ⟨g, 2, none⟩ = some (.slice B0 m0 d0)) (ha : Num w A n c x) (hb : Num w B m d y) (hq : Num w B0 m0 d0 q) (ly : (limbs y).length ≤ 299) (lq : (limbs q).length ≤ 300) (hy : q < y + y) :
    Calls Tryz.prog 106 #[.slice A n c, .slice B m d, .pointer (some ⟨g, 0, none⟩)] w (GotV w (.bool true)) := by
  have ll : (limbs (y + y)).length ≤ 300 := limbs_length_add ly ly
  have hc : cmpN (y + y) q = 1 := cmpN_gt hy
  have hrl := cell_lt r2
  simp only at hrl
  have CC : ∀ {W : World} {A B : Option Addr} {n c m d : Nat}, Num W A n c (y + y) → Num W B m d q → Calls Tryz.prog 33 #[.slice A n c, .slice B m d] W (GotV W (.int .i64 (1))) := fun hu hv => by rw [← hc]; exact cmp_N hu hv (by omega) (by omega)
  clear hc hy
  have rl := hrl
  clear hrl
  have cc := Below.refl w.heap.size w
  go_enter Tryz.func106, Tryz.ntmps106
  go_wp2_with fail
  have qq : Below w.heap.size w w.drew := below_drewN (Below.refl _ w) 1
  have ha' := ha.on qq
  have hb' := hb.on qq
  have hq' := hq.on qq
  go_region_held3 (fun w' => w'.cell? ⟨g, 0, none⟩ = some (.bool b0) ∧ w'.cell? ⟨g, 1, none⟩ = some (.slice A0 n0 c0) ∧ w'.cell? ⟨g, 2, none⟩ = some (.slice B0 m0 d0))
    (first | with_reducible exact ⟨cK qq r0 rl, cK qq r1 rl, cK qq r2 rl⟩ | go_keep)
    (first
      | (go_at_call 27; (with_reducible refine (add_N hb' hb' (by omega) (by omega)).mono ?_); rintro e wz ⟨As, ns, cs, rfl, s, q⟩; replace qq := bK qq q; (try replace ha' := ha'.on q); (try replace hb' := hb'.on q); (try replace hq' := hq'.on q); clear q)
      | (go_at_call 33; (with_reducible refine (CC s hq').mono ?_); rintro e wz ⟨rfl, q⟩; replace qq := bK qq q; (try replace ha' := ha'.on q); (try replace hb' := hb'.on q); (try replace hq' := hq'.on q); (try replace s := s.on q); clear q))
  clear ha
  have ha := ha'
  clear ha'
  clear hb
  have hb := hb'
  clear hb'
  clear hq
  have hq := hq'
  clear hq'
  rewrite [cR qq rl] at r0 r1 r2
  replace rl := lK qq rl
  replace cc := bK cc qq
  clear qq
  go_wp2_with fail
  go_ret
  exact ⟨rfl, cc⟩

theorem knear_eq {w : World} {g n c m d x y : Nat} {A B : Option Addr} {b0 : Bool} {A0 B0 : Option Addr} {n0 c0 m0 d0 q : Nat} (r0 : w.cell? ⟨g, 0, none⟩ = some (.bool b0)) (r1 : w.cell? ⟨g, 1, none⟩ = some (.slice A0 n0 c0)) (r2 : w.cell? ⟨g, 2, none⟩ = some (.slice B0 m0 d0)) (ha : Num w A n c x) (hb : Num w B m d y) (hq : Num w B0 m0 d0 q) (ly : (limbs y).length ≤ 299) (lq : (limbs q).length ≤ 300) (hy : y + y = q) (r : Bool) (hr : decide (x % 2 = 1) = r) :
    Calls Tryz.prog 106 #[.slice A n c, .slice B m d, .pointer (some ⟨g, 0, none⟩)] w (GotV w (.bool r)) := by
  have ll : (limbs (y + y)).length ≤ 300 := limbs_length_add ly ly
  have hc : cmpN (y + y) q = 0 := cmpN_zero.2 hy
  have hrl := cell_lt r2
  simp only at hrl
  have CC : ∀ {W : World} {A B : Option Addr} {n c m d : Nat}, Num W A n c (y + y) → Num W B m d q → Calls Tryz.prog 33 #[.slice A n c, .slice B m d] W (GotV W (.int .i64 (0))) := fun hu hv => by rw [← hc]; exact cmp_N hu hv (by omega) (by omega)
  clear hc hy
  have rl := hrl
  clear hrl
  have cc := Below.refl w.heap.size w
  go_enter Tryz.func106, Tryz.ntmps106
  go_wp2_with fail
  have qq : Below w.heap.size w w.drew := below_drewN (Below.refl _ w) 1
  have ha' := ha.on qq
  have hb' := hb.on qq
  have hq' := hq.on qq
  go_region_held3 (fun w' => w'.cell? ⟨g, 0, none⟩ = some (.bool b0) ∧ w'.cell? ⟨g, 1, none⟩ = some (.slice A0 n0 c0) ∧ w'.cell? ⟨g, 2, none⟩ = some (.slice B0 m0 d0))
    (first | with_reducible exact ⟨cK qq r0 rl, cK qq r1 rl, cK qq r2 rl⟩ | go_keep)
    (first
      | (go_at_call 27; (with_reducible refine (add_N hb' hb' (by omega) (by omega)).mono ?_); rintro e wz ⟨As, ns, cs, rfl, s, q⟩; replace qq := bK qq q; (try replace ha' := ha'.on q); (try replace hb' := hb'.on q); (try replace hq' := hq'.on q); clear q)
      | (go_at_call 33; (with_reducible refine (CC s hq').mono ?_); rintro e wz ⟨rfl, q⟩; replace qq := bK qq q; (try replace ha' := ha'.on q); (try replace hb' := hb'.on q); (try replace hq' := hq'.on q); (try replace s := s.on q); clear q))
  clear ha
  have ha := ha'
  clear ha'
  clear hb
  have hb := hb'
  clear hb'
  clear hq
  have hq := hq'
  clear hq'
  rewrite [cR qq rl] at r0 r1 r2
  replace rl := lK qq rl
  replace cc := bK cc qq
  clear qq
  go_wp2_with fail
  refine (disodd_N r ha hr).mono ?_
  rintro e w9 ⟨rfl, b⟩
  replace ha := ha.on b
  replace hb := hb.on b
  replace hq := hq.on b
  rewrite [cR b rl] at r0 r1 r2
  replace rl := lK b rl
  replace cc := bK cc b
  clear b
  go_wp2_with fail
  go_ret
  exact ⟨rfl, cc⟩

theorem knear_lt {w : World} {g n c m d x y : Nat} {A B : Option Addr} {b0 : Bool} {A0 B0 : Option Addr} {n0 c0 m0 d0 q : Nat} (r0 : w.cell? ⟨g, 0, none⟩ = some (.bool b0)) (r1 : w.cell? ⟨g, 1, none⟩ = some (.slice A0 n0 c0)) (r2 : w.cell? ⟨g, 2, none⟩ = some (.slice B0 m0 d0)) (ha : Num w A n c x) (hb : Num w B m d y) (hq : Num w B0 m0 d0 q) (ly : (limbs y).length ≤ 299) (lq : (limbs q).length ≤ 300) (hy : y + y < q) :
    Calls Tryz.prog 106 #[.slice A n c, .slice B m d, .pointer (some ⟨g, 0, none⟩)] w (GotV w (.bool false)) := by
  have ll : (limbs (y + y)).length ≤ 300 := limbs_length_add ly ly
  have hc : cmpN (y + y) q = -1 := cmpN_lt hy
  have hrl := cell_lt r2
  simp only at hrl
  have CC : ∀ {W : World} {A B : Option Addr} {n c m d : Nat}, Num W A n c (y + y) → Num W B m d q → Calls Tryz.prog 33 #[.slice A n c, .slice B m d] W (GotV W (.int .i64 (-1))) := fun hu hv => by rw [← hc]; exact cmp_N hu hv (by omega) (by omega)
  clear hc hy
  have rl := hrl
  clear hrl
  have cc := Below.refl w.heap.size w
  go_enter Tryz.func106, Tryz.ntmps106
  go_wp2_with fail
  have qq : Below w.heap.size w w.drew := below_drewN (Below.refl _ w) 1
  have ha' := ha.on qq
  have hb' := hb.on qq
  have hq' := hq.on qq
  go_region_held3 (fun w' => w'.cell? ⟨g, 0, none⟩ = some (.bool b0) ∧ w'.cell? ⟨g, 1, none⟩ = some (.slice A0 n0 c0) ∧ w'.cell? ⟨g, 2, none⟩ = some (.slice B0 m0 d0))
    (first | with_reducible exact ⟨cK qq r0 rl, cK qq r1 rl, cK qq r2 rl⟩ | go_keep)
    (first
      | (go_at_call 27; (with_reducible refine (add_N hb' hb' (by omega) (by omega)).mono ?_); rintro e wz ⟨As, ns, cs, rfl, s, q⟩; replace qq := bK qq q; (try replace ha' := ha'.on q); (try replace hb' := hb'.on q); (try replace hq' := hq'.on q); clear q)
      | (go_at_call 33; (with_reducible refine (CC s hq').mono ?_); rintro e wz ⟨rfl, q⟩; replace qq := bK qq q; (try replace ha' := ha'.on q); (try replace hb' := hb'.on q); (try replace hq' := hq'.on q); (try replace s := s.on q); clear q))
  clear ha
  have ha := ha'
  clear ha'
  clear hb
  have hb := hb'
  clear hb'
  clear hq
  have hq := hq'
  clear hq'
  rewrite [cR qq rl] at r0 r1 r2
  replace rl := lK qq rl
  replace cc := bK cc qq
  clear qq
  go_wp2_with fail
  go_ret
  exact ⟨rfl, cc⟩

theorem knear_N {w : World} {g n c m d : Nat} {A B : Option Addr} {b0 : Bool} {A0 B0 : Option Addr} {n0 c0 m0 d0 q u : Nat} (r0 : w.cell? ⟨g, 0, none⟩ = some (.bool b0)) (r1 : w.cell? ⟨g, 1, none⟩ = some (.slice A0 n0 c0)) (r2 : w.cell? ⟨g, 2, none⟩ = some (.slice B0 m0 d0)) (ha : Num w A n c (u / q)) (hb : Num w B m d (u % q)) (hq : Num w B0 m0 d0 q) (ly : (limbs (u % q)).length ≤ 299) (lq : (limbs q).length ≤ 300) :
    Calls Tryz.prog 106 #[.slice A n c, .slice B m d, .pointer (some ⟨g, 0, none⟩)] w (GotV w (.bool (fars u q))) := by
  unfold fars
  rcases Nat.lt_trichotomy q (u % q + u % q) with h | h | h
  · have e : (decide (q < u % q + u % q) || (decide (u % q + u % q = q) && decide (u / q % 2 = 1))) = true := by rw [decide_eq_true h]; rfl
    rw [e]; exact knear_gt r0 r1 r2 ha hb hq ly lq h
  · have e : (decide (q < u % q + u % q) || (decide (u % q + u % q = q) && decide (u / q % 2 = 1))) = decide (u / q % 2 = 1) := by rw [decide_eq_false (show ¬ q < u % q + u % q by omega), decide_eq_true h.symm]; simp
    rw [e]; exact knear_eq r0 r1 r2 ha hb hq ly lq h.symm _ rfl
  · have e : (decide (q < u % q + u % q) || (decide (u % q + u % q = q) && decide (u / q % 2 = 1))) = false := by rw [decide_eq_false (show ¬ q < u % q + u % q by omega), decide_eq_false (show ¬ u % q + u % q = q by omega)]; rfl
    rw [e]; exact knear_lt r0 r1 r2 ha hb hq ly lq h

end Go.Proofs.YtpephogadljncaaGreat

/-
  Numbers rounded to the nearest, ties to even: what fix tells.
-/
namespace Go.Proofs.YtpephogadljncaaGreat
set_option linter.unusedSimpArgs false
set_option linter.unusedVariables false

theorem mk_times (n : Int) (d : Nat) (hd : d ≠ 0) : mkRat n d * ((d : Nat) : Rat) = (n : Rat) := by
  have h2 : ((d : Nat) : Rat) = mkRat ((d : Nat) : Int) 1 := by rw [Rat.mkRat_one]; rfl
  have h3 : (n : Rat) = mkRat n 1 := by rw [Rat.mkRat_one]
  rw [h2, h3, Rat.mkRat_mul_mkRat, Rat.mkRat_eq_iff (by omega) (by decide)]
  simp
theorem nat_pos_rat {d : Nat} (hd : d ≠ 0) : (0 : Rat) < ((d : Nat) : Rat) := Rat.natCast_pos.2 (by omega)
theorem mk_of {A : Rat} {n : Int} {d : Nat} (hd : d ≠ 0) (h : A * ((d : Nat) : Rat) = (n : Rat)) : A = mkRat n d := by
  have h1 := mk_times n d hd
  have h2 := nat_pos_rat hd
  have e := h.trans h1.symm
  exact Rat.le_antisymm (Rat.le_of_mul_le_mul_right (by rw [e]; exact Rat.le_refl) h2) (Rat.le_of_mul_le_mul_right (by rw [e]; exact Rat.le_refl) h2)
/-- A whole number by another one, to the nearest, ties to even. -/
def rn (n : Int) (d : Nat) : Int := nr (mkRat n d)
theorem rn_of {A : Rat} {n : Int} {d : Nat} (hd : d ≠ 0) (h : A * ((d : Nat) : Rat) = (n : Rat)) : nr A = rn n d := by rw [mk_of hd h]; rfl
theorem rn_neg (n : Int) {d : Nat} (hd : d ≠ 0) : rn (-n) d = -rn n d := by
  have h : -mkRat n d = mkRat (-n) d := mk_of hd (by rw [Rat.neg_mul, mk_times n d hd, Rat.intCast_neg])
  unfold rn
  rw [← h, nr_neg]
theorem rn_mono {n m : Int} {d : Nat} (hd : d ≠ 0) (h : n ≤ m) : rn n d ≤ rn m d := by
  refine nr_mono ?_
  apply Rat.le_of_mul_le_mul_right (c := ((d : Nat) : Rat)) _ (nat_pos_rat hd)
  rw [mk_times n d hd, mk_times m d hd]
  exact Rat.intCast_le_intCast.2 h
theorem rn_self (a : Int) {d : Nat} (hd : d ≠ 0) : rn (a * (d : Int)) d = a := by
  have h : (a : Rat) = mkRat (a * (d : Int)) d := mk_of hd (by rw [Rat.intCast_mul]; rfl)
  unfold rn
  rw [← h, nr_int]
theorem rn_nat (u d : Nat) (hd : d ≠ 0) : rn (u : Int) d = ((u / d + (if fars u d = true then 1 else 0) : Nat) : Int) := half_nat u d (by omega) _ (by rw [mk_times _ d hd]; rfl)
theorem rn_one (n : Int) : rn n 1 = n := by have := rn_self n (d := 1) (by omega); simpa using this
/-- What fix's calls tell. -/
theorem nea_sum (a b : Int) : nea ((a : Rat) + (b : Rat)) 0 = a + b := by
  unfold nea dw
  have : ((a : Rat) + (b : Rat)) * ((2 ^ 0 : Nat) : Rat) = ((a + b : Int) : Rat) := by rw [Rat.intCast_add]; simp
  rw [this, nr_int]
theorem nea_diff (a b : Int) : nea ((a : Rat) - (b : Rat)) 0 = a - b := by
  unfold nea dw
  have : ((a : Rat) - (b : Rat)) * ((2 ^ 0 : Nat) : Rat) = ((a - b : Int) : Rat) := by rw [Rat.intCast_sub]; simp
  rw [this, nr_int]
theorem pow_ne (k : Nat) : 2 ^ k ≠ 0 := Nat.ne_of_gt (Nat.pow_pos (by omega))
theorem nea_prod (a b : Int) (k : Nat) : nea (bak a k * bak b k) k = rn (a * b) (2 ^ k) := by
  unfold nea
  refine rn_of (pow_ne k) ?_
  have h1 := bak_mul a k
  have h2 := bak_mul b k
  rw [Rat.intCast_mul, ← h1, ← h2]
  show bak a k * bak b k * dw k * dw k = _
  grind
theorem nea_quot (a b : Int) (k : Nat) (hb : b ≠ 0) : nea ((a : Rat) / (b : Rat)) k = rn (b.sign * (a * ((2 ^ k : Nat) : Int))) b.natAbs := by
  unfold nea
  refine rn_of (by omega) ?_
  have h0 : (b : Rat) ≠ 0 := fun h => hb (Rat.intCast_eq_zero_iff.1 h)
  have h1 : ((b.natAbs : Nat) : Rat) = ((b.sign * b : Int) : Rat) := by
    have : ((b.natAbs : Nat) : Int) = b.sign * b := by
      rcases Int.lt_trichotomy b 0 with h | h | h
      · rw [Int.sign_eq_neg_one_of_neg h]; omega
      · omega
      · rw [Int.sign_eq_one_of_pos h]; omega
    rw [← this]; rfl
  have h2 : dw k = (((2 ^ k : Nat) : Int) : Rat) := rfl
  rw [h1, Rat.intCast_mul, Rat.intCast_mul, Rat.intCast_mul, ← h2]
  generalize (b.sign : Rat) = s
  grind
theorem nea_scale (a n : Int) (d : Nat) (hd : d ≠ 0) : nea ((a : Rat) * (n : Rat) / ((d : Int) : Rat)) 0 = rn (a * n) d := by
  unfold nea
  refine rn_of hd ?_
  have h0 := nat_pos_rat hd
  have h1 : ((d : Int) : Rat) = ((d : Nat) : Rat) := rfl
  have h2 : dw 0 = 1 := rfl
  rw [h1, h2, Rat.intCast_mul]
  grind
end Go.Proofs.YtpephogadljncaaGreat
