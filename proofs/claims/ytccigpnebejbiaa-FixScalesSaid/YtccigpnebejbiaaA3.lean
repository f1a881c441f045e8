/-
  Several texts in one: RDiv, U, Z4, Sq, Z5, Z6, Z7, MathF, YB, RGcd, E5.
-/
import Derived.Test.YtccigpnebejbiaaA2
import Derived.Test.YtccigpnebejbiaaA1
import Derived.Deep.RegionHeld3
import Derived.OpenShut
import Derived.Deep.DeepCutAuto
import Derived.Deep.LoopGhost

/-
  The contract of the second reference's DivMod.
-/
namespace Go.Proofs.Ytccigpnebejbiaa
set_option maxRecDepth 100000
open Go.RowKit

/-- A call has answered a quotient, what is left, and no error. -/
def GotD (w : World) (q r : Nat) (e : Ending) (w' : World) : Prop := ∃ A n c B m d, e = .returned (.tuple #[.slice A n c, .slice B m d, .int .i64 0]) ∧ Num w' A n c q ∧ Num w' B m d r ∧ Below w.heap.size w w'

theorem ownsRow_below {w w' : World} {base : Nat} {e : TypeId} {size : Nat} {v : Value} {n : Nat} {xs : List Value} (h : w.ownsRow base e size v n xs) (hb : Below w.heap.size w w') : w'.ownsRow base e size v n xs := by
  refine h.kept (row := none) ⟨hb.os, hb.tape, hb.output, hb.size, fun k hk _ => hb.block k hk⟩ ?_
  rcases h.2 with ⟨rfl, _⟩ | ⟨g, cap, cur, rfl, _⟩
  · exact .inl rfl
  · exact .inr (by simp [Value.ownBlock])

/-- A number that lies elsewhere is kept where a cell of a block is written. -/
theorem Num.far {w : World} {A : Option Addr} {n c x s o : Nat} {v : Value} (h : Num w A n c x) (hf : Fresh (s + 1) A n) : Num (w.setCell ⟨s, o, none⟩ v) A n c x := by
  refine ⟨h.1, h.2.1, h.2.2.1, fun h0 => ?_⟩
  obtain ⟨b, off, e, hb, hc⟩ := h.2.2.2 h0
  obtain ⟨b', off', e', hb'⟩ := hf h0
  rw [e] at e'
  injection e' with e'
  injection e' with e1 e2
  refine ⟨b, off, e, by rw [World.size_setCell]; exact hb, fun j hj => ?_⟩
  exact (World.cell?_of_block (a := ⟨b, off + j, none⟩) (Below.heap_setCell w ⟨s, o, none⟩ v b (by simp; omega))).trans (hc j hj)

theorem rbits_eq {w : World} {A : Option Addr} {n c x p : Nat} (ha : Num w A n c x) (hx : (limbs x).length ≤ 2147483648) (hp : blen x = p) : Calls Try.prog 58 #[.slice A n c] w (GotV w (.int .i64 (p : Int))) := by
  have := rbits_N ha hx
  rwa [hp] at this
theorem rshr_Fv {w : World} {A : Option Addr} {m c x n : Nat} {v : Int} (hv : v = (n : Int)) (ha : Num w A m c x) (hx : (limbs x).length ≤ 1000) (hn : n ≤ 20000) : Calls Try.prog 86 #[.slice A m c, .int .i64 v] w (GotPF w (x / 2 ^ n) 0) := by
  subst hv
  exact rshr_F ha hx hn
/-- Twice what a digit holds. -/
def tq (F i : Nat) : Nat := 2 * qd F (i + 1) (i / 64)
theorem wrap_two (F i : Nat) : IntKind.u64.wrap ((qd F (i + 1) (i / 64) : Int) * 2) = (tq F i : Int) := by
  have := qd_room F i
  unfold tq
  rw [IntKind.wrap_u64]
  unfold B64 at this
  omega
theorem wrap_tq (F i : Nat) : IntKind.u64.wrap ((tq F i : Int) + 1) = ((tq F i + 1 : Nat) : Int) := by
  have := qd_room F i
  unfold tq
  rw [IntKind.wrap_u64]
  unfold B64 at this
  omega

set_option maxHeartbeats 1000000 in
theorem rdiv_zero (w : World) (A B : Option Addr) (n c d : Nat) : Calls Try.prog 65 #[.slice A n c, .slice B 0 d] w (GotV w (.tuple #[.slice none 0 0, .slice none 0 0, .int .i64 4])) := by
  go_enter Try.func65, Try.ntmps65
  go_wp2
  go_ret3
  exact ⟨rfl, Below.refl _ _⟩

theorem div_start {x y f : Nat} (hy : y ≠ 0) (h : blen x = f + blen y) : x / y < 2 ^ (f + 1) ∧ x / 2 ^ (f + 1) < y := by
  have h1 := lt_blen x
  have h2 := blen_ge hy
  have h3 := blen_pos hy
  have e : 2 ^ blen x = 2 ^ (f + 1) * 2 ^ (blen y - 1) := by rw [← Nat.pow_add, h]; congr 1; omega
  have h4 : 2 ^ (f + 1) * 2 ^ (blen y - 1) ≤ 2 ^ (f + 1) * y := Nat.mul_le_mul_left _ h2
  constructor
  · rw [Nat.div_lt_iff_lt_mul (by omega)]; omega
  · rw [Nat.div_lt_iff_lt_mul (Nat.pow_pos (by omega)), Nat.mul_comm]; omega

theorem len_bits {x k : Nat} (h : (limbs x).length ≤ k) : blen x ≤ 64 * k := by
  refine blen_le ?_
  have h1 := lt_of_limbs_length h
  rw [B64_pow2] at h1
  exact h1
theorem r_len {x y k : Nat} (hy : 0 < y) (h : (limbs y).length ≤ k) : (limbs (x % y)).length ≤ k := Nat.le_trans (limbs_length_mono (Nat.le_of_lt (Nat.mod_lt _ hy))) h

set_option maxRecDepth 100000 in
set_option maxHeartbeats 8000000 in
theorem rdiv_main {w : World} {A B : Option Addr} {n c m d x y f : Nat} (ha : Num w A n c x) (hb : Num w B m d y) (hx : (limbs x).length ≤ 300) (hy : (limbs y).length ≤ 300) (hy0 : y ≠ 0) (hf : blen x = f + blen y) : Calls Try.prog 65 #[.slice A n c, .slice B m d] w (GotD w (x / y) (x % y)) := by
  obtain ⟨i0, hi, hz0, hz1, hz2⟩ := info_parts info24
  obtain ⟨hF, hR⟩ := div_start hy0 hf
  have hbx := len_bits hx
  have hn : n ≤ 300 := by rw [ha.len]; exact hx
  have hxn : blen x ≤ 64 * n := by rw [ha.len]; exact blen_le (by rw [← B64_pow2]; exact lt_of_limbs_length (Nat.le_refl _))
  have hm0 : ((m : Int) == 0) = false := by have := hb.len; have := limbs_ne_nil hy0; simp; omega
  obtain ⟨q, hq⟩ : ∃ q, blen y = q := ⟨_, rfl⟩
  have hq1 : 1 ≤ q := by have := blen_pos hy0; omega
  rw [hq] at hf
  rw [hf] at hbx hxn
  have HQ := Lib.hid hq
  have HP := Lib.hid hf
  clear hq hf
  go_enter Try.func65, Try.ntmps65
  go_wp2_with fail
  refine (rbits_eq ha (by omega) HP.out).mono ?_
  rintro e w1 ⟨rfl, b1⟩
  replace ha := ha.on b1
  replace hb := hb.on b1
  go_wp2_with fail
  refine (rbits_eq hb (by omega) HQ.out).mono ?_
  rintro e w2 ⟨rfl, b2⟩
  replace ha := ha.on b2
  replace hb := hb.on b2
  have cc := b1.trans (b2.mono b1.size)
  clear b1 b2
  obtain ⟨s, hs⟩ : ∃ s, w2.heap.size = s := ⟨_, rfl⟩
  unfold Num at ha hb
  rw [hs] at ha hb
  have HS := Lib.hid hs
  clear hs
  go_wp2_with (at_make; refine wpList_make_full _ rfl _ _ 31 rfl s 48 i0 (.int .u64 0) 1 Try.underlying31 hi hz0 hz1 .i64 .i64 _ _ n rfl rfl (by omega) (by omega) (by rw [hz2]; omega) (by unfold maxLen; omega) (by rw [HS.out]; omega) ?_; intro w3 hown3 hgrow3; rw [made_zeros] at hown3)
  rw [HS.out] at hown3 ⊢
  have hb3 : Below s w2 w3 := (Below.refl s w2).grown hgrow3 (by have := HS.out; omega) (fun k h => by cases h)
  have hs3 := (hown3.lt s rfl).2
  clear hgrow3
  have ha3 : Num w3 A n c x := (ha.below hb3).more (by omega)
  refine (rshr_Fv (n := f + 1) (by omega) ha3 (by omega) (by omega)).mono ?_
  rintro e w4 ⟨A4, n4, c4, rfl, h4, b4, f4⟩
  have hb4 : Below s w2 w4 := hb3.trans (b4.mono (by omega))
  have hown4 := ownsRow_below hown3 b4
  have hfr : Fresh (s + 1) A4 n4 := f4.mono (by omega)
  have hR4 : x / 2 ^ (f + 1) = x / 2 ^ (f + 1) % y := (Nat.mod_eq_of_lt hR).symm
  rw [hR4] at h4
  rw [← qlist_none hF] at hown4
  have hy1 : 0 < y := by omega
  clear b4 f4 ha3 hown3 hb3 hs3 hR4 hF hR
  go_wp2_with fail
  go_loopw [9, 11] (fun rv iv wr => ∃ (k : Nat) (A' : Option Addr) (n' c' : Nat), iv = .int .i64 ((k : Int) - 1) ∧ k ≤ f + 1 ∧ rv = .slice A' n' c' ∧ Num wr A' n' c' (x / 2 ^ k % y) ∧ Fresh (s + 1) A' n' ∧ wr.ownsRow s 48 1 (.slice (some ⟨s, 0, none⟩) n n) n ((qlist (x / y) k n).map encD) ∧ Below s w2 wr) (fun _ iv _ => (intOf iv + 1).toNat)
  case atStart => exact ⟨f + 1, A4, n4, c4, congrArg (Value.int .i64) (by omega), Nat.le_refl _, rfl, h4, hfr, hown4, hb4⟩
  case round =>
    obtain ⟨k, A', n', c', rfl, hk, rfl, hr, hfr', hown, hbl⟩ := hrel
    by_cases h0 : k = 0
    · subst h0
      have hlim := Lim.of_own hown (qlist_dig _ _ _)
      have hv : val (qlist (x / y) 0 n) = x / y := by
        rw [qlist_done]
        refine digs_all (Nat.lt_of_le_of_lt (Nat.div_le_self _ _) ?_)
        rw [ha.1]
        exact lt_of_limbs_length (Nat.le_refl _)
      have HV := Lib.hid hv
      have hr0 : x / 2 ^ 0 % y = x % y := by rw [Nat.pow_zero, Nat.div_one]
      rw [hr0] at hr
      clear hv hown hr0
      go_wp2_with fail
      refine (bare_lim hlim (by omega)).mono ?_
      rintro e w5 ⟨A5, n5, c5, rfl, h5, b5⟩
      rw [HV.out] at h5
      go_wp2_with fail
      go_ret3
      exact ⟨A5, n5, c5, A', n', c', rfl, h5, hr.on b5, cc.trans (Below.mono (B := s) (hbl.trans (b5.mono (by have := hbl.size; have := HS.out; omega))) (by have := cc.size; have := HS.out; omega))⟩
    · obtain ⟨i, hi'⟩ : ∃ i, k = i + 1 := ⟨k - 1, by omega⟩
      subst hi'
      have e1 : ((i + 1 : Nat) : Int) - 1 = (i : Int) := by omega
      rw [e1]
      clear e1
      obtain ⟨hstep, hbit⟩ := div_step (x := x) hy1 i
      have HST := Lib.hid hstep
      have HBT := Lib.hid hbit
      clear hstep hbit
      have hsz := (hown.lt s rfl).2
      have l1 := r_len (x := x / 2 ^ (i + 1)) hy1 hy
      obtain ⟨r, hre⟩ : ∃ r, x / 2 ^ (i + 1) % y = r := ⟨_, rfl⟩
      rw [hre] at hr l1
      have HRE := Lib.hid hre
      clear hre
      have l2 : (limbs (r + r)).length ≤ 301 := limbs_length_add l1 l1
      have hbl0 : bitN x i < B64 := Nat.lt_trans (bitN_lt x i) (by unfold B64; omega)
      have l3 : (limbs (bitN x i)).length ≤ 301 := Nat.le_trans (limbs_length_le (k := 1) (by rw [Nat.pow_one]; exact hbl0)) (by omega)
      have l4 : (limbs (r + r + bitN x i)).length ≤ 302 := limbs_length_add l2 l3
      have HO := Lib.hid hown
      clear hown
      go_wp2_with fail
      refine (radd_F hr hr (by omega) (by omega)).mono ?_
      rintro e w5 ⟨A5, n5, c5, rfl, h5, b5, f5⟩
      replace HO := Lib.hid (ownsRow_below HO.out b5)
      have hb5 : Below s w2 w5 := hbl.trans (b5.mono (by omega))
      have hs5 : s < w5.heap.size := Nat.lt_of_lt_of_le hsz b5.size
      clear b5 f5 hr hfr' hbl hsz
      go_wp2_with fail
      refine (bit_N (x := x) ((ha.below hb5).more (by omega)) (by omega) (by omega)).mono ?_
      rintro e w6 ⟨rfl, rfl⟩
      go_wp2_with fail
      refine (rof_N _ _ hbl0).mono ?_
      rintro e w6 ⟨A6, n6, c6, rfl, h6, b6⟩
      replace HO := Lib.hid (ownsRow_below HO.out b6)
      replace h5 := h5.on b6
      have hb6 : Below s w2 w6 := hb5.trans (b6.mono (by omega))
      have hs6 : s < w6.heap.size := Nat.lt_of_lt_of_le hs5 b6.size
      clear b6 hb5 hs5
      go_wp2_with fail
      refine (radd_F h5 h6 (by omega) (by omega)).mono ?_
      rintro e w7 ⟨A7, n7, c7, rfl, h7, b7, f7⟩
      replace HO := Lib.hid (ownsRow_below HO.out b7)
      have hb7 : Below s w2 w7 := hb6.trans (b7.mono (by omega))
      have hs7 : s < w7.heap.size := Nat.lt_of_lt_of_le hs6 b7.size
      have hf7 : Fresh (s + 1) A7 n7 := f7.mono (by omega)
      clear b7 f7 h5 h6 hb6 hs6
      have hit : i / 64 < n := by omega
      have hc1 : w7.cell? ⟨s, i / 64, none⟩ = some (.int .u64 (qd (x / y) (i + 1) (i / 64) : Int)) := by
        rw [HO.out.cellAt (i / 64) (by omega), List.getElem?_map, List.getElem?_eq_getElem (by rw [qlist_length]; exact hit)]
        simp [encD, qlist]
      have hf1 := HO.out.frozenAt (i / 64)
      have hst1 := HO.out.stored (i / 64) (.int .u64 (tq (x / y) i : Int))
      have HS1 := Lib.hid hst1
      clear hst1 HO
      have hw2 := wrap_two (x / y) i
      go_wp2_with fail
      clear hw2 hc1 hf1
      have h8 := h7.far (o := i / 64) (v := .int .u64 (tq (x / y) i : Int)) hf7
      have hb8 : Below s w2 (w7.setCell ⟨s, i / 64, none⟩ (.int .u64 (tq (x / y) i : Int))) := hb7.setCell (p := ⟨s, i / 64, none⟩) (Nat.le_refl _) _
      have hs8 : s < (w7.setCell ⟨s, i / 64, none⟩ (.int .u64 (tq (x / y) i : Int))).heap.size := by rw [World.size_setCell]; exact hs7
      have hn8 : Num (w7.setCell ⟨s, i / 64, none⟩ (.int .u64 (tq (x / y) i : Int))) B m d y := (hb.below hb8).more (by omega)
      have ho8 := HS1.out.1
      clear HS1 h7 hb7 hs7
      generalize w7.setCell ⟨s, i / 64, none⟩ (.int .u64 (tq (x / y) i : Int)) = w8 at *
      have HO8 := Lib.hid ho8
      clear ho8
      by_cases hge : y ≤ r + r + bitN x i
      · have hcm : 0 ≤ cmpN (r + r + bitN x i) y := by
          rcases Nat.lt_or_ge y (r + r + bitN x i) with h | h
          · rw [cmpN_gt h]; omega
          · rw [cmpN_zero.2 (by omega)]; omega
        have hst := HST.out
        have hbt := HBT.out
        rw [HRE.out, show 2 * r = r + r by omega, if_pos hge] at hst hbt
        have HRN := Lib.hid hst
        have HBN := Lib.hid hbt
        clear hst hbt HST HBT HRE
        refine (rcmp_N h8 hn8 (by omega) (by omega)).mono ?_
        rintro e w9 ⟨rfl, b9⟩
        replace h8 := h8.on b9
        replace hn8 := hn8.on b9
        have hb9 : Below s w2 w9 := hb8.trans (b9.mono (by omega))
        have hs9 : s < w9.heap.size := Nat.lt_of_lt_of_le hs8 b9.size
        replace HO8 := Lib.hid (ownsRow_below HO8.out b9)
        clear b9 hb8 hs8
        go_wp2_with fail
        refine (rsub_F h8 hn8 (by omega) (by omega) hge).mono ?_
        rintro e w10 ⟨A10, n10, c10, rfl, h10, b10, f10⟩
        have hb10 : Below s w2 w10 := hb9.trans (b10.mono (by omega))
        have hs10 : s < w10.heap.size := Nat.lt_of_lt_of_le hs9 b10.size
        have hf10 : Fresh (s + 1) A10 n10 := f10.mono (by omega)
        replace HO8 := Lib.hid (ownsRow_below HO8.out b10)
        clear b10 f10 hb9 h8 hn8 hs9
        have hc2 : w10.cell? ⟨s, i / 64, none⟩ = some (.int .u64 (tq (x / y) i : Int)) := by
          rw [HO8.out.cellAt (i / 64) (by omega), List.getElem?_set_self (by rw [List.length_map, qlist_length]; exact hit)]
        have hf2 := HO8.out.frozenAt (i / 64)
        have hst2 := HO8.out.stored (i / 64) (.int .u64 ((tq (x / y) i + 1 : Nat) : Int))
        have HS2 := Lib.hid hst2
        clear hst2 HO8
        have hw3 := wrap_tq (x / y) i
        go_wp2_with fail
        go_roundw
        case rel =>
          refine ⟨i, A10, n10, c10, by go_num, by omega, rfl, ?_, hf10, ?_, ?_⟩
          · rw [HRN.out]; exact h10.far hf10
          · have hrow := HS2.out.1
            rw [List.set_set] at hrow
            have e2 : tq (x / y) i + 1 = qd (x / y) i (i / 64) := by rw [qd_same, HBN.out]; rfl
            rw [← qlist_set (x / y) i n, List.map_set, ← e2]
            exact hrow
          · exact hb10.setCell (p := ⟨s, i / 64, none⟩) (Nat.le_refl _) _
        case measure => simp [intOf]
      · have hcm : ¬ 0 ≤ cmpN (r + r + bitN x i) y := by rw [cmpN_lt (by omega)]; omega
        have hst := HST.out
        have hbt := HBT.out
        rw [HRE.out, show 2 * r = r + r by omega, if_neg hge] at hst hbt
        have HRN := Lib.hid hst
        have HBN := Lib.hid hbt
        clear hst hbt HST HBT HRE
        refine (rcmp_N h8 hn8 (by omega) (by omega)).mono ?_
        rintro e w9 ⟨rfl, b9⟩
        replace h8 := h8.on b9
        have hb9 : Below s w2 w9 := hb8.trans (b9.mono (by omega))
        replace HO8 := Lib.hid (ownsRow_below HO8.out b9)
        clear b9 hb8 hs8 hn8
        go_wp2_with fail
        go_roundw
        case rel =>
          refine ⟨i, A7, n7, c7, by go_num, by omega, rfl, ?_, hf7, ?_, hb9⟩
          · rw [HRN.out]; exact h8
          · have hrow := HO8.out
            have e2 : tq (x / y) i = qd (x / y) i (i / 64) := by rw [qd_same, HBN.out]; rfl
            rw [← qlist_set (x / y) i n, List.map_set, ← e2]
            exact hrow
        case measure => simp [intOf]

theorem own_two (w : World) (o : Obj) (base : Nat) (h : base ≤ w.heap.size) : ((w.alloc o).alloc (.cells #[] 48)).ownsRow base 48 1 (.slice (some ⟨w.heap.size + 1, 0, none⟩) 0 0) 0 [] := by
  have := own_empty (w.alloc o) base (by rw [World.size_alloc]; omega)
  rw [World.size_alloc] at this
  exact this

theorem num_empty (w : World) (A : Option Addr) (c : Nat) : Num w A 0 c 0 := by
  unfold Num
  rw [limbs_zero]
  exact Lim.nil _ _ _ _

set_option maxRecDepth 100000 in
set_option maxHeartbeats 4000000 in
theorem rdiv_small {w : World} {A B : Option Addr} {n c m d x y : Nat} (ha : Num w A n c x) (hb : Num w B m d y) (hx : (limbs x).length ≤ 300) (hy : (limbs y).length ≤ 300) (hf : blen x < blen y) : Calls Try.prog 65 #[.slice A n c, .slice B m d] w (GotD w 0 x) := by
  obtain ⟨i0, hi, hz0, hz1, hz2⟩ := info_parts info24
  have hbx := len_bits hx
  have hby := len_bits hy
  have hy0 : y ≠ 0 := fun e => by subst e; rw [blen_zero] at hf; omega
  have hn : n ≤ 300 := by rw [ha.len]; exact hx
  have hm0 : ((m : Int) == 0) = false := by have := hb.len; have := limbs_ne_nil hy0; simp; omega
  obtain ⟨p, hp⟩ : ∃ p, blen x = p := ⟨_, rfl⟩
  obtain ⟨q, hq⟩ : ∃ q, blen y = q := ⟨_, rfl⟩
  rw [hp] at hf hbx
  rw [hq] at hf hby
  have HQ := Lib.hid hq
  have HP := Lib.hid hp
  clear hq hp hy0
  have hxn := Lib.hid ha.len
  go_enter Try.func65, Try.ntmps65
  go_wp2_with fail
  refine (rbits_eq ha (by omega) HP.out).mono ?_
  rintro e w1 ⟨rfl, b1⟩
  replace ha := ha.on b1
  replace hb := hb.on b1
  go_wp2_with fail
  refine (rbits_eq hb (by omega) HQ.out).mono ?_
  rintro e w2 ⟨rfl, b2⟩
  replace ha := ha.on b2
  have cc := b1.trans (b2.mono b1.size)
  clear b1 b2 hb
  by_cases h0 : n = 0
  · subst h0
    have hx0 : x = 0 := by
      have h2 := val_limbs x
      rw [List.eq_nil_of_length_eq_zero hxn.out.symm] at h2
      exact h2.symm
    subst hx0
    have hfin : ∀ (W : World) (e : Ending), Below w2.heap.size w2 W → e = .returned (.tuple #[.slice (some ⟨w2.heap.size, 0, none⟩) 0 0, .slice (some ⟨w2.heap.size + 1, 0, none⟩) 0 0, .int .i64 0]) → GotD w 0 0 e W := fun W e hW he =>
      ⟨_, _, _, _, _, _, he, num_empty _ _ _, num_empty _ _ _, cc.trans (hW.mono cc.size)⟩
    have HF := Lib.hid hfin
    clear hfin
    cases A with
    | none =>
      go_wp2
      go_ret3
      exact HF.out _ _ (((Below.refl _ w2).alloc (Nat.le_refl _) _).alloc (by simp) _) rfl
    | some ad =>
      go_wp2_with (at_builtin; refine wpList_append_own _ rfl _ _ 31 rfl w2.heap.size 48 i0 (.int .u64 0) 1 8 Try.underlying31 hi hz0 hz1 hz2 rfl (by decide) _ _ _ rfl (own_two w2 _ w2.heap.size (Nat.le_refl _)) ad 0 _ [] rfl rfl (by intro j u h; simp at h) (by simp) (by unfold maxLen; omega) (by omega) (by simp; omega) ?_; intro v' w5 hown5 hgrow5 _)
      go_ret3
      obtain ⟨A5, c5, rfl, hl5⟩ := isL_of_own (l := []) hown5 Dig.nil
      have hB5 : Below w2.heap.size w2 w5 := (((Below.refl _ w2).alloc (Nat.le_refl _) _).alloc (by simp) _).grown hgrow5 (by simp; omega) (fun k e => by injection (show some (w2.heap.size + 1) = some k from e) with e1; omega)
      exact ⟨_, _, _, _, _, _, rfl, num_empty _ _ _, num_empty _ _ _, cc.trans (hB5.mono cc.size)⟩
  · obtain ⟨b, off, rfl, hbb, hcell⟩ := ha.2.2.2 (by omega)
    have hcells : ∀ (j : Nat) u, ((limbs x).map encD)[j]? = some u → ((w2.alloc (.cells #[] 48)).alloc (.cells #[] 48)).cell? ((⟨b, off, none⟩ : Addr).add j) = some u := by
      intro j u hu
      have hj : j < n := by
        have := (List.getElem?_eq_some_iff.1 hu).1
        rw [List.length_map] at this
        have := hxn.out; omega
      have e1 : ((⟨b, off, none⟩ : Addr).add j) = ⟨b, off + j, none⟩ := by unfold Addr.add; split <;> simp_all
      rw [e1, World.cell?_alloc_lt _ _ _ (by simp; omega), World.cell?_alloc_lt _ _ _ hbb, hcell j hj]
      rw [List.getElem?_map] at hu
      have hjl : j < (limbs x).length := by have := hxn.out; omega
      rw [List.getElem?_eq_getElem hjl] at hu ⊢
      exact hu
    have HC := Lib.hid hcells
    clear hcells hcell
    go_wp2_with (at_builtin; refine wpList_append_own _ rfl _ _ 31 rfl w2.heap.size 48 i0 (.int .u64 0) 1 8 Try.underlying31 hi hz0 hz1 hz2 rfl (by decide) _ _ _ rfl (own_two w2 _ w2.heap.size (Nat.le_refl _)) ⟨b, off, none⟩ n _ ((limbs x).map encD) rfl (by have := hxn.out; simp only [List.length_map]; omega) HC.out (encD_one _) (by unfold maxLen; omega) (by omega) (by simp; omega) ?_; intro v' w5 hown5 hgrow5 _)
    go_ret3
    rw [List.nil_append] at hown5
    obtain ⟨A5, c5, rfl, hl5⟩ := isL_of_own hown5 (limbs_dig x)
    have hB5 : Below w2.heap.size w2 w5 := (((Below.refl _ w2).alloc (Nat.le_refl _) _).alloc (by simp) _).grown hgrow5 (by simp; omega) (fun k e => by injection (show some (w2.heap.size + 1) = some k from e) with e1; omega)
    exact ⟨_, _, _, _, _, _, rfl, num_empty _ _ _, hl5, cc.trans (hB5.mono cc.size)⟩

theorem rdiv_N {w : World} {A B : Option Addr} {n c m d x y : Nat} (ha : Num w A n c x) (hb : Num w B m d y) (hx : (limbs x).length ≤ 300) (hy : (limbs y).length ≤ 300) (hy0 : y ≠ 0) : Calls Try.prog 65 #[.slice A n c, .slice B m d] w (GotD w (x / y) (x % y)) := by
  rcases Nat.lt_or_ge (blen x) (blen y) with h | h
  · have hlt : x < y := by
      rcases Nat.lt_or_ge x y with h1 | h1
      · exact h1
      · have := blen_le (Nat.lt_of_le_of_lt h1 (lt_blen x)); omega
    rw [Nat.div_eq_of_lt hlt, Nat.mod_eq_of_lt hlt]
    exact rdiv_small ha hb hx hy h
  · exact rdiv_main (f := blen x - blen y) ha hb hx hy hy0 (by omega)

end Go.Proofs.Ytccigpnebejbiaa

/-
  Small helps for the laws: a digit in new memory, lengths of small numbers.
-/
namespace Go.Proofs.Ytccigpnebejbiaa
open Go.RowKit

theorem new_digit {x : Nat} (h0 : x ≠ 0) (hx : x < B64) (w : World) (t : TypeId) : Num (w.alloc (.cells #[.int .u64 (x : Int)] t)) (some ⟨w.heap.size, 0, none⟩) 1 1 x := by
  obtain ⟨A, n, c, e, hl⟩ := isN_new h0 hx w t
  injection e with e1 e2 e3
  subst e1; subst e2; subst e3
  exact hl
theorem len_one {x : Nat} (hx : x < B64) : (limbs x).length ≤ 1 := limbs_length_le (k := 1) (by rw [Nat.pow_one]; exact hx)
theorem len_nought : (limbs 0).length ≤ 0 := by rw [limbs_zero]; simp
/-- The only digit of a small number. -/
theorem Num.cell {w : World} {A : Option Addr} {n c x : Nat} (h : Num w A n c x) (h0 : x ≠ 0) (hx : x < B64) : n = 1 ∧ ∃ b off, A = some ⟨b, off, none⟩ ∧ w.cell? ⟨b, off, none⟩ = some (.int .u64 (x : Int)) := by
  have hn := h.len
  rw [limbs_one h0 hx] at hn
  obtain ⟨b, off, e, _, hc⟩ := h.2.2.2 (by simp at hn; omega)
  have := hc 0 (by simp at hn; omega)
  rw [limbs_one h0 hx] at this
  exact ⟨hn, b, off, e, this⟩
theorem new_first {x : Nat} {v : Int} (h0 : x ≠ 0) (hx : x < B64) (hv : v = (x : Int)) (w : World) (t : TypeId) : Num (w.alloc (.cells #[.int .u64 v] t)) (some ⟨w.heap.size, 0, none⟩) 1 1 x := by
  rw [hv]
  exact new_digit h0 hx w t
theorem Num.nought {w : World} {A : Option Addr} {n c : Nat} (h : Num w A n c 0) : n = 0 := by
  have := h.len
  rwa [limbs_zero] at this
theorem Num.some_len {w : World} {A : Option Addr} {n c x : Nat} (h : Num w A n c x) (h0 : x ≠ 0) : 0 < n := by
  have := h.len
  have := limbs_ne_nil h0
  omega

end Go.Proofs.Ytccigpnebejbiaa

/-
  Integers in memory, and the contracts of the fourth reference: made, Right, Same, Neg, Cmp.
-/
namespace Go.Proofs.Ytccigpnebejbiaa
set_option maxRecDepth 100000
open Go.RowKit

/-- The value '.agg #[.bool b, .slice A n c]' stands for the integer z. -/
def Zn (w : World) (b : Bool) (A : Option Addr) (n c : Nat) (z : Int) : Prop := Num w A n c z.natAbs ∧ b = decide (z < 0)
theorem Zn.on {w w' : World} {b : Bool} {A : Option Addr} {n c : Nat} {z : Int} (h : Zn w b A n c z) (hb : Below w.heap.size w w') : Zn w' b A n c z := ⟨h.1.on hb, h.2⟩
/-- A number with a side. -/
def sgn (b : Bool) (x : Nat) : Int := if b then -(x : Int) else (x : Int)
theorem sgn_abs (b : Bool) (x : Nat) : (sgn b x).natAbs = x := by unfold sgn; split <;> omega
theorem Zn.eq {w : World} {b : Bool} {A : Option Addr} {n c : Nat} {z : Int} (h : Zn w b A n c z) : z = sgn b z.natAbs := by
  rw [h.2]; unfold sgn
  by_cases hz : z < 0
  · simp [hz]; omega
  · simp [hz]; omega
/-- A call has answered an integer. -/
def GotZ (w : World) (z : Int) (e : Ending) (w' : World) : Prop := ∃ b A n c, e = .returned (.agg #[.bool b, .slice A n c]) ∧ Zn w' b A n c z ∧ Below w.heap.size w w'
theorem bcell {W w1 : World} (hb : Below W.heap.size W w1) : (∀ b o, b < W.heap.size → w1.cell? ⟨b, o, none⟩ = W.cell? ⟨b, o, none⟩) ∧ (∀ b o, b < W.heap.size → w1.frozen? ⟨b, o, none⟩ = W.frozen? ⟨b, o, none⟩) :=
  ⟨fun b o h => hb.cell (p := ⟨b, o, none⟩) h, fun b o h => hb.frozen (p := ⟨b, o, none⟩) h⟩

set_option maxHeartbeats 1000000 in
theorem made_N {w : World} {A : Option Addr} {n c x : Nat} (b : Bool) (ha : Num w A n c x) (hn : n ≤ 1000000) : Calls Try.prog 40 #[.bool b, .slice A n c] w (GotZ w (sgn b x)) := by
  have hl := ha.len
  by_cases h0 : n = 0
  · subst h0
    have hx : x = 0 := by
      have h2 := val_limbs x
      rw [List.eq_nil_of_length_eq_zero hl.symm] at h2
      exact h2.symm
    subst hx
    have hz : Zn w false A 0 c (sgn b 0) := by
      refine ⟨by rw [sgn_abs]; exact ha, ?_⟩
      unfold sgn; split <;> rfl
    clear hl
    cases b
    all_goals
      go_enter Try.func40, Try.ntmps40
      go_wp2_with fail
      refine bodyPost_ret (v := .agg #[.bool false, .slice A 0 c]) (by simp [results, Try.results40, go_sem]) rfl ⟨_, _, _, _, rfl, hz.on ?_, ?_⟩
      all_goals exact (Below.refl _ w).alloc (Nat.le_refl _) _
  · have hx : x ≠ 0 := fun h => by rw [h, limbs_zero] at hl; simp at hl; omega
    have hn0 : (0 : Int) < (n : Int) := by omega
    have hz : Zn w b A n c (sgn b x) := by
      refine ⟨by rw [sgn_abs]; exact ha, ?_⟩
      unfold sgn
      cases b
      · simp
      · simp; omega
    clear hl
    cases b
    all_goals
      go_enter Try.func40, Try.ntmps40
      go_wp2_with fail
    · refine bodyPost_ret (v := .agg #[.bool false, .slice A n c]) (by simp [results, Try.results40, go_sem]) rfl ⟨_, _, _, _, rfl, hz.on ?_, ?_⟩
      all_goals exact (Below.refl _ w).alloc (Nat.le_refl _) _
    · refine bodyPost_ret (v := .agg #[.bool true, .slice A n c]) (by simp [results, Try.results40, go_sem]; omega) rfl ⟨_, _, _, _, rfl, hz.on ?_, ?_⟩
      all_goals exact (Below.refl _ w).alloc (Nat.le_refl _) _

/-- The boxes of two structs that came in. -/
theorem below_two (w : World) (o o' : Obj) : Below w.heap.size w ((w.alloc o).alloc o') := ((Below.refl _ w).alloc (Nat.le_refl _) _).alloc (by simp) _
theorem below_one (w : World) (o : Obj) : Below w.heap.size w (w.alloc o) := (Below.refl _ w).alloc (Nat.le_refl _) _

/-- An integer's form is right. -/
def okZ (b : Bool) (n : Nat) (l : List Nat) : Bool := canon l && (decide (0 < n) || !b)

theorem zn_inj {w w' : World} {b b' : Bool} {A B : Option Addr} {n c m d : Nat} {z z' : Int} (ha : Zn w b A n c z) (hb : Zn w' b' B m d z') : (z = z' ↔ b = b' ∧ z.natAbs = z'.natAbs) := by
  constructor
  · intro h; subst h; exact ⟨ha.2.trans hb.2.symm, rfl⟩
  · intro ⟨h1, h2⟩
    rw [ha.eq, hb.eq, h1, h2]

theorem Zn.stored {w : World} {s : Nat} {b b0 : Bool} {A A0 : Option Addr} {n c n0 c0 : Nat} {z : Int} (h : Zn w b A n c z) (h0 : w.cell? ⟨s, 0, none⟩ = some (.bool b0)) (h1 : w.cell? ⟨s, 1, none⟩ = some (.slice A0 n0 c0)) :
    Zn ((w.setCell ⟨s, 0, none⟩ (.bool b)).setCell ⟨s, 1, none⟩ (.slice A n c)) b A n c z := by
  refine ⟨(h.1.set_other h0 (fun _ _ e => by cases e)).set_other (u := .slice A0 n0 c0) ?_ (fun _ _ e => by cases e), h.2⟩
  have hne : (⟨s, 0, none⟩ : Addr) ≠ ⟨s, 1, none⟩ := fun e => by injection e with _ e2; omega
  rw [World.cell?_setCell_other (h := hne)]
  exact h1

theorem sgn_neg {b : Bool} {z : Int} (hb : b = decide (z < 0)) : sgn (!b) z.natAbs = -z := by
  subst hb; unfold sgn
  by_cases h : z < 0
  · simp [h]; omega
  · simp [h]; omega

set_option maxHeartbeats 1000000 in
theorem rzneg_N {w : World} {b : Bool} {A : Option Addr} {n c : Nat} {z : Int} (ha : Zn w b A n c z) (hx : (limbs z.natAbs).length ≤ 1000000) :
    Calls Try.prog 90 #[.agg #[.bool b, .slice A n c]] w (GotZ w (-z)) := by
  have hs := sgn_neg ha.2
  have hn : n ≤ 1000000 := by rw [ha.1.len]; exact hx
  obtain ⟨W, hW⟩ : ∃ W, (w.alloc (.cells #[.bool b, .slice A n c] 33)).alloc (.cells #[.bool false, .slice none 0 0] 33) = W := ⟨_, rfl⟩
  have hB := below_two w (.cells #[.bool b, .slice A n c] 33) (.cells #[.bool false, .slice none 0 0] 33)
  have ha' := ha.1.on hB
  have HS := Lib.hid hs
  clear hs hW
  go_enter Try.func90, Try.ntmps90
  go_wp2_with fail
  refine (made_N (!b) ha' hn).mono ?_
  rintro e w1 ⟨b1, A1, n1, c1, rfl, hz, hb1⟩
  rw [HS.out] at hz
  obtain ⟨hc, hf⟩ := bcell hb1
  have hsz := hb1.size
  simp at hsz
  have e0 := (hc (w.heap.size + 1) 0 (by simp)).trans (show _ = some (.bool false) by simp)
  have e1 := (hc (w.heap.size + 1) 1 (by simp)).trans (show _ = some (.slice none 0 0) by simp)
  have HZ := Lib.hid (hz.stored e0 e1)
  have HB : Below w.heap.size w w1 := hB.trans (hb1.mono hB.size)
  go_wp2_with fail
  refine bodyPost_ret (v := .agg #[.bool b1, .slice A1 n1 c1]) (by simp [results, Try.results90, go_sem, e0, e1]) rfl ⟨_, _, _, _, rfl, HZ.out, ?_⟩
  exact (HB.setCell (p := ⟨w.heap.size + 1, 0, none⟩) (Nat.le_succ _) _).setCell (p := ⟨w.heap.size + 1, 1, none⟩) (Nat.le_succ _) _


end Go.Proofs.Ytccigpnebejbiaa

/-
  Facts carried over what a call does: short names, so that texts stay short.
-/
namespace Go.Proofs.Ytccigpnebejbiaa
open Go.RowKit
theorem cK {n : Nat} {w w' : World} (b : Below n w w') {p : Addr} {v : Option Value} (h : w.cell? p = v) (l : p.block < n) : w'.cell? p = v := (b.cell l).trans h
theorem fK {n : Nat} {w w' : World} (b : Below n w w') {p : Addr} {v : Bool} (h : w.frozen? p = v) (l : p.block < n) : w'.frozen? p = v := (b.frozen l).trans h
theorem lK {n : Nat} {w w' : World} (b : Below n w w') {a : Nat} (l : a < w.heap.size) : a < w'.heap.size := Nat.lt_of_lt_of_le l b.size
theorem bK {w w1 w2 : World} (c : Below w.heap.size w w1) (b : Below w1.heap.size w1 w2) : Below w.heap.size w w2 := c.trans (b.mono c.size)
theorem cR {n : Nat} {w w' : World} (b : Below n w w') {g i : Nat} (l : g < n) : w.cell? ⟨g, i, none⟩ = w'.cell? ⟨g, i, none⟩ := (b.cell (p := ⟨g, i, none⟩) l).symm
theorem fR {n : Nat} {w w' : World} (b : Below n w w') {g i : Nat} (l : g < n) : w.frozen? ⟨g, i, none⟩ = w'.frozen? ⟨g, i, none⟩ := (b.frozen (p := ⟨g, i, none⟩) l).symm
/-- A new box's cells, and that they may be written. -/
def Cs2 (w : World) (g : Nat) (a b : Value) : Prop := w.cell? ⟨g, 0, none⟩ = some a ∧ w.cell? ⟨g, 1, none⟩ = some b
def Cs3 (w : World) (g : Nat) (a b c : Value) : Prop := w.cell? ⟨g, 0, none⟩ = some a ∧ w.cell? ⟨g, 1, none⟩ = some b ∧ w.cell? ⟨g, 2, none⟩ = some c
def Cs6 (w : World) (g : Nat) (a b c d e f : Value) : Prop := w.cell? ⟨g, 0, none⟩ = some a ∧ w.cell? ⟨g, 1, none⟩ = some b ∧ w.cell? ⟨g, 2, none⟩ = some c ∧ w.cell? ⟨g, 3, none⟩ = some d ∧ w.cell? ⟨g, 4, none⟩ = some e ∧ w.cell? ⟨g, 5, none⟩ = some f
def Fz2 (w : World) (g : Nat) : Prop := w.frozen? ⟨g, 0, none⟩ = false ∧ w.frozen? ⟨g, 1, none⟩ = false
def Fz3 (w : World) (g : Nat) : Prop := w.frozen? ⟨g, 0, none⟩ = false ∧ w.frozen? ⟨g, 1, none⟩ = false ∧ w.frozen? ⟨g, 2, none⟩ = false
def Fz6 (w : World) (g : Nat) : Prop := w.frozen? ⟨g, 0, none⟩ = false ∧ w.frozen? ⟨g, 1, none⟩ = false ∧ w.frozen? ⟨g, 2, none⟩ = false ∧ w.frozen? ⟨g, 3, none⟩ = false ∧ w.frozen? ⟨g, 4, none⟩ = false ∧ w.frozen? ⟨g, 5, none⟩ = false
theorem pT {α : Type} : (∀ (l : List α) (i : Nat) (h : i < l.toArray.size), l.toArray[i]'h = l[i]'(by simpa using h)) ∧ (∀ (a : α) (l : List α) (h : 0 < (a :: l).length), (a :: l)[0]'h = a) ∧ (∀ (a : α) (l : List α) (i : Nat) (h : i + 1 < (a :: l).length), (a :: l)[i + 1]'h = l[i]'(by simpa using h)) ∧ (∀ (l : List α) (i : Nat) (v : α), l.toArray.setIfInBounds i v = (l.set i v).toArray) ∧ (∀ (a : α) (l : List α) (v : α), (a :: l).set 0 v = v :: l) ∧ (∀ (a : α) (l : List α) (i : Nat) (v : α), (a :: l).set (i + 1) v = a :: l.set i v) :=
  ⟨fun _ _ _ => by simp, fun _ _ _ => rfl, fun _ _ _ _ => rfl, fun _ _ _ => by simp, fun _ _ _ => rfl, fun _ _ _ _ => rfl⟩
theorem cl_lt {w : World} {p : Addr} {v : Value} (h : w.cell? p = some v) : p.block < w.heap.size := by
  rcases Nat.lt_or_ge p.block w.heap.size with h1 | h1
  · exact h1
  · simp [World.cell?, Array.getElem?_eq_none h1] at h
theorem zb2 {n g : Nat} {w w' : World} (q : Below n w w') (l : g < n) (c : Cs2 w g (.bool false) (.slice none 0 0)) (f : Fz2 w g) : w'.cell? ⟨g, 0, none⟩ = some (.bool false) ∧ w'.frozen? ⟨g, 0, none⟩ = false ∧ w'.cell? ⟨g, 1, none⟩ = some (.slice none 0 0) ∧ w'.frozen? ⟨g, 1, none⟩ = false ∧ g < w'.heap.size := ⟨cK q c.1 l, fK q f.1 l, cK q c.2 l, fK q f.2 l, Nat.lt_of_lt_of_le (cl_lt c.1) q.size⟩
theorem zb3 {n g : Nat} {w w' : World} (q : Below n w w') (l : g < n) (c : Cs3 w g (.bool false) (.slice none 0 0) (.slice none 0 0)) (f : Fz3 w g) : w'.cell? ⟨g, 0, none⟩ = some (.bool false) ∧ w'.frozen? ⟨g, 0, none⟩ = false ∧ w'.cell? ⟨g, 1, none⟩ = some (.slice none 0 0) ∧ w'.frozen? ⟨g, 1, none⟩ = false ∧ w'.cell? ⟨g, 2, none⟩ = some (.slice none 0 0) ∧ w'.frozen? ⟨g, 2, none⟩ = false ∧ g < w'.heap.size := ⟨cK q c.1 l, fK q f.1 l, cK q c.2.1 l, fK q f.2.1 l, cK q c.2.2 l, fK q f.2.2 l, Nat.lt_of_lt_of_le (cl_lt c.1) q.size⟩
theorem zb6 {n g : Nat} {w w' : World} (q : Below n w w') (l : g < n) (c : Cs6 w g (.bool false) (.slice none 0 0) (.slice none 0 0) (.bool false) (.slice none 0 0) (.slice none 0 0)) (f : Fz6 w g) : w'.cell? ⟨g, 0, none⟩ = some (.bool false) ∧ w'.frozen? ⟨g, 0, none⟩ = false ∧ w'.cell? ⟨g, 1, none⟩ = some (.slice none 0 0) ∧ w'.frozen? ⟨g, 1, none⟩ = false ∧ w'.cell? ⟨g, 2, none⟩ = some (.slice none 0 0) ∧ w'.frozen? ⟨g, 2, none⟩ = false ∧ w'.cell? ⟨g, 3, none⟩ = some (.bool false) ∧ w'.frozen? ⟨g, 3, none⟩ = false ∧ w'.cell? ⟨g, 4, none⟩ = some (.slice none 0 0) ∧ w'.frozen? ⟨g, 4, none⟩ = false ∧ w'.cell? ⟨g, 5, none⟩ = some (.slice none 0 0) ∧ w'.frozen? ⟨g, 5, none⟩ = false ∧ g < w'.heap.size := ⟨cK q c.1 l, fK q f.1 l, cK q c.2.1 l, fK q f.2.1 l, cK q c.2.2.1 l, fK q f.2.2.1 l, cK q c.2.2.2.1 l, fK q f.2.2.2.1 l, cK q c.2.2.2.2.1 l, fK q f.2.2.2.2.1 l, cK q c.2.2.2.2.2 l, fK q f.2.2.2.2.2 l, Nat.lt_of_lt_of_le (cl_lt c.1) q.size⟩
theorem uK {V y z x : World} (qq : Below V.heap.size V y) (up : Below y.heap.size y z) (q : Below z.heap.size z x) : Below V.heap.size V x := (qq.trans (up.mono qq.size)).trans (q.mono (Nat.le_trans qq.size up.size))
end Go.Proofs.Ytccigpnebejbiaa

/-
  The contracts of the fourth reference: Cmp, Mul, Add, Of, Int, Few.
-/
namespace Go.Proofs.Ytccigpnebejbiaa
set_option maxRecDepth 100000
open Go.RowKit

/-- Which of two integers is greater. -/
def cmpZ (a b : Int) : Int := if a < b then -1 else if b < a then 1 else 0
theorem cmpN_bd (a b : Nat) : -1 ≤ cmpN a b ∧ cmpN a b ≤ 1 := by unfold cmpN; split <;> (try split) <;> omega
theorem cmpZ_neg {z z' : Int} (h : z < 0) (h' : z' < 0) : cmpZ z z' = -cmpN z.natAbs z'.natAbs := by
  unfold cmpZ cmpN
  by_cases h1 : z < z'
  · rw [if_pos h1, if_neg (by omega), if_pos (by omega)]
  · rw [if_neg h1]
    by_cases h2 : z' < z
    · rw [if_pos h2, if_pos (by omega)]; rfl
    · rw [if_neg h2, if_neg (by omega), if_neg (by omega)]; rfl
theorem cmpZ_pos {z z' : Int} (h : ¬ z < 0) (h' : ¬ z' < 0) : cmpZ z z' = cmpN z.natAbs z'.natAbs := by
  have e1 : (z < z') ↔ (z.natAbs < z'.natAbs) := by omega
  have e2 : (z' < z) ↔ (z'.natAbs < z.natAbs) := by omega
  unfold cmpZ cmpN
  simp only [e1, e2]
theorem cmpZ_np {z z' : Int} (h : z < 0) (h' : ¬ z' < 0) : cmpZ z z' = -1 := by unfold cmpZ; rw [if_pos (by omega)]
theorem cmpZ_pn {z z' : Int} (h : ¬ z < 0) (h' : z' < 0) : cmpZ z z' = 1 := by unfold cmpZ; rw [if_neg (by omega), if_pos (by omega)]

set_option maxHeartbeats 2000000 in
theorem rzcmp_N {w : World} {b b' : Bool} {A B : Option Addr} {n c m d : Nat} {z z' : Int} (ha : Zn w b A n c z) (hb : Zn w b' B m d z') (hx : (limbs z.natAbs).length ≤ 1000000) (hy : (limbs z'.natAbs).length ≤ 1000000) :
    Calls Try.prog 44 #[.agg #[.bool b, .slice A n c], .agg #[.bool b', .slice B m d]] w (GotV w (.int .i64 (cmpZ z z'))) := by
  have hB := below_two w (.cells #[.bool b, .slice A n c] 33) (.cells #[.bool b', .slice B m d] 33)
  have ha' := ha.1.on hB
  have hb' := hb.1.on hB
  have s1 := ha.2
  have s2 := hb.2
  obtain ⟨r, hr⟩ : ∃ r, cmpN z.natAbs z'.natAbs = r := ⟨_, rfl⟩
  have hbd := cmpN_bd z.natAbs z'.natAbs
  rw [hr] at hbd
  have hcall := rcmp_N ha' hb' (by omega) (by omega)
  rw [hr] at hcall
  have HC := Lib.hid hcall
  have HR := Lib.hid hr
  obtain ⟨r1, r2⟩ := hbd
  clear hcall hr ha' hb'
  cases b with
  | true =>
    have hz : z < 0 := by simpa using s1.symm
    cases b' with
    | true =>
      have hz' : z' < 0 := by simpa using s2.symm
      have HE := Lib.hid (cmpZ_neg hz hz')
      clear s1 s2 hz hz' ha hb
      go_enter Try.func44, Try.ntmps44
      go_wp2_with fail
      refine HC.out.mono ?_
      rintro e w1 ⟨rfl, b1⟩
      obtain ⟨hc, hf⟩ := bcell b1
      have hsz := b1.size
      simp at hsz
      go_wp2_with fail
      go_ret
      refine ⟨ret_i64 ?_, hB.trans (b1.mono hB.size)⟩
      rw [HE.out, HR.out]
    | false =>
      have hz' : ¬ z' < 0 := by simpa using s2.symm
      have HE := Lib.hid (cmpZ_np hz hz')
      clear s1 s2 hz hz' ha hb
      go_enter Try.func44, Try.ntmps44
      go_wp2_with fail
      go_ret
      rw [HE.out]
      exact ⟨rfl, hB⟩
  | false =>
    have hz : ¬ z < 0 := by simpa using s1.symm
    cases b' with
    | true =>
      have hz' : z' < 0 := by simpa using s2.symm
      have HE := Lib.hid (cmpZ_pn hz hz')
      clear s1 s2 hz hz' ha hb
      go_enter Try.func44, Try.ntmps44
      go_wp2_with fail
      go_ret
      rw [HE.out]
      exact ⟨rfl, hB⟩
    | false =>
      have hz' : ¬ z' < 0 := by simpa using s2.symm
      have HE := Lib.hid (cmpZ_pos hz hz')
      clear s1 s2 hz hz' ha hb
      go_enter Try.func44, Try.ntmps44
      go_wp2_with fail
      refine HC.out.mono ?_
      rintro e w1 ⟨rfl, b1⟩
      obtain ⟨hc, hf⟩ := bcell b1
      have hsz := b1.size
      simp at hsz
      go_wp2_with fail
      go_ret
      refine ⟨ret_i64 ?_, hB.trans (b1.mono hB.size)⟩
      rw [HE.out, HR.out]

theorem sgn_mul {b b' : Bool} {z z' : Int} (hb : b = decide (z < 0)) (hb' : b' = decide (z' < 0)) : sgn (b != b') (z.natAbs * z'.natAbs) = z * z' := by
  subst hb; subst hb'
  obtain ⟨x, hx⟩ : ∃ x : Nat, z.natAbs = x := ⟨_, rfl⟩
  obtain ⟨y, hy⟩ : ∃ y : Nat, z'.natAbs = y := ⟨_, rfl⟩
  unfold sgn
  by_cases h1 : z < 0
  · have e1 : z = -(x : Int) := by omega
    by_cases h2 : z' < 0
    · have e2 : z' = -(y : Int) := by omega
      simp only [h1, h2, hx, hy]
      simp [e1, e2, Int.neg_mul_neg]
    · have e2 : z' = (y : Int) := by omega
      simp only [h1, h2, hx, hy]
      simp [e1, e2, Int.neg_mul]
  · have e1 : z = (x : Int) := by omega
    by_cases h2 : z' < 0
    · have e2 : z' = -(y : Int) := by omega
      simp only [h1, h2, hx, hy]
      simp [e1, e2, Int.mul_neg]
    · have e2 : z' = (y : Int) := by omega
      simp only [h1, h2, hx, hy]
      simp [e1, e2]

theorem cell_store {w : World} {s b o : Nat} {u v : Value} (h : b ≠ s) : ((w.setCell ⟨s, 0, none⟩ u).setCell ⟨s, 1, none⟩ v).cell? ⟨b, o, none⟩ = w.cell? ⟨b, o, none⟩ := by
  have h0 : (⟨s, 0, none⟩ : Addr) ≠ ⟨b, o, none⟩ := fun e => by injection e with e1; omega
  have h1 : (⟨s, 1, none⟩ : Addr) ≠ ⟨b, o, none⟩ := fun e => by injection e with e1; omega
  rw [World.cell?_setCell_other (h := h1), World.cell?_setCell_other (h := h0)]

set_option maxRecDepth 100000 in
set_option maxHeartbeats 2000000 in
theorem rzmul_N {w : World} {b b' : Bool} {A B : Option Addr} {n c m d : Nat} {z z' : Int} (ha : Zn w b A n c z) (hb : Zn w b' B m d z') (hx : (limbs z.natAbs).length ≤ 1000) (hy : (limbs z'.natAbs).length ≤ 1000) :
    Calls Try.prog 42 #[.agg #[.bool b, .slice A n c], .agg #[.bool b', .slice B m d]] w (GotZ w (z * z')) := by
  obtain ⟨W, hW⟩ : ∃ W, ((w.alloc (.cells #[.bool b, .slice A n c] 33)).alloc (.cells #[.bool b', .slice B m d] 33)).alloc (.cells #[.bool false, .slice none 0 0] 33) = W := ⟨_, rfl⟩
  have hB : Below w.heap.size w W := by rw [← hW]; exact (below_two w (.cells #[.bool b, .slice A n c] 33) (.cells #[.bool b', .slice B m d] 33)).alloc (by simp; omega) (.cells #[.bool false, .slice none 0 0] 33)
  have hsz : W.heap.size = w.heap.size + 3 := by rw [← hW]; simp
  have hBd : Below w.heap.size w W.drew := below_drewN hB 1
  have ha' : Num W.drew A n c z.natAbs := ha.1.on hBd
  have hb' : Num W.drew B m d z'.natAbs := hb.1.on hBd
  have c1 : W.cell? ⟨w.heap.size, 0, none⟩ = some (.bool b) := by rw [← hW]; simp [go_sem]
  have c2 : W.cell? ⟨w.heap.size, 1, none⟩ = some (.slice A n c) := by rw [← hW]; simp [go_sem]
  have c3 : W.cell? ⟨w.heap.size + 1, 0, none⟩ = some (.bool b') := by rw [← hW]; simp [go_sem]
  have c4 : W.cell? ⟨w.heap.size + 1, 1, none⟩ = some (.slice B m d) := by rw [← hW]; simp [go_sem]
  have c5 : W.cell? ⟨w.heap.size + 1 + 1, 0, none⟩ = some (.bool false) := by rw [← hW]; simp [go_sem]
  have c6 : W.cell? ⟨w.heap.size + 1 + 1, 1, none⟩ = some (.slice none 0 0) := by rw [← hW]; simp [go_sem]
  have c7 : W.frozen? ⟨w.heap.size + 1 + 1, 0, none⟩ = false := by rw [← hW]; simp [go_sem]
  have c8 : W.frozen? ⟨w.heap.size + 1 + 1, 1, none⟩ = false := by rw [← hW]; simp [go_sem]
  have HS : Hid (sgn (!(b == b')) (z.natAbs * z'.natAbs) = z * z') := Lib.hid (sgn_mul ha.2 hb.2)
  have hl := limbs_length_mul hx hy
  have hcall : Calls Try.prog 43 #[.slice A n c, .slice B m d] W.drew fun e w' => ∃ A1 n1 c1, e = .returned (.slice A1 n1 c1) ∧ Num w' A1 n1 c1 (z.natAbs * z'.natAbs) ∧ Below W.heap.size W w' := (rmul_N ha' hb' (by omega) (by omega)).mono fun _ _ ⟨A1, n1, c1, he, hm, hb⟩ => ⟨A1, n1, c1, he, hm, ⟨hb.os, hb.tape, hb.output, hb.size, hb.block⟩⟩
  have HC := Lib.hid hcall
  have HW := Lib.hid hW
  clear hcall
  go_enter Try.func42, Try.ntmps42
  go_wp2_with fail
  clear hW HW
  go_region_held3 (fun w' => w'.cell? ⟨w.heap.size, 0, none⟩ = some (.bool b) ∧ w'.cell? ⟨w.heap.size, 1, none⟩ = some (.slice A n c) ∧ w'.cell? ⟨w.heap.size + 1, 0, none⟩ = some (.bool b') ∧ w'.cell? ⟨w.heap.size + 1, 1, none⟩ = some (.slice B m d))
    (first | exact ⟨(cell_store (by omega)).trans ((hb1.cell (p := ⟨w.heap.size, 0, none⟩) (by simp; omega)).trans c1), (cell_store (by omega)).trans ((hb1.cell (p := ⟨w.heap.size, 1, none⟩) (by simp; omega)).trans c2), (cell_store (by omega)).trans ((hb1.cell (p := ⟨w.heap.size + 1, 0, none⟩) (by simp; omega)).trans c3), (cell_store (by omega)).trans ((hb1.cell (p := ⟨w.heap.size + 1, 1, none⟩) (by simp; omega)).trans c4)⟩ | go_keep | exact ⟨(hb1.cell (p := ⟨w.heap.size, 0, none⟩) (by simp; omega)).trans c1, (hb1.cell (p := ⟨w.heap.size, 1, none⟩) (by simp; omega)).trans c2, (hb1.cell (p := ⟨w.heap.size + 1, 0, none⟩) (by simp; omega)).trans c3, (hb1.cell (p := ⟨w.heap.size + 1, 1, none⟩) (by simp; omega)).trans c4⟩)
    (first
      | (go_at_call 43; (with_reducible refine HC.out.mono ?_); rintro e w1 ⟨A1, n1, k1, rfl, hm, hb1⟩)
      | (go_at_call 40; (with_reducible refine (made_N _ hm (by rw [hm.len]; omega)).mono ?_); rintro e w2 ⟨b2, A2, n2, k2, rfl, hz2, hb2⟩; replace hb1 := bK hb1 hb2; have e5 := (hb1.cell (p := ⟨w.heap.size + 1 + 1, 0, none⟩) (by simp; omega)).trans c5; have e6 := (hb1.cell (p := ⟨w.heap.size + 1 + 1, 1, none⟩) (by simp; omega)).trans c6; have e7 := (hb1.frozen (p := ⟨w.heap.size + 1 + 1, 0, none⟩) (by simp; omega)).trans c7; have e8 := (hb1.frozen (p := ⟨w.heap.size + 1 + 1, 1, none⟩) (by simp; omega)).trans c8))
  rw [HS.out] at hz2
  have HZ := Lib.hid (hz2.stored e5 e6)
  have HB : Below w.heap.size w w2 := hB.trans (hb1.mono hB.size)
  go_wp2_with fail
  refine bodyPost_ret (v := .agg #[.bool b2, .slice A2 n2 k2]) (by simp [results, Try.results42, go_sem, e5, e6]) rfl ⟨_, _, _, _, rfl, HZ.out, ?_⟩
  exact (HB.setCell (p := ⟨w.heap.size + 1 + 1, 0, none⟩) (show w.heap.size ≤ w.heap.size + 1 + 1 by omega) _).setCell (p := ⟨w.heap.size + 1 + 1, 1, none⟩) (show w.heap.size ≤ w.heap.size + 1 + 1 by omega) _

end Go.Proofs.Ytccigpnebejbiaa

/-
  The contracts of the fourth reference: Add, Of, Int.
-/
namespace Go.Proofs.Ytccigpnebejbiaa
set_option maxRecDepth 100000
open Go.RowKit

theorem sgn_same {b : Bool} {z z' : Int} (hb : b = decide (z < 0)) (hb' : b = decide (z' < 0)) : sgn b (z.natAbs + z'.natAbs) = z + z' := by
  by_cases h1 : z < 0
  · have h2 : z' < 0 := by simpa [h1] using hb.symm.trans hb'
    subst hb; unfold sgn; simp [h1]; omega
  · have h2 : ¬ z' < 0 := by have := hb.symm.trans hb'; simpa [h1] using this.symm
    subst hb; unfold sgn; simp [h1]; omega
theorem sgn_diff {b b' : Bool} {z z' : Int} (hb : b = decide (z < 0)) (hb' : b' = decide (z' < 0)) (hne : b ≠ b') (hle : z'.natAbs ≤ z.natAbs) : sgn b (z.natAbs - z'.natAbs) = z + z' := by
  subst hb; subst hb'
  unfold sgn
  by_cases h1 : z < 0
  · have h2 : ¬ z' < 0 := fun h => hne (by simp [h1, h])
    simp [h1]; omega
  · have h2 : z' < 0 := by
      by_cases h : z' < 0
      · exact h
      · exact absurd (by simp [h1, h]) hne
    simp [h1]; omega

/-- The boxes of two integers that came in, and of the one that goes out. -/
structure Box3 (w W : World) (b b' : Bool) (A B : Option Addr) (n c m d : Nat) : Prop where
  hB : Below w.heap.size w W
  sz : W.heap.size = w.heap.size + 3
  c1 : W.cell? ⟨w.heap.size, 0, none⟩ = some (.bool b)
  c2 : W.cell? ⟨w.heap.size, 1, none⟩ = some (.slice A n c)
  c3 : W.cell? ⟨w.heap.size + 1, 0, none⟩ = some (.bool b')
  c4 : W.cell? ⟨w.heap.size + 1, 1, none⟩ = some (.slice B m d)
  c5 : W.cell? ⟨w.heap.size + 1 + 1, 0, none⟩ = some (.bool false)
  c6 : W.cell? ⟨w.heap.size + 1 + 1, 1, none⟩ = some (.slice none 0 0)
  c7 : W.frozen? ⟨w.heap.size + 1 + 1, 0, none⟩ = false
  c8 : W.frozen? ⟨w.heap.size + 1 + 1, 1, none⟩ = false
theorem box3 {w W : World} {b b' : Bool} {A B : Option Addr} {n c m d : Nat} (hW : ((w.alloc (.cells #[.bool b, .slice A n c] 33)).alloc (.cells #[.bool b', .slice B m d] 33)).alloc (.cells #[.bool false, .slice none 0 0] 33) = W) : Box3 w W b b' A B n c m d := by
  refine ⟨?_, ?_, ?_, ?_, ?_, ?_, ?_, ?_, ?_, ?_⟩ <;> rw [← hW]
  · exact (below_two w (.cells #[.bool b, .slice A n c] 33) (.cells #[.bool b', .slice B m d] 33)).alloc (by simp; omega) (.cells #[.bool false, .slice none 0 0] 33)
  all_goals simp [go_sem]
theorem Box3.on {w W W' : World} {b b' : Bool} {A B : Option Addr} {n c m d : Nat} (h : Box3 w W b b' A B n c m d) (hb : Below W.heap.size W W') : Below w.heap.size w W' ∧ w.heap.size + 3 ≤ W'.heap.size ∧ W'.cell? ⟨w.heap.size, 0, none⟩ = some (.bool b) ∧ W'.cell? ⟨w.heap.size, 1, none⟩ = some (.slice A n c) ∧ W'.cell? ⟨w.heap.size + 1, 0, none⟩ = some (.bool b') ∧ W'.cell? ⟨w.heap.size + 1, 1, none⟩ = some (.slice B m d) ∧
    W'.cell? ⟨w.heap.size + 1 + 1, 0, none⟩ = some (.bool false) ∧ W'.cell? ⟨w.heap.size + 1 + 1, 1, none⟩ = some (.slice none 0 0) ∧ W'.frozen? ⟨w.heap.size + 1 + 1, 0, none⟩ = false ∧ W'.frozen? ⟨w.heap.size + 1 + 1, 1, none⟩ = false := by
  have hs := h.sz
  have hs' := hb.size
  refine ⟨h.hB.trans (hb.mono h.hB.size), by omega, ?_, ?_, ?_, ?_, ?_, ?_, ?_, ?_⟩
  · exact (hb.cell (p := ⟨w.heap.size, 0, none⟩) (by simp; omega)).trans h.c1
  · exact (hb.cell (p := ⟨w.heap.size, 1, none⟩) (by simp; omega)).trans h.c2
  · exact (hb.cell (p := ⟨w.heap.size + 1, 0, none⟩) (by simp; omega)).trans h.c3
  · exact (hb.cell (p := ⟨w.heap.size + 1, 1, none⟩) (by simp; omega)).trans h.c4
  · exact (hb.cell (p := ⟨w.heap.size + 1 + 1, 0, none⟩) (by simp; omega)).trans h.c5
  · exact (hb.cell (p := ⟨w.heap.size + 1 + 1, 1, none⟩) (by simp; omega)).trans h.c6
  · exact (hb.frozen (p := ⟨w.heap.size + 1 + 1, 0, none⟩) (by simp; omega)).trans h.c7
  · exact (hb.frozen (p := ⟨w.heap.size + 1 + 1, 1, none⟩) (by simp; omega)).trans h.c8

theorem below_undrew {W w' : World} (hb : Below W.drew.heap.size W.drew w') : Below W.heap.size W w' := ⟨hb.os, hb.tape, hb.output, hb.size, hb.block⟩

set_option maxRecDepth 100000 in
set_option maxHeartbeats 2000000 in
theorem rzadd_same {w : World} {b : Bool} {A B : Option Addr} {n c m d : Nat} {z z' : Int} (ha : Zn w b A n c z) (hb : Zn w b B m d z') (hx : (limbs z.natAbs).length ≤ 1000) (hy : (limbs z'.natAbs).length ≤ 1000) :
    Calls Try.prog 89 #[.agg #[.bool b, .slice A n c], .agg #[.bool b, .slice B m d]] w (GotZ w (z + z')) := by
  obtain ⟨W, hW⟩ : ∃ W, ((w.alloc (.cells #[.bool b, .slice A n c] 33)).alloc (.cells #[.bool b, .slice B m d] 33)).alloc (.cells #[.bool false, .slice none 0 0] 33) = W := ⟨_, rfl⟩
  have X := box3 hW
  have hBd : Below w.heap.size w W.drew := below_drewN X.hB 1
  have ha' : Num W.drew A n c z.natAbs := ha.1.on hBd
  have hb' : Num W.drew B m d z'.natAbs := hb.1.on hBd
  have HS := Lib.hid (sgn_same ha.2 hb.2)
  have hl := limbs_length_add hx hy
  have hcall : Calls Try.prog 59 #[.slice A n c, .slice B m d] W.drew fun e w' => ∃ A1 n1 c1, e = .returned (.slice A1 n1 c1) ∧ Num w' A1 n1 c1 (z.natAbs + z'.natAbs) ∧ Below W.heap.size W w' := (radd_N ha' hb' (by omega) (by omega)).mono fun _ _ ⟨A1, n1, c1, he, hm, hb⟩ => ⟨A1, n1, c1, he, hm, below_undrew hb⟩
  have HC := Lib.hid hcall
  have hc1 := X.c1
  have hc2 := X.c2
  have hc3 := X.c3
  have hc4 := X.c4
  clear hcall
  go_enter Try.func89, Try.ntmps89
  go_wp2_with fail
  clear hW
  go_region_held3 (fun w' => w'.cell? ⟨w.heap.size, 0, none⟩ = some (.bool b) ∧ w'.cell? ⟨w.heap.size, 1, none⟩ = some (.slice A n c) ∧ w'.cell? ⟨w.heap.size + 1, 0, none⟩ = some (.bool b) ∧ w'.cell? ⟨w.heap.size + 1, 1, none⟩ = some (.slice B m d))
    (first | exact ⟨(cell_store (by omega)).trans (X.on hb1).2.2.1, (cell_store (by omega)).trans (X.on hb1).2.2.2.1, (cell_store (by omega)).trans (X.on hb1).2.2.2.2.1, (cell_store (by omega)).trans (X.on hb1).2.2.2.2.2.1⟩ | go_keep | exact ⟨(X.on hb1).2.2.1, (X.on hb1).2.2.2.1, (X.on hb1).2.2.2.2.1, (X.on hb1).2.2.2.2.2.1⟩)
    (first
      | (go_at_call 59; (with_reducible refine HC.out.mono ?_); rintro e w1 ⟨A1, n1, k1, rfl, hm, hb1⟩)
      | (go_at_call 40; (with_reducible refine (made_N _ hm (by rw [hm.len]; omega)).mono ?_); rintro e w2 ⟨b2, A2, n2, k2, rfl, hz2, hb2⟩; replace hb1 := bK hb1 hb2; have e5 := (X.on hb1).2.2.2.2.2.2.1; have e6 := (X.on hb1).2.2.2.2.2.2.2.1; have e7 := (X.on hb1).2.2.2.2.2.2.2.2.1; have e8 := (X.on hb1).2.2.2.2.2.2.2.2.2))
  rw [HS.out] at hz2
  have HZ := Lib.hid (hz2.stored e5 e6)
  have HB := (X.on hb1).1
  go_wp2_with fail
  refine bodyPost_ret (v := .agg #[.bool b2, .slice A2 n2 k2]) (by simp [results, Try.results89, go_sem, e5, e6]) rfl ⟨_, _, _, _, rfl, HZ.out, ?_⟩
  exact (HB.setCell (p := ⟨w.heap.size + 1 + 1, 0, none⟩) (show w.heap.size ≤ w.heap.size + 1 + 1 by omega) _).setCell (p := ⟨w.heap.size + 1 + 1, 1, none⟩) (show w.heap.size ≤ w.heap.size + 1 + 1 by omega) _

set_option maxRecDepth 100000 in
set_option maxHeartbeats 2000000 in
theorem rzadd_first {w : World} {b b' : Bool} {A B : Option Addr} {n c m d : Nat} {z z' : Int} (ha : Zn w b A n c z) (hb : Zn w b' B m d z') (hx : (limbs z.natAbs).length ≤ 1000) (hy : (limbs z'.natAbs).length ≤ 1000) (hne : b ≠ b') (hle : z'.natAbs ≤ z.natAbs) :
    Calls Try.prog 89 #[.agg #[.bool b, .slice A n c], .agg #[.bool b', .slice B m d]] w (GotZ w (z + z')) := by
  obtain ⟨W, hW⟩ : ∃ W, ((w.alloc (.cells #[.bool b, .slice A n c] 33)).alloc (.cells #[.bool b', .slice B m d] 33)).alloc (.cells #[.bool false, .slice none 0 0] 33) = W := ⟨_, rfl⟩
  have X := box3 hW
  have ha' := ha.1.on X.hB
  have hb' := hb.1.on X.hB
  have HS := Lib.hid (sgn_diff ha.2 hb.2 hne hle)
  have hl : (limbs (z.natAbs - z'.natAbs)).length ≤ 1000 := Nat.le_trans (limbs_length_mono (Nat.sub_le _ _)) (by assumption)
  have hcm : 0 ≤ cmpN z.natAbs z'.natAbs := by
    rcases Nat.lt_or_ge z'.natAbs z.natAbs with h | h
    · rw [cmpN_gt h]; omega
    · rw [cmpN_zero.2 (by omega)]; omega
  have hneb : (b == b') = false := by simp [hne]
  have hc1 := X.c1
  have hc2 := X.c2
  have hc3 := X.c3
  have hc4 := X.c4
  go_enter Try.func89, Try.ntmps89
  go_wp2_with fail
  clear hW
  refine (rcmp_N ha' hb' (by omega) (by omega)).mono ?_
  rintro e w1 ⟨rfl, b1⟩
  have ha1 := ha'.on b1
  have hb1' := hb'.on b1
  obtain ⟨-, -, d1, d2, d3, d4, -, -, -, -⟩ := X.on b1
  clear ha' hb' hc1 hc2 hc3 hc4
  go_wp2_with fail
  refine (rsub_N ha1 hb1' (by omega) (by omega) hle).mono ?_
  rintro e w2 ⟨A2, n2, c2, rfl, hm, b2⟩
  have b12 := b1.trans (b2.mono b1.size)
  obtain ⟨-, -, f1, f2, f3, f4, -, -, -, -⟩ := X.on b12
  clear ha1 hb1' d1 d2 d3 d4 b1 b2
  go_wp2_with fail
  refine (made_N _ hm (by rw [hm.len]; omega)).mono ?_
  rintro e w3 ⟨b3, A3, n3, k3, rfl, hz3, b3'⟩
  have b13 := b12.trans (b3'.mono b12.size)
  obtain ⟨HB, -, -, -, -, -, e5, e6, e7, e8⟩ := X.on b13
  rw [HS.out] at hz3
  have HZ := Lib.hid (hz3.stored e5 e6)
  clear b12 b13 b3' f1 f2 f3 f4 hz3
  go_wp2_with fail
  refine bodyPost_ret (v := .agg #[.bool b3, .slice A3 n3 k3]) (by simp [results, Try.results89, go_sem, e5, e6]) rfl ⟨_, _, _, _, rfl, HZ.out, ?_⟩
  exact (HB.setCell (p := ⟨w.heap.size + 1 + 1, 0, none⟩) (show w.heap.size ≤ w.heap.size + 1 + 1 by omega) _).setCell (p := ⟨w.heap.size + 1 + 1, 1, none⟩) (show w.heap.size ≤ w.heap.size + 1 + 1 by omega) _

set_option maxRecDepth 100000 in
set_option maxHeartbeats 2000000 in
theorem rzadd_second {w : World} {b b' : Bool} {A B : Option Addr} {n c m d : Nat} {z z' : Int} (ha : Zn w b A n c z) (hb : Zn w b' B m d z') (hx : (limbs z.natAbs).length ≤ 1000) (hy : (limbs z'.natAbs).length ≤ 1000) (hne : b ≠ b') (hlt : z.natAbs < z'.natAbs) :
    Calls Try.prog 89 #[.agg #[.bool b, .slice A n c], .agg #[.bool b', .slice B m d]] w (GotZ w (z + z')) := by
  obtain ⟨W, hW⟩ : ∃ W, ((w.alloc (.cells #[.bool b, .slice A n c] 33)).alloc (.cells #[.bool b', .slice B m d] 33)).alloc (.cells #[.bool false, .slice none 0 0] 33) = W := ⟨_, rfl⟩
  have X := box3 hW
  have ha' := ha.1.on X.hB
  have hb' := hb.1.on X.hB
  have HS := Lib.hid ((sgn_diff hb.2 ha.2 (fun e => hne e.symm) (by omega)).trans (Int.add_comm z' z))
  have hl : (limbs (z'.natAbs - z.natAbs)).length ≤ 1000 := Nat.le_trans (limbs_length_mono (Nat.sub_le _ _)) (by assumption)
  have hcm : ¬ 0 ≤ cmpN z.natAbs z'.natAbs := by rw [cmpN_lt hlt]; omega
  have hneb : (b == b') = false := by simp [hne]
  have hc1 := X.c1
  have hc2 := X.c2
  have hc3 := X.c3
  have hc4 := X.c4
  go_enter Try.func89, Try.ntmps89
  go_wp2_with fail
  clear hW
  refine (rcmp_N ha' hb' (by omega) (by omega)).mono ?_
  rintro e w1 ⟨rfl, b1⟩
  have ha1 := ha'.on b1
  have hb1' := hb'.on b1
  obtain ⟨-, -, d1, d2, d3, d4, -, -, -, -⟩ := X.on b1
  clear ha' hb' hc1 hc2 hc3 hc4
  go_wp2_with fail
  refine (rsub_N hb1' ha1 (by omega) (by omega) (by omega)).mono ?_
  rintro e w2 ⟨A2, n2, c2, rfl, hm, b2⟩
  have b12 := b1.trans (b2.mono b1.size)
  obtain ⟨-, -, f1, f2, f3, f4, -, -, -, -⟩ := X.on b12
  clear ha1 hb1' d1 d2 d3 d4 b1 b2
  go_wp2_with fail
  refine (made_N _ hm (by rw [hm.len]; omega)).mono ?_
  rintro e w3 ⟨b3, A3, n3, k3, rfl, hz3, b3'⟩
  have b13 := b12.trans (b3'.mono b12.size)
  obtain ⟨HB, -, -, -, -, -, e5, e6, e7, e8⟩ := X.on b13
  rw [HS.out] at hz3
  have HZ := Lib.hid (hz3.stored e5 e6)
  clear b12 b13 b3' f1 f2 f3 f4 hz3
  go_wp2_with fail
  refine bodyPost_ret (v := .agg #[.bool b3, .slice A3 n3 k3]) (by simp [results, Try.results89, go_sem, e5, e6]) rfl ⟨_, _, _, _, rfl, HZ.out, ?_⟩
  exact (HB.setCell (p := ⟨w.heap.size + 1 + 1, 0, none⟩) (show w.heap.size ≤ w.heap.size + 1 + 1 by omega) _).setCell (p := ⟨w.heap.size + 1 + 1, 1, none⟩) (show w.heap.size ≤ w.heap.size + 1 + 1 by omega) _

theorem rzadd_N {w : World} {b b' : Bool} {A B : Option Addr} {n c m d : Nat} {z z' : Int} (ha : Zn w b A n c z) (hb : Zn w b' B m d z') (hx : (limbs z.natAbs).length ≤ 1000) (hy : (limbs z'.natAbs).length ≤ 1000) :
    Calls Try.prog 89 #[.agg #[.bool b, .slice A n c], .agg #[.bool b', .slice B m d]] w (GotZ w (z + z')) := by
  by_cases h : b = b'
  · subst h; exact rzadd_same ha hb hx hy
  · rcases Nat.lt_or_ge z.natAbs z'.natAbs with h1 | h1
    · exact rzadd_second ha hb hx hy h h1
    · exact rzadd_first ha hb hx hy h h1

end Go.Proofs.Ytccigpnebejbiaa

/-
  The contracts of the fourth reference: Of, Int.
-/
namespace Go.Proofs.Ytccigpnebejbiaa
set_option maxRecDepth 100000
open Go.RowKit

/-- An integer of 64 bits. -/
def I64 (z : Int) : Prop := -9223372036854775808 ≤ z ∧ z ≤ 9223372036854775807
theorem I64.abs {z : Int} (h : I64 z) : z.natAbs < B64 := by unfold I64 at h; unfold B64; omega

theorem sgn_of {b : Bool} {z : Int} (hb : b = decide (z < 0)) : sgn b z.natAbs = z := by
  subst hb; unfold sgn
  by_cases h : z < 0
  · simp [h]; omega
  · simp [h]; omega

set_option maxRecDepth 100000 in
set_option maxHeartbeats 2000000 in
theorem rzof_N (w : World) (z : Int) (h : I64 z) : Calls Try.prog 16 #[.int .i64 z] w (GotZ w z) := by
  have hx := h.abs
  obtain ⟨x, hxe⟩ : ∃ x, z.natAbs = x := ⟨_, rfl⟩
  rw [hxe] at hx
  obtain ⟨W, hW⟩ : ∃ W, w.alloc (.cells #[.bool false, .slice none 0 0] 33) = W := ⟨_, rfl⟩
  have hB : Below w.heap.size w W := by rw [← hW]; exact below_one w _
  have hsz : W.heap.size = w.heap.size + 1 := by rw [← hW]; simp
  have c1 : W.cell? ⟨w.heap.size, 0, none⟩ = some (.bool false) := by rw [← hW]; simp [go_sem]
  have c2 : W.cell? ⟨w.heap.size, 1, none⟩ = some (.slice none 0 0) := by rw [← hW]; simp [go_sem]
  have c3 : W.frozen? ⟨w.heap.size, 0, none⟩ = false := by rw [← hW]; simp [go_sem]
  have c4 : W.frozen? ⟨w.heap.size, 1, none⟩ = false := by rw [← hW]; simp [go_sem]
  have HSZ := Lib.hid hsz
  clear hsz
  have hl := len_one hx
  by_cases hz : z < 0
  · have hs : sgn true x = z := by rw [← hxe]; exact sgn_of (by simp [hz])
    have e1 : IntKind.u64.wrap (IntKind.u64.wrap (-(z + 1)) + 1) = (x : Int) := by
      unfold I64 at h; rw [IntKind.wrap_u64, IntKind.wrap_u64]; omega
    have e2 : IntKind.i64.wrap (z + 1) = z + 1 := IntWalk.i64_in _ (by unfold I64 at h; omega)
    have e3 : IntKind.i64.wrap (-(z + 1)) = -(z + 1) := IntWalk.i64_in _ (by unfold I64 at h; omega)
    have HS := Lib.hid hs
    clear hs hxe
    go_enter Try.func16, Try.ntmps16
    go_wp2_with fail
    clear hW e1 e2 e3
    refine (rof_N W x hx).mono ?_
    rintro e w1 ⟨A1, n1, k1, rfl, hm, b1⟩
    go_wp2_with fail
    refine (made_N _ hm (by rw [hm.len]; omega)).mono ?_
    rintro e w2 ⟨b2, A2, n2, k2, rfl, hz2, b2'⟩
    have b12 := b1.trans (b2'.mono b1.size)
    have hsz := HSZ.out
    have g1 := (b12.cell (p := ⟨w.heap.size, 0, none⟩) (by simp; omega)).trans c1
    have g2 := (b12.cell (p := ⟨w.heap.size, 1, none⟩) (by simp; omega)).trans c2
    have g3 := (b12.frozen (p := ⟨w.heap.size, 0, none⟩) (by simp; omega)).trans c3
    have g4 := (b12.frozen (p := ⟨w.heap.size, 1, none⟩) (by simp; omega)).trans c4
    rw [HS.out] at hz2
    have HZ := Lib.hid (hz2.stored g1 g2)
    have HB := hB.trans (b12.mono hB.size)
    clear hsz b12 b1 b2' hz2 hm
    go_wp2_with fail
    refine bodyPost_ret (v := .agg #[.bool b2, .slice A2 n2 k2]) (by simp [results, Try.results16, go_sem, g1, g2]) rfl ⟨_, _, _, _, rfl, HZ.out, ?_⟩
    exact (HB.setCell (p := ⟨w.heap.size, 0, none⟩) (Nat.le_refl _) _).setCell (p := ⟨w.heap.size, 1, none⟩) (Nat.le_refl _) _
  · have hs : sgn false x = z := by rw [← hxe]; exact sgn_of (by simp [hz])
    have e1 : IntKind.u64.wrap z = (x : Int) := by
      unfold I64 at h; rw [IntKind.wrap_u64]; omega
    have HS := Lib.hid hs
    clear hs hxe
    go_enter Try.func16, Try.ntmps16
    go_wp2_with fail
    clear hW e1
    refine (rof_N W x hx).mono ?_
    rintro e w1 ⟨A1, n1, k1, rfl, hm, b1⟩
    go_wp2_with fail
    refine (made_N _ hm (by rw [hm.len]; omega)).mono ?_
    rintro e w2 ⟨b2, A2, n2, k2, rfl, hz2, b2'⟩
    have b12 := b1.trans (b2'.mono b1.size)
    have hsz := HSZ.out
    have g1 := (b12.cell (p := ⟨w.heap.size, 0, none⟩) (by simp; omega)).trans c1
    have g2 := (b12.cell (p := ⟨w.heap.size, 1, none⟩) (by simp; omega)).trans c2
    have g3 := (b12.frozen (p := ⟨w.heap.size, 0, none⟩) (by simp; omega)).trans c3
    have g4 := (b12.frozen (p := ⟨w.heap.size, 1, none⟩) (by simp; omega)).trans c4
    rw [HS.out] at hz2
    have HZ := Lib.hid (hz2.stored g1 g2)
    have HB := hB.trans (b12.mono hB.size)
    clear hsz b12 b1 b2' hz2 hm
    go_wp2_with fail
    refine bodyPost_ret (v := .agg #[.bool b2, .slice A2 n2 k2]) (by simp [results, Try.results16, go_sem, g1, g2]) rfl ⟨_, _, _, _, rfl, HZ.out, ?_⟩
    exact (HB.setCell (p := ⟨w.heap.size, 0, none⟩) (Nat.le_refl _) _).setCell (p := ⟨w.heap.size, 1, none⟩) (Nat.le_refl _) _

theorem abs_sgn {b : Bool} {z : Int} (hb : b = decide (z < 0)) (hz : z < 0) : b = true := by rw [hb]; simp [hz]
theorem abs_sgn' {b : Bool} {z : Int} (hb : b = decide (z < 0)) (hz : ¬ z < 0) : b = false := by rw [hb]; simp [hz]

set_option maxRecDepth 100000 in
set_option maxHeartbeats 2000000 in
theorem rzint_yes {w : World} {b : Bool} {A : Option Addr} {n c : Nat} {z : Int} (ha : Zn w b A n c z) (h : I64 z) :
    Calls Try.prog 37 #[.agg #[.bool b, .slice A n c]] w (GotV w (.tuple #[.int .i64 z, .bool true])) := by
  have hx := h.abs
  obtain ⟨x, hxe⟩ : ∃ x, z.natAbs = x := ⟨_, rfl⟩
  rw [hxe] at hx
  have hB := below_one w (.cells #[.bool b, .slice A n c] 33)
  have ha' := ha.1.on hB
  rw [hxe] at ha'
  have hl := len_one hx
  have hn : n ≤ 9223372036854775807 := by rw [ha'.len]; omega
  have HC := Lib.hid (rsmall_any A n c x _ ha' hn hx)
  have hs := ha.2
  by_cases hz : z < 0
  · have hbt := abs_sgn hs hz
    subst hbt
    by_cases hm : x = 9223372036854775808
    · have e1 : ((x : Int) == 9223372036854775808) = true := by simp; omega
      have e2 : ¬ (9223372036854775808 : Int) < (x : Int) := by omega
      have e3 : z = -9223372036854775808 := by omega
      subst e3
      clear hm hxe hs ha hz
      go_enter Try.func37, Try.ntmps37
      go_wp2_with fail
      refine HC.out.mono ?_
      rintro e w' ⟨rfl, rfl⟩
      go_wp2_with fail
      go_ret2
      exact ⟨rfl, hB⟩
    · have hx2 : x < 9223372036854775808 := by unfold I64 at h; omega
      have e1 : ((x : Int) == 9223372036854775808) = false := by simp; omega
      have e2 : ¬ (9223372036854775808 : Int) < (x : Int) := by omega
      have e3 : IntKind.i64.wrap (x : Int) = (x : Int) := IntWalk.i64_in _ (by omega)
      have e4 : IntKind.i64.wrap (-(x : Int)) = z := by rw [IntWalk.i64_in _ (by omega)]; omega
      have e5 : -(x : Int) = z := by omega
      have E5 := Lib.hid e5
      clear hm hxe hs ha hz e5
      go_enter Try.func37, Try.ntmps37
      go_wp2_with fail
      refine HC.out.mono ?_
      rintro e w' ⟨rfl, rfl⟩
      go_wp2_with fail
      go_ret2
      exact ⟨rfl, hB⟩
  · have hbt := abs_sgn' hs hz
    subst hbt
    have hx2 : x ≤ 9223372036854775807 := by unfold I64 at h; omega
    have e0 : ¬ (9223372036854775807 : Int) < (x : Int) := by omega
    have e1 : ((x : Int) == 9223372036854775808) = false := by simp; omega
    have e2 : ¬ (9223372036854775808 : Int) < (x : Int) := by omega
    have e3 : IntKind.i64.wrap (x : Int) = z := by rw [IntWalk.i64_in _ (by omega)]; omega
    clear hxe hs ha hz
    go_enter Try.func37, Try.ntmps37
    go_wp2_with fail
    refine HC.out.mono ?_
    rintro e w' ⟨rfl, rfl⟩
    go_wp2_with fail
    go_ret2
    exact ⟨rfl, hB⟩

set_option maxRecDepth 100000 in
set_option maxHeartbeats 2000000 in
theorem rzint_no {w : World} {b : Bool} {A : Option Addr} {n c : Nat} {z : Int} (ha : Zn w b A n c z) (hx : (limbs z.natAbs).length ≤ 1000000) (h : ¬ I64 z) :
    Calls Try.prog 37 #[.agg #[.bool b, .slice A n c]] w (GotV w (.tuple #[.int .i64 0, .bool false])) := by
  obtain ⟨x, hxe⟩ : ∃ x, z.natAbs = x := ⟨_, rfl⟩
  rw [hxe] at hx
  have hB := below_one w (.cells #[.bool b, .slice A n c] 33)
  have ha' := ha.1.on hB
  rw [hxe] at ha'
  have hn : n ≤ 9223372036854775807 := by rw [ha'.len]; omega
  have hs := ha.2
  rcases Nat.lt_or_ge x B64 with hlt | hge
  · have HC := Lib.hid (rsmall_any A n c x _ ha' hn hlt)
    by_cases hz : z < 0
    · have hbt := abs_sgn hs hz
      subst hbt
      have e2 : (9223372036854775808 : Int) < (x : Int) := by unfold I64 at h; omega
      clear hxe hs ha hz
      go_enter Try.func37, Try.ntmps37
      go_wp2_with fail
      refine HC.out.mono ?_
      rintro e w' ⟨rfl, rfl⟩
      go_wp2_with fail
      go_ret2
      exact ⟨rfl, hB⟩
    · have hbt := abs_sgn' hs hz
      subst hbt
      have e2 : (9223372036854775807 : Int) < (x : Int) := by unfold I64 at h; omega
      clear hxe hs ha hz
      go_enter Try.func37, Try.ntmps37
      go_wp2_with fail
      refine HC.out.mono ?_
      rintro e w' ⟨rfl, rfl⟩
      go_wp2_with fail
      go_ret2
      exact ⟨rfl, hB⟩
  · have HC := Lib.hid (rsmall_great A n c x _ ha' hn hge)
    clear hxe hs ha
    go_enter Try.func37, Try.ntmps37
    go_wp2_with fail
    refine HC.out.mono ?_
    rintro e w' ⟨rfl, rfl⟩
    go_wp2_with fail
    go_ret2
    exact ⟨rfl, hB⟩
end Go.Proofs.Ytccigpnebejbiaa

/-
  Rationals: one number by another one, reduced; how many limbs they have; which is greater.
-/
namespace Go.Proofs.Ytccigpnebejbiaa
open Go.RowKit

/-- Which of two rationals is greater. -/
def cmpQ (a b : Rat) : Int := if a < b then -1 else if b < a then 1 else 0
theorem cmpQ_eq (a b : Rat) : cmpZ (a.num * (b.den : Int)) (b.num * (a.den : Int)) = cmpQ a b := by
  unfold cmpQ cmpZ; simp only [Rat.lt_iff]
theorem cmpQ_bd (a b : Rat) : -1 ≤ cmpQ a b ∧ cmpQ a b ≤ 1 := by unfold cmpQ; split <;> (try split) <;> omega

theorem mkRat_den (p : Int) (q : Nat) (hq : q ≠ 0) : (mkRat p q).den = q / Nat.gcd p.natAbs q := by
  rw [Rat.den_mkRat, if_neg hq, Nat.gcd_comm]
theorem mkRat_num (p : Int) (q : Nat) (hq : q ≠ 0) : (mkRat p q).num = p / ((Nat.gcd p.natAbs q : Nat) : Int) := by
  rw [Rat.num_mkRat, if_neg hq, Nat.gcd_comm]
theorem natAbs_ediv (p : Int) (g : Nat) (hg : g ∣ p.natAbs) : (p / (g : Int)).natAbs = p.natAbs / g := by
  rcases Nat.eq_zero_or_pos g with h0 | h0
  · subst h0; simp
  · obtain ⟨k, hk⟩ := hg
    have h1 : p = (g : Int) * (k : Int) ∨ p = (g : Int) * (-(k : Int)) := by
      rcases Int.natAbs_eq p with h | h
      · left; rw [h, hk]; simp
      · right; rw [h, hk]; simp [Int.mul_neg]
    have hg0 : (g : Int) ≠ 0 := by omega
    rw [hk, Nat.mul_div_cancel_left _ h0]
    rcases h1 with h | h
    · rw [h, Int.mul_ediv_cancel_left _ hg0]; simp
    · rw [h, Int.mul_ediv_cancel_left _ hg0]; simp
theorem mkRat_abs (p : Int) (q : Nat) (hq : q ≠ 0) : (mkRat p q).num.natAbs = p.natAbs / Nat.gcd p.natAbs q := by
  rw [mkRat_num p q hq, natAbs_ediv _ _ (Nat.gcd_dvd_left _ _)]
theorem mkRat_neg (p : Int) (q : Nat) (hq : q ≠ 0) : decide ((mkRat p q).num < 0) = decide (p < 0) := by
  have hg : 0 < Nat.gcd p.natAbs q := Nat.gcd_pos_of_pos_right _ (by omega)
  have h1 := mkRat_num p q hq
  have h2 : (mkRat p q).num * ((Nat.gcd p.natAbs q : Nat) : Int) = p := by
    rw [h1]
    refine Int.ediv_mul_cancel ?_
    exact Int.ofNat_dvd_left.2 (Nat.gcd_dvd_left _ _)
  have h3 : (mkRat p q).num < 0 ↔ p < 0 := by
    constructor
    · intro h
      rw [← h2]
      exact Int.mul_neg_of_neg_of_pos h (by omega)
    · intro h
      rcases Int.lt_or_le (mkRat p q).num 0 with h4 | h4
      · exact h4
      · exfalso
        have := Int.mul_nonneg h4 (show (0 : Int) ≤ ((Nat.gcd p.natAbs q : Nat) : Int) by omega)
        omega
  simp only [h3]

/-- A rational both of whose sides have at most k limbs. -/
def Sz (r : Rat) (k : Nat) : Prop := (limbs r.num.natAbs).length ≤ k ∧ (limbs r.den).length ≤ k
theorem Sz.le {r : Rat} {k m : Nat} (h : Sz r k) (hk : k ≤ m) : Sz r m := ⟨Nat.le_trans h.1 hk, Nat.le_trans h.2 hk⟩
theorem sz_mk {p : Int} {q k : Nat} (hq : q ≠ 0) (hp : (limbs p.natAbs).length ≤ k) (hd : (limbs q).length ≤ k) : Sz (mkRat p q) k := by
  refine ⟨?_, ?_⟩
  · rw [mkRat_abs p q hq]; exact Nat.le_trans (limbs_length_mono (Nat.div_le_self _ _)) hp
  · rw [mkRat_den p q hq]; exact Nat.le_trans (limbs_length_mono (Nat.div_le_self _ _)) hd
theorem natAbs_over (a : Int) (b : Nat) : (a * (b : Int)).natAbs = a.natAbs * b := by rw [Int.natAbs_mul, Int.natAbs_natCast]
theorem den_mul_ne (a b : Rat) : a.den * b.den ≠ 0 := Nat.mul_ne_zero a.den_nz b.den_nz
theorem Sz.add {a b : Rat} {j k : Nat} (ha : Sz a j) (hb : Sz b k) : Sz (a + b) (j + k + 1) := by
  rw [Rat.add_def']
  refine sz_mk (den_mul_ne a b) ?_ (Nat.le_trans (limbs_length_mul ha.2 hb.2) (by omega))
  refine Nat.le_trans (limbs_length_mono (Int.natAbs_add_le _ _)) (limbs_length_add ?_ ?_)
  · rw [natAbs_over]; exact limbs_length_mul ha.1 hb.2
  · rw [natAbs_over, Nat.add_comm j k]; exact limbs_length_mul hb.1 ha.2
theorem Sz.neg {a : Rat} {j : Nat} (ha : Sz a j) : Sz (-a) j := ⟨by rw [Rat.neg_num, Int.natAbs_neg]; exact ha.1, ha.2⟩
theorem Sz.sub {a b : Rat} {j k : Nat} (ha : Sz a j) (hb : Sz b k) : Sz (a - b) (j + k + 1) := by
  rw [Rat.sub_eq_add_neg]; exact ha.add hb.neg
theorem Sz.mul {a b : Rat} {j k : Nat} (ha : Sz a j) (hb : Sz b k) : Sz (a * b) (j + k) := by
  rw [Rat.mul_def']
  refine sz_mk (den_mul_ne a b) ?_ (limbs_length_mul ha.2 hb.2)
  rw [Int.natAbs_mul]; exact limbs_length_mul ha.1 hb.1
theorem Sz.inv {a : Rat} {j : Nat} (ha : Sz a j) (h0 : a.num ≠ 0) : Sz a⁻¹ j := by
  refine ⟨?_, ?_⟩
  · rw [Rat.num_inv, Int.natAbs_mul, Int.natAbs_sign_of_ne_zero h0, Nat.one_mul, Int.natAbs_natCast]; exact ha.2
  · rw [Rat.den_inv, if_neg h0]; exact ha.1
theorem Sz.div {a b : Rat} {j k : Nat} (ha : Sz a j) (hb : Sz b k) (h0 : b.num ≠ 0) : Sz (a / b) (j + k) := by
  rw [Rat.div_def]; exact ha.mul (hb.inv h0)
/-- A quotient, as it is made. -/
def dnum (a b : Rat) : Int := if b.num < 0 then -(a.num * (b.den : Int)) else a.num * (b.den : Int)
theorem div_mk (a b : Rat) (h0 : b.num ≠ 0) : a / b = mkRat (a.num * sgn (decide (b.num < 0)) b.den) (a.den * b.num.natAbs) := by
  rw [Rat.div_def, Rat.mul_def', Rat.num_inv, Rat.den_inv, if_neg h0]
  congr 2
  unfold sgn
  by_cases h : b.num < 0
  · simp [h, Int.sign_eq_neg_one_of_neg h]
  · have : 0 < b.num := by omega
    simp [h, Int.sign_eq_one_of_pos this]
/-- Two sides that nothing divides are a rational's. -/
theorem rat_of (p : Int) (q : Nat) (hq : q ≠ 0) (hg : Nat.gcd p.natAbs q = 1) : ∃ r : Rat, r.num = p ∧ r.den = q := ⟨⟨p, q, hq, hg⟩, rfl, rfl⟩
theorem of_num (n : Int) : ((n : Int) : Rat).num = n := rfl
theorem of_den (n : Int) : ((n : Int) : Rat).den = 1 := rfl
theorem sz_of {n : Int} (h : (limbs n.natAbs).length ≤ 1) : Sz ((n : Int) : Rat) 1 := ⟨h, by rw [of_den]; exact limbs_length_le (by decide)⟩
theorem rat_inj (a b : Rat) : decide (a.num = b.num ∧ a.den = b.den) = decide (a = b) := by
  have : (a.num = b.num ∧ a.den = b.den) ↔ a = b := ⟨fun h => Rat.ext h.1 h.2, fun h => h ▸ ⟨rfl, rfl⟩⟩
  simp only [this]
end Go.Proofs.Ytccigpnebejbiaa

/-
  Small helps for the laws of integers: boxes, and what is kept.
-/
namespace Go.Proofs.Ytccigpnebejbiaa
open Go.RowKit
set_option linter.unusedVariables false

theorem Zn.ok {w : World} {b : Bool} {A : Option Addr} {n c : Nat} {z : Int} (h : Zn w b A n c z) : okZ b n (limbs z.natAbs) = true := by
  unfold okZ
  rw [limbs_canon, Bool.true_and]
  by_cases hz : z < 0
  · have h0 : 0 < n := by have := h.1.some_len (by omega); omega
    simp [h0]
  · rw [h.2]; simp [hz]
theorem len_z {z : Int} (h : z.natAbs < B64) : (limbs z.natAbs).length ≤ 300 := Nat.le_trans (len_one h) (by omega)
theorem okZ_zn {w : World} {b : Bool} {A : Option Addr} {n c : Nat} {l : List Nat} (h : Lim w.heap.size w A n c l) (hk : okZ b n l = true) : Zn w b A n c (sgn b (val l)) := by
  unfold okZ at hk
  rw [Bool.and_eq_true] at hk
  have hN := h.num hk.1
  refine ⟨by rw [sgn_abs]; exact hN, ?_⟩
  unfold sgn
  cases b
  · simp
  · have h0 : 0 < n := by simpa using hk.2
    have hl := hN.len
    have hv : val l ≠ 0 := fun e => by rw [e, limbs_zero] at hl; simp at hl; omega
    simp; omega
theorem len_z0 : (limbs (0 : Int).natAbs).length ≤ 1000000 := by rw [show (0 : Int).natAbs = 0 from rfl, limbs_zero]; simp
/-- A cell that is there stays behind a new block. -/
theorem keep_alloc {w : World} {o : Obj} {p : Addr} {v : Value} (h : w.cell? p = some v) : (w.alloc o).cell? p = some v := by
  have hlt : p.block < w.heap.size := by
    rcases Nat.lt_or_ge p.block w.heap.size with h1 | h1
    · exact h1
    · simp [World.cell?, Array.getElem?_eq_none h1] at h
  rw [World.cell?_of_block (w := w) (Below.heap_alloc w o p.block hlt)]
  exact h

theorem zlen_add {z z' : Int} {k : Nat} (h : (limbs z.natAbs).length ≤ k) (h' : (limbs z'.natAbs).length ≤ k) : (limbs (z + z').natAbs).length ≤ k + 1 :=
  Nat.le_trans (limbs_length_mono (Int.natAbs_add_le z z')) (limbs_length_add h h')
theorem zlen_mul {z z' : Int} {k m : Nat} (h : (limbs z.natAbs).length ≤ k) (h' : (limbs z'.natAbs).length ≤ m) : (limbs (z * z').natAbs).length ≤ k + m := by
  rw [Int.natAbs_mul]
  exact limbs_length_mul h h'
theorem zlen_neg {z : Int} {k : Nat} (h : (limbs z.natAbs).length ≤ k) : (limbs (-z).natAbs).length ≤ k := by
  rw [Int.natAbs_neg]
  exact h

theorem cell_lt {w : World} {p : Addr} {v : Value} (h : w.cell? p = some v) : p.block < w.heap.size := by
  rcases Nat.lt_or_ge p.block w.heap.size with h1 | h1
  · exact h1
  · simp [World.cell?, Array.getElem?_eq_none h1] at h
/-- A struct of two cells in memory. -/
def Box (W : World) (g : Nat) (b : Bool) (A : Option Addr) (n k : Nat) : Prop := W.cell? ⟨g, 0, none⟩ = some (.bool b) ∧ W.cell? ⟨g, 1, none⟩ = some (.slice A n k)
theorem Box.new (W : World) (b : Bool) (A : Option Addr) (n k : Nat) (T : TypeId) : Box (W.alloc (.cells #[.bool b, .slice A n k] T)) W.heap.size b A n k := ⟨by simp [go_sem], by simp [go_sem]⟩
theorem Box.alloc {W : World} {g : Nat} {b : Bool} {A : Option Addr} {n k : Nat} (h : Box W g b A n k) (o : Obj) : Box (W.alloc o) g b A n k := ⟨keep_alloc h.1, keep_alloc h.2⟩
theorem Box.other {W : World} {g g' : Nat} {b : Bool} {A : Option Addr} {n k : Nat} {u v : Value} (h : Box W g b A n k) (hne : g ≠ g') : Box ((W.setCell ⟨g', 0, none⟩ u).setCell ⟨g', 1, none⟩ v) g b A n k := ⟨(cell_store hne).trans h.1, (cell_store hne).trans h.2⟩
theorem Box.put {W : World} {g : Nat} {b0 : Bool} {A0 : Option Addr} {n0 k0 : Nat} (h : Box W g b0 A0 n0 k0) (b : Bool) (A : Option Addr) (n k : Nat) : Box ((W.setCell ⟨g, 0, none⟩ (.bool b)).setCell ⟨g, 1, none⟩ (.slice A n k)) g b A n k := by
  have h1 : (⟨g, 0, none⟩ : Addr) ≠ ⟨g, 1, none⟩ := fun e => by injection e with _ e2; omega
  have h2 : (⟨g, 1, none⟩ : Addr) ≠ ⟨g, 0, none⟩ := fun e => by injection e with _ e2; omega
  refine ⟨?_, ?_⟩
  · rw [World.cell?_setCell_other (h := h2)]
    exact World.cell?_setCell_same _ _ _ h.1
  · exact World.cell?_setCell_same _ _ _ ((World.cell?_setCell_other W _ _ _ h1).trans h.2)
theorem Zn.put {W : World} {g : Nat} {b b0 : Bool} {A A0 : Option Addr} {n c n0 c0 : Nat} {z : Int} (h : Zn W b A n c z) (hb : Box W g b0 A0 n0 c0) (u v : Value) : Zn ((W.setCell ⟨g, 0, none⟩ u).setCell ⟨g, 1, none⟩ v) b A n c z := by
  refine ⟨(h.1.set_other hb.1 (fun _ _ e => by cases e)).set_other (u := .slice A0 n0 c0) ?_ (fun _ _ e => by cases e), h.2⟩
  have hne : (⟨g, 0, none⟩ : Addr) ≠ ⟨g, 1, none⟩ := fun e => by injection e with _ e2; omega
  rw [World.cell?_setCell_other (h := hne)]
  exact hb.2
theorem Zn.alloc {W : World} {b : Bool} {A : Option Addr} {n c : Nat} {z : Int} (h : Zn W b A n c z) (o : Obj) : Zn (W.alloc o) b A n c z := h.on (below_one _ _)
theorem below_put {B g : Nat} {V W : World} (h : Below B V W) (hg : B ≤ g) (u v : Value) : Below B V ((W.setCell ⟨g, 0, none⟩ u).setCell ⟨g, 1, none⟩ v) := (h.setCell (p := ⟨g, 0, none⟩) hg u).setCell (p := ⟨g, 1, none⟩) hg v

/-- Behind 'x, y := f(..), g(..)': two boxes, and what they hold. -/
def Both (V U : World) (gx gy : Nat) (bx : Bool) (Ax : Option Addr) (nx kx : Nat) (bY : Bool) (Ay : Option Addr) (ny ky : Nat) (zx zy : Int) : Prop :=
  Box U gx bx Ax nx kx ∧ Box U gy bY Ay ny ky ∧ Zn U bx Ax nx kx zx ∧ Zn U bY Ay ny ky zy ∧ Below V.heap.size V U
section
variable {V wz : World} {gx gy : Nat} {bx bY : Bool} {Ax Ay : Option Addr} {nx kx ny ky : Nat} {zx zy : Int}
theorem pairA (hx : Zn wz bx Ax nx kx zx) (hy : Zn wz bY Ay ny ky zy) (qq : Below V.heap.size V wz) (T : TypeId) : Both V ((wz.alloc (.cells #[.bool bx, .slice Ax nx kx] T)).alloc (.cells #[.bool bY, .slice Ay ny ky] T)) wz.heap.size (wz.heap.size + 1) bx Ax nx kx bY Ay ny ky zx zy :=
  ⟨(Box.new wz bx Ax nx kx T).alloc _, by have := Box.new (wz.alloc (.cells #[.bool bx, .slice Ax nx kx] T)) bY Ay ny ky T; simpa using this, (hx.alloc _).alloc _, (hy.alloc _).alloc _, (qq.alloc qq.size _).alloc (by have := qq.size; simp; omega) _⟩
theorem pairA' (hx : Zn wz bx Ax nx kx zx) (hy : Zn wz bY Ay ny ky zy) (qq : Below V.heap.size V wz) (T : TypeId) : Both V ((wz.alloc (.cells #[.bool bY, .slice Ay ny ky] T)).alloc (.cells #[.bool bx, .slice Ax nx kx] T)) (wz.heap.size + 1) wz.heap.size bx Ax nx kx bY Ay ny ky zx zy :=
  ⟨by have := Box.new (wz.alloc (.cells #[.bool bY, .slice Ay ny ky] T)) bx Ax nx kx T; simpa using this, (Box.new wz bY Ay ny ky T).alloc _, (hx.alloc _).alloc _, (hy.alloc _).alloc _, (qq.alloc qq.size _).alloc (by have := qq.size; simp; omega) _⟩
theorem pairB (c0 : wz.cell? ⟨gx, 0, none⟩ = some (.bool false)) (c1 : wz.cell? ⟨gx, 1, none⟩ = some (.slice none 0 0)) (hx : Zn wz bx Ax nx kx zx) (hy : Zn wz bY Ay ny ky zy) (qq : Below V.heap.size V wz) (lx : V.heap.size ≤ gx) (T : TypeId) :
    Both V (((wz.setCell ⟨gx, 0, none⟩ (.bool bx)).setCell ⟨gx, 1, none⟩ (.slice Ax nx kx)).alloc (.cells #[.bool bY, .slice Ay ny ky] T)) gx wz.heap.size bx Ax nx kx bY Ay ny ky zx zy :=
  have B : Box wz gx false none 0 0 := ⟨c0, c1⟩
  ⟨(B.put bx Ax nx kx).alloc _, by have := Box.new ((wz.setCell ⟨gx, 0, none⟩ (.bool bx)).setCell ⟨gx, 1, none⟩ (.slice Ax nx kx)) bY Ay ny ky T; simpa using this, (hx.put B _ _).alloc _, (hy.put B _ _).alloc _, (below_put qq lx _ _).alloc (by have := qq.size; simp; omega) _⟩
theorem pairB' (c0 : wz.cell? ⟨gy, 0, none⟩ = some (.bool false)) (c1 : wz.cell? ⟨gy, 1, none⟩ = some (.slice none 0 0)) (hx : Zn wz bx Ax nx kx zx) (hy : Zn wz bY Ay ny ky zy) (qq : Below V.heap.size V wz) (ly : V.heap.size ≤ gy) (T : TypeId) :
    Both V (((wz.setCell ⟨gy, 0, none⟩ (.bool bY)).setCell ⟨gy, 1, none⟩ (.slice Ay ny ky)).alloc (.cells #[.bool bx, .slice Ax nx kx] T)) wz.heap.size gy bx Ax nx kx bY Ay ny ky zx zy :=
  have B : Box wz gy false none 0 0 := ⟨c0, c1⟩
  ⟨by have := Box.new ((wz.setCell ⟨gy, 0, none⟩ (.bool bY)).setCell ⟨gy, 1, none⟩ (.slice Ay ny ky)) bx Ax nx kx T; simpa using this, (B.put bY Ay ny ky).alloc _, (hx.put B _ _).alloc _, (hy.put B _ _).alloc _, (below_put qq ly _ _).alloc (by have := qq.size; simp; omega) _⟩
theorem pairC (c0 : wz.cell? ⟨gx, 0, none⟩ = some (.bool false)) (c1 : wz.cell? ⟨gx, 1, none⟩ = some (.slice none 0 0)) (d0 : wz.cell? ⟨gy, 0, none⟩ = some (.bool false)) (d1 : wz.cell? ⟨gy, 1, none⟩ = some (.slice none 0 0)) (hx : Zn wz bx Ax nx kx zx) (hy : Zn wz bY Ay ny ky zy) (qq : Below V.heap.size V wz) (lx : V.heap.size ≤ gx) (ly : V.heap.size ≤ gy) (hne : gx ≠ gy) :
    Both V ((((wz.setCell ⟨gx, 0, none⟩ (.bool bx)).setCell ⟨gx, 1, none⟩ (.slice Ax nx kx)).setCell ⟨gy, 0, none⟩ (.bool bY)).setCell ⟨gy, 1, none⟩ (.slice Ay ny ky)) gx gy bx Ax nx kx bY Ay ny ky zx zy :=
  have B : Box wz gx false none 0 0 := ⟨c0, c1⟩
  have D : Box ((wz.setCell ⟨gx, 0, none⟩ (.bool bx)).setCell ⟨gx, 1, none⟩ (.slice Ax nx kx)) gy false none 0 0 := Box.other ⟨d0, d1⟩ (Ne.symm hne)
  ⟨(B.put bx Ax nx kx).other hne, D.put bY Ay ny ky, (hx.put B _ _).put D _ _, (hy.put B _ _).put D _ _, below_put (below_put qq lx _ _) ly _ _⟩
end

/-- An integer that is right and of few limbs. -/
theorem few_zn {w : World} {b : Bool} {A : Option Addr} {n c : Nat} {l : List Nat} (m : Nat) (h : Lim w.heap.size w A n c l) (hr : (decide ((n : Int) ≤ (m : Int)) && okZ b n l) = true) : Zn w b A n c (sgn b (val l)) ∧ (limbs (sgn b (val l)).natAbs).length ≤ m := by
  rw [Bool.and_eq_true] at hr
  have h0 := okZ_zn h hr.2
  refine ⟨h0, ?_⟩
  rw [← h0.1.len]
  have := of_decide_eq_true hr.1
  omega

theorem i64_wf {n : Int} (h : (Lit.int .i64 n).wf = true) : I64 n := bounds_i64 h
theorem i32_wf {n : Int} (h : (Lit.int .i32 n).wf = true) : -2147483648 ≤ n ∧ n ≤ 2147483647 := bounds_i32 h

end Go.Proofs.Ytccigpnebejbiaa

/-
  The contracts of the second reference's Gcd and Goes.
-/
namespace Go.Proofs.Ytccigpnebejbiaa
set_option maxRecDepth 100000
open Go.RowKit

set_option maxRecDepth 100000 in
set_option maxHeartbeats 4000000 in
theorem rgcd_N {w : World} {A B : Option Addr} {n c m d x y : Nat} (ha : Num w A n c x) (hb : Num w B m d y) (hx : (limbs x).length ≤ 300) (hy : (limbs y).length ≤ 300) : Calls Try.prog 64 #[.slice A n c, .slice B m d] w (GotN w (Nat.gcd x y)) := by
  go_enter Try.func64, Try.ntmps64
  go_wp2_with fail
  go_loopg [0, 1] y (fun k av bv wr => ∃ (A' B' : Option Addr) (n' c' m' d' x' : Nat), av = .slice A' n' c' ∧ bv = .slice B' m' d' ∧ Num wr A' n' c' x' ∧ Num wr B' m' d' k ∧ (limbs x').length ≤ 300 ∧ (limbs k).length ≤ 300 ∧ Hid (Nat.gcd x' k = Nat.gcd x y) ∧ Below w.heap.size w wr)
  case atStart => exact ⟨A, B, n, c, m, d, x, rfl, rfl, ha, hb, hx, hy, Lib.hid rfl, Below.refl _ _⟩
  case round =>
    obtain ⟨A', B', n', c', m', d', x', rfl, rfl, h1, h2, l1, l2, hg, hbl⟩ := hrel
    have hm := h2.len
    by_cases h0 : gk = 0
    · subst h0
      rw [limbs_zero] at hm
      simp at hm
      subst hm
      go_wp2_with fail
      go_ret
      have e := hg.out
      rw [Nat.gcd_zero_right] at e
      rw [e] at h1
      exact ⟨_, _, _, rfl, h1, hbl⟩
    · have hm0 : 0 < m' := by have := limbs_ne_nil h0; omega
      have hmi : (0 : Int) < (m' : Int) := by omega
      have l3 := r_len (x := x') (by omega) l2
      have hg2 : Nat.gcd gk (x' % gk) = Nat.gcd x y := by rw [Nat.gcd_comm, ← Nat.gcd_rec, Nat.gcd_comm]; exact hg.out
      have HG := Lib.hid hg2
      clear hg hg2 hm
      go_wp2_with fail
      refine (rdiv_N h1 h2 (by omega) (by omega) h0).mono ?_
      rintro e w1 ⟨A1, n1, c1, B1, m1, d1, rfl, h3, h4, b1⟩
      go_wp2_with fail
      go_roundg (x' % gk)
      case measure => exact Nat.mod_lt _ (by omega)
      case rel => exact ⟨B', B1, m', d', m1, d1, gk, rfl, rfl, h2.on b1, h4, l2, l3, HG, hbl.trans (b1.mono hbl.size)⟩

end Go.Proofs.Ytccigpnebejbiaa

/-
  The contracts of the fifth reference: Make, Of, Right.
-/
namespace Go.Proofs.Ytccigpnebejbiaa
set_option maxRecDepth 100000
open Go.RowKit

/-- The value '.agg #[.bool b, .slice A n c, .slice B m d]' has the sides p and q. -/
def Rw (w : World) (b : Bool) (A : Option Addr) (n c : Nat) (B : Option Addr) (m d : Nat) (p : Int) (q : Nat) : Prop := Zn w b A n c p ∧ Num w B m d q
theorem Rw.on {w w' : World} {b : Bool} {A B : Option Addr} {n c m d : Nat} {p : Int} {q : Nat} (h : Rw w b A n c B m d p q) (hb : Below w.heap.size w w') : Rw w' b A n c B m d p q := ⟨h.1.on hb, h.2.on hb⟩
/-- It is the rational r. -/
def Rt (w : World) (b : Bool) (A : Option Addr) (n c : Nat) (B : Option Addr) (m d : Nat) (r : Rat) : Prop := Rw w b A n c B m d r.num r.den
theorem Rt.on {w w' : World} {b : Bool} {A B : Option Addr} {n c m d : Nat} {r : Rat} (h : Rt w b A n c B m d r) (hb : Below w.heap.size w w') : Rt w' b A n c B m d r := Rw.on h hb
/-- A call has answered a rational; and one with a code. -/
def GotRt (w : World) (r : Rat) (e : Ending) (w' : World) : Prop := ∃ b A n c B m d, e = .returned (.agg #[.bool b, .slice A n c, .slice B m d]) ∧ Rt w' b A n c B m d r ∧ Below w.heap.size w w'
def GotRp (w : World) (r : Rat) (k : Int) (e : Ending) (w' : World) : Prop := ∃ b A n c B m d, e = .returned (.tuple #[.agg #[.bool b, .slice A n c, .slice B m d], .int .i64 k]) ∧ Rt w' b A n c B m d r ∧ Below w.heap.size w w'

/-- A struct of three cells in memory. -/
def BoxR (W : World) (g : Nat) (b : Bool) (A : Option Addr) (n k : Nat) (B : Option Addr) (m d : Nat) : Prop := W.cell? ⟨g, 0, none⟩ = some (.bool b) ∧ W.cell? ⟨g, 1, none⟩ = some (.slice A n k) ∧ W.cell? ⟨g, 2, none⟩ = some (.slice B m d)
/-- What is written into it. -/
@[reducible] def putR (W : World) (g : Nat) (u v x : Value) : World := ((W.setCell ⟨g, 0, none⟩ u).setCell ⟨g, 1, none⟩ v).setCell ⟨g, 2, none⟩ x
theorem addr_ne {g i j : Nat} (h : i ≠ j) : (⟨g, i, none⟩ : Addr) ≠ ⟨g, j, none⟩ := fun e => by injection e with _ e2; omega
theorem addr_ne' {g g' i j : Nat} (h : g ≠ g') : (⟨g, i, none⟩ : Addr) ≠ ⟨g', j, none⟩ := fun e => by injection e with e1; omega
theorem cell_putR {w : World} {s b o : Nat} {u v x : Value} (h : b ≠ s) : (putR w s u v x).cell? ⟨b, o, none⟩ = w.cell? ⟨b, o, none⟩ := by
  unfold putR
  rw [World.cell?_setCell_other (h := addr_ne' (Ne.symm h)), World.cell?_setCell_other (h := addr_ne' (Ne.symm h)), World.cell?_setCell_other (h := addr_ne' (Ne.symm h))]
section
variable {W : World} {g g' : Nat} {b b0 : Bool} {A A0 B B0 : Option Addr} {n k m d n0 k0 m0 d0 : Nat}
theorem BoxR.new (W : World) (b : Bool) (A : Option Addr) (n k : Nat) (B : Option Addr) (m d : Nat) (T : TypeId) : BoxR (W.alloc (.cells #[.bool b, .slice A n k, .slice B m d] T)) W.heap.size b A n k B m d := ⟨by simp [go_sem], by simp [go_sem], by simp [go_sem]⟩
theorem BoxR.alloc (h : BoxR W g b A n k B m d) (o : Obj) : BoxR (W.alloc o) g b A n k B m d := ⟨keep_alloc h.1, keep_alloc h.2.1, keep_alloc h.2.2⟩
theorem BoxR.otherZ {u v : Value} (h : BoxR W g b A n k B m d) (hne : g ≠ g') : BoxR ((W.setCell ⟨g', 0, none⟩ u).setCell ⟨g', 1, none⟩ v) g b A n k B m d := ⟨(cell_store hne).trans h.1, (cell_store hne).trans h.2.1, (cell_store hne).trans h.2.2⟩
theorem BoxR.other {u v x : Value} (h : BoxR W g b A n k B m d) (hne : g ≠ g') : BoxR (putR W g' u v x) g b A n k B m d := ⟨(cell_putR hne).trans h.1, (cell_putR hne).trans h.2.1, (cell_putR hne).trans h.2.2⟩
theorem Box.otherR {u v x : Value} (h : Box W g b A n k) (hne : g ≠ g') : Box (putR W g' u v x) g b A n k := ⟨(cell_putR hne).trans h.1, (cell_putR hne).trans h.2⟩
theorem BoxR.put (h : BoxR W g b0 A0 n0 k0 B0 m0 d0) (b : Bool) (A : Option Addr) (n k : Nat) (B : Option Addr) (m d : Nat) : BoxR (putR W g (.bool b) (.slice A n k) (.slice B m d)) g b A n k B m d := by
  have e1 : (W.setCell ⟨g, 0, none⟩ (.bool b)).cell? ⟨g, 1, none⟩ = some (.slice A0 n0 k0) := (World.cell?_setCell_other W _ _ _ (addr_ne (by omega))).trans h.2.1
  have e2 : ((W.setCell ⟨g, 0, none⟩ (.bool b)).setCell ⟨g, 1, none⟩ (.slice A n k)).cell? ⟨g, 2, none⟩ = some (.slice B0 m0 d0) := (World.cell?_setCell_other _ _ _ _ (addr_ne (by omega))).trans ((World.cell?_setCell_other W _ _ _ (addr_ne (by omega))).trans h.2.2)
  unfold putR
  refine ⟨?_, ?_, ?_⟩
  · rw [World.cell?_setCell_other (h := addr_ne (by omega)), World.cell?_setCell_other (h := addr_ne (by omega))]
    exact World.cell?_setCell_same _ _ _ h.1
  · rw [World.cell?_setCell_other (h := addr_ne (by omega))]
    exact World.cell?_setCell_same _ _ _ e1
  · exact World.cell?_setCell_same _ _ _ e2
theorem Num.putR {A : Option Addr} {n c x : Nat} (h : Num W A n c x) (hb : BoxR W g b0 A0 n0 k0 B0 m0 d0) (u v y : Value) : Num (putR W g u v y) A n c x := by
  have e1 : (W.setCell ⟨g, 0, none⟩ u).cell? ⟨g, 1, none⟩ = some (.slice A0 n0 k0) := (World.cell?_setCell_other W _ _ _ (addr_ne (by omega))).trans hb.2.1
  have e2 : ((W.setCell ⟨g, 0, none⟩ u).setCell ⟨g, 1, none⟩ v).cell? ⟨g, 2, none⟩ = some (.slice B0 m0 d0) := (World.cell?_setCell_other _ _ _ _ (addr_ne (by omega))).trans ((World.cell?_setCell_other W _ _ _ (addr_ne (by omega))).trans hb.2.2)
  exact ((h.set_other hb.1 (fun _ _ e => by cases e)).set_other e1 (fun _ _ e => by cases e)).set_other e2 (fun _ _ e => by cases e)
theorem Zn.putR {z : Int} {c : Nat} (h : Zn W b A n c z) (hb : BoxR W g b0 A0 n0 k0 B0 m0 d0) (u v y : Value) : Zn (putR W g u v y) b A n c z := ⟨h.1.putR hb u v y, h.2⟩
theorem Rw.putR {p : Int} {q : Nat} (h : Rw W b A n k B m d p q) (hb : BoxR W g b0 A0 n0 k0 B0 m0 d0) (u v y : Value) : Rw (putR W g u v y) b A n k B m d p q := ⟨h.1.putR hb u v y, h.2.putR hb u v y⟩
theorem Rt.putR {r : Rat} (h : Rt W b A n k B m d r) (hb : BoxR W g b0 A0 n0 k0 B0 m0 d0) (u v y : Value) : Rt (putR W g u v y) b A n k B m d r := Rw.putR h hb u v y
theorem Rt.alloc {r : Rat} (h : Rt W b A n k B m d r) (o : Obj) : Rt (W.alloc o) b A n k B m d r := h.on (below_one _ _)
theorem below_putR {C g : Nat} {V W : World} (h : Below C V W) (hg : C ≤ g) (u v y : Value) : Below C V (putR W g u v y) := ((h.setCell (p := ⟨g, 0, none⟩) hg u).setCell (p := ⟨g, 1, none⟩) hg v).setCell (p := ⟨g, 2, none⟩) hg y
end

/-- Behind 'x, e := f(..)': a box, and what it holds. -/
def Lone (V U : World) (g : Nat) (b : Bool) (A : Option Addr) (n k : Nat) (B : Option Addr) (m d : Nat) (r : Rat) : Prop := BoxR U g b A n k B m d ∧ Rt U b A n k B m d r ∧ Below V.heap.size V U
section
variable {V wz : World} {g : Nat} {b : Bool} {A B : Option Addr} {n k m d : Nat} {r : Rat}
theorem loneA (h : Rt wz b A n k B m d r) (qq : Below V.heap.size V wz) (T : TypeId) : Lone V (wz.alloc (.cells #[.bool b, .slice A n k, .slice B m d] T)) wz.heap.size b A n k B m d r := ⟨BoxR.new wz b A n k B m d T, h.alloc _, qq.alloc qq.size _⟩
theorem loneB (o0 : wz.cell? ⟨g, 0, none⟩ = some (.bool false)) (o1 : wz.cell? ⟨g, 1, none⟩ = some (.slice none 0 0)) (o2 : wz.cell? ⟨g, 2, none⟩ = some (.slice none 0 0)) (h : Rt wz b A n k B m d r) (qq : Below V.heap.size V wz) (l : V.heap.size ≤ g) : Lone V (putR wz g (.bool b) (.slice A n k) (.slice B m d)) g b A n k B m d r := have o : BoxR wz g false none 0 0 none 0 0 := ⟨o0, o1, o2⟩; ⟨o.put b A n k B m d, h.putR o _ _ _, below_putR qq l _ _ _⟩
end

theorem gcd_len {p q k : Nat} (hq : q ≠ 0) (h : (limbs q).length ≤ k) : (limbs (Nat.gcd p q)).length ≤ k := Nat.le_trans (limbs_length_mono (Nat.le_of_dvd (by omega) (Nat.gcd_dvd_right p q))) h

set_option maxRecDepth 100000 in
set_option maxHeartbeats 2000000 in
theorem rtmake_N {w : World} {b : Bool} {A B : Option Addr} {n c m d q : Nat} {p : Int} (ha : Zn w b A n c p) (hb : Num w B m d q) (hq : q ≠ 0) (hx : (limbs p.natAbs).length ≤ 100) (hy : (limbs q).length ≤ 100) :
    Calls Try.prog 39 #[.agg #[.bool b, .slice A n c], .slice B m d] w (GotRp w (mkRat p q) 0) := by
  have hm := hb.some_len hq
  have hm0 : ((m : Int) == 0) = false := beq_eq_false_iff_ne.2 (by omega)
  have hg := Nat.gcd_pos_of_pos_right p.natAbs (show 0 < q by omega)
  have HQ := Lib.hid hg
  have HN : Hid ((mkRat p q).num.natAbs = p.natAbs / Nat.gcd p.natAbs q) := Lib.hid (mkRat_abs p q hq)
  have HD : Hid ((mkRat p q).den = q / Nat.gcd p.natAbs q) := Lib.hid (mkRat_den p q hq)
  have HS : Hid (decide ((mkRat p q).num < 0) = decide (p < 0)) := Lib.hid (mkRat_neg p q hq)
  have hgl := gcd_len (p := p.natAbs) hq hy
  obtain ⟨W, hW⟩ : ∃ W, (w.alloc (.cells #[.bool b, .slice A n c] 33)).alloc (.cells #[.bool false, .slice none 0 0, .slice none 0 0] 35) = W := ⟨_, rfl⟩
  have hB : Below w.heap.size w W := by rw [← hW]; exact below_two w _ _
  have hsz : W.heap.size = w.heap.size + 2 := by rw [← hW]; simp
  have c1 : W.cell? ⟨w.heap.size, 0, none⟩ = some (.bool b) := by rw [← hW]; simp [go_sem]
  have c2 : W.cell? ⟨w.heap.size, 1, none⟩ = some (.slice A n c) := by rw [← hW]; simp [go_sem]
  have d1 : W.cell? ⟨w.heap.size + 1, 0, none⟩ = some (.bool false) := by rw [← hW]; simp [go_sem]
  have d2 : W.cell? ⟨w.heap.size + 1, 1, none⟩ = some (.slice none 0 0) := by rw [← hW]; simp [go_sem]
  have d3 : W.cell? ⟨w.heap.size + 1, 2, none⟩ = some (.slice none 0 0) := by rw [← hW]; simp [go_sem]
  have f1 : W.frozen? ⟨w.heap.size + 1, 0, none⟩ = false := by rw [← hW]; simp [go_sem]
  have f2 : W.frozen? ⟨w.heap.size + 1, 1, none⟩ = false := by rw [← hW]; simp [go_sem]
  have f3 : W.frozen? ⟨w.heap.size + 1, 2, none⟩ = false := by rw [← hW]; simp [go_sem]
  have ha' := ha.1.on hB
  have hb' := hb.on hB
  have HSZ := Lib.hid hsz
  clear hsz hg
  go_enter Try.func39, Try.ntmps39
  go_wp2_with fail
  clear hW
  refine (rgcd_N ha' hb' (by omega) (by omega)).mono ?_
  rintro e w1 ⟨A1, n1, k1, rfl, hm1, b1⟩
  have hsz := HSZ.out
  have c1' := (b1.cell (p := ⟨w.heap.size, 0, none⟩) (by simp; omega)).trans c1
  have c2' := (b1.cell (p := ⟨w.heap.size, 1, none⟩) (by simp; omega)).trans c2
  clear hsz
  go_wp2_with fail
  refine (rdiv_N (ha'.on b1) hm1 (by omega) (by omega) (by have := HQ.out; omega)).mono ?_
  rintro e w2 ⟨A2, n2, k2, A3, n3, k3, rfl, hm2, hm3, b2⟩
  have b12 := b1.trans (b2.mono b1.size)
  go_wp2_with fail
  refine (rdiv_N (hb'.on b12) (hm1.on b2) (by omega) (by omega) (by have := HQ.out; omega)).mono ?_
  rintro e w3 ⟨A4, n4, k4, A5, n5, k5, rfl, hm4, hm5, b3⟩
  have b13 := b12.trans (b3.mono b12.size)
  have hsz := HSZ.out
  have g1 := (b13.cell (p := ⟨w.heap.size, 0, none⟩) (by simp; omega)).trans c1
  have e1 := (b13.cell (p := ⟨w.heap.size + 1, 0, none⟩) (by simp; omega)).trans d1
  have e2 := (b13.cell (p := ⟨w.heap.size + 1, 1, none⟩) (by simp; omega)).trans d2
  have e3 := (b13.cell (p := ⟨w.heap.size + 1, 2, none⟩) (by simp; omega)).trans d3
  have e4 := (b13.frozen (p := ⟨w.heap.size + 1, 0, none⟩) (by simp; omega)).trans f1
  have e5 := (b13.frozen (p := ⟨w.heap.size + 1, 1, none⟩) (by simp; omega)).trans f2
  have e6 := (b13.frozen (p := ⟨w.heap.size + 1, 2, none⟩) (by simp; omega)).trans f3
  have HB := hB.trans (b13.mono hB.size)
  have hz : Rt w3 b A2 n2 k2 A4 n4 k4 (mkRat p q) := by
    refine ⟨⟨?_, ?_⟩, ?_⟩
    · rw [HN.out]; exact hm2.on b3
    · rw [HS.out]; exact ha.2
    · rw [HD.out]; exact hm4
  have HZ := Lib.hid hz
  clear hsz hz
  go_wp2_with fail
  have eb : BoxR w3 (w.heap.size + 1) false none 0 0 none 0 0 := ⟨e1, e2, e3⟩
  refine bodyPost_ret (v := .tuple #[.agg #[.bool b, .slice A2 n2 k2, .slice A4 n4 k4], .int .i64 0]) (by simp [results, Try.results39, go_sem, e1, e2, e3]) rfl ⟨_, _, _, _, _, _, _, rfl, HZ.out.putR eb _ _ _, below_putR HB (by omega) _ _ _⟩
end Go.Proofs.Ytccigpnebejbiaa
