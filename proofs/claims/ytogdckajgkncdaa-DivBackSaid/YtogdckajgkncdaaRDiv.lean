/-
  The contract of the second reference's DivMod.
-/
import Derived.Test.YtogdckajgkncdaaMathQ
import Derived.Test.YtogdckajgkncdaaRShift
namespace Go.Proofs.Ytogdckajgkncdaa
open Go.RowKit

/-- A call has answered a quotient, what is left, and no error. -/
def GotD (w : World) (q r : Nat) (e : Ending) (w' : World) : Prop := ∃ A n c B m d, e = .returned (.tuple #[.slice A n c, .slice B m d, .int .i64 0]) ∧ Num w' A n c q ∧ Num w' B m d r ∧ Below w.heap.size w w'

theorem ownsRow_below {w w' : World} {base : Nat} {e : TypeId} {size : Nat} {v : Value} {n : Nat} {xs : List Value} (h : w.ownsRow base e size v n xs) (hb : Below w.heap.size w w') : w'.ownsRow base e size v n xs := by
  refine h.kept (row := none) ⟨hb.os, hb.tape, hb.output, hb.size, fun k hk _ => hb.block k hk⟩ ?_
  rcases h.2 with ⟨rfl, _⟩ | ⟨g, cap, cur, rfl, _⟩
  · exact .inl rfl
  · exact .inr (by simp [Value.ownBlock])

/-- A number that lies elsewhere is kept where a cell of a block is written. -/
theorem Num.far {w : World} {A : Option Addr} {n c x s o : Nat} {v : Value} (h : Num w A n c x) (hf : Fresh (s + 1) A n) : Num (w.setCell ⟨s, o, none⟩ v) A n c x := by
  refine ⟨h.1, h.2.1, h.2.2.1, fun h0 => ?_⟩
  obtain ⟨b, off, e, hb, hc⟩ := h.2.2.2 h0
  obtain ⟨b', off', e', hb'⟩ := hf h0
  rw [e] at e'
  injection e' with e'
  injection e' with e1 e2
  refine ⟨b, off, e, by rw [World.size_setCell]; exact hb, fun j hj => ?_⟩
  exact (World.cell?_of_block (a := ⟨b, off + j, none⟩) (Below.heap_setCell w ⟨s, o, none⟩ v b (by simp; omega))).trans (hc j hj)

theorem rbits_eq {w : World} {A : Option Addr} {n c x p : Nat} (ha : Num w A n c x) (hx : (limbs x).length ≤ 2147483648) (hp : blen x = p) : Calls Try.prog 28 #[.slice A n c] w (GotV w (.int .i64 (p : Int))) := by
  have := rbits_N ha hx
  rwa [hp] at this
theorem rshr_Fv {w : World} {A : Option Addr} {m c x n : Nat} {v : Int} (hv : v = (n : Int)) (ha : Num w A m c x) (hx : (limbs x).length ≤ 1000) (hn : n ≤ 20000) : Calls Try.prog 15 #[.slice A m c, .int .i64 v] w (GotPF w (x / 2 ^ n) 0) := by
  subst hv
  exact rshr_F ha hx hn
/-- Twice what a digit holds. -/
def tq (F i : Nat) : Nat := 2 * qd F (i + 1) (i / 64)
theorem wrap_two (F i : Nat) : IntKind.u64.wrap ((qd F (i + 1) (i / 64) : Int) * 2) = (tq F i : Int) := by
  have := qd_room F i
  unfold tq
  rw [IntKind.wrap_u64]
  unfold B64 at this
  omega
theorem wrap_tq (F i : Nat) : IntKind.u64.wrap ((tq F i : Int) + 1) = ((tq F i + 1 : Nat) : Int) := by
  have := qd_room F i
  unfold tq
  rw [IntKind.wrap_u64]
  unfold B64 at this
  omega

set_option maxHeartbeats 1000000 in
theorem rdiv_zero (w : World) (A B : Option Addr) (n c d : Nat) : Calls Try.prog 18 #[.slice A n c, .slice B 0 d] w (GotV w (.tuple #[.slice none 0 0, .slice none 0 0, .int .i64 4])) := by
  go_enter Try.func18, Try.ntmps18
  go_wp2
  go_ret3
  exact ⟨rfl, Below.refl _ _⟩

theorem div_start {x y f : Nat} (hy : y ≠ 0) (h : blen x = f + blen y) : x / y < 2 ^ (f + 1) ∧ x / 2 ^ (f + 1) < y := by
  have h1 := lt_blen x
  have h2 := blen_ge hy
  have h3 := blen_pos hy
  have e : 2 ^ blen x = 2 ^ (f + 1) * 2 ^ (blen y - 1) := by rw [← Nat.pow_add, h]; congr 1; omega
  have h4 : 2 ^ (f + 1) * 2 ^ (blen y - 1) ≤ 2 ^ (f + 1) * y := Nat.mul_le_mul_left _ h2
  constructor
  · rw [Nat.div_lt_iff_lt_mul (by omega)]; omega
  · rw [Nat.div_lt_iff_lt_mul (Nat.pow_pos (by omega)), Nat.mul_comm]; omega

theorem len_bits {x k : Nat} (h : (limbs x).length ≤ k) : blen x ≤ 64 * k := by
  refine blen_le ?_
  have h1 := lt_of_limbs_length h
  rw [B64_pow2] at h1
  exact h1
theorem r_len {x y k : Nat} (hy : 0 < y) (h : (limbs y).length ≤ k) : (limbs (x % y)).length ≤ k := Nat.le_trans (limbs_length_mono (Nat.le_of_lt (Nat.mod_lt _ hy))) h

set_option maxRecDepth 100000 in
set_option maxHeartbeats 8000000 in
theorem rdiv_main {w : World} {A B : Option Addr} {n c m d x y f : Nat} (ha : Num w A n c x) (hb : Num w B m d y) (hx : (limbs x).length ≤ 300) (hy : (limbs y).length ≤ 300) (hy0 : y ≠ 0) (hf : blen x = f + blen y) : Calls Try.prog 18 #[.slice A n c, .slice B m d] w (GotD w (x / y) (x % y)) := by
  obtain ⟨i0, hi, hz0, hz1, hz2⟩ := info_parts info24
  obtain ⟨hF, hR⟩ := div_start hy0 hf
  have hbx := len_bits hx
  have hn : n ≤ 300 := by rw [ha.len]; exact hx
  have hxn : blen x ≤ 64 * n := by rw [ha.len]; exact blen_le (by rw [← B64_pow2]; exact lt_of_limbs_length (Nat.le_refl _))
  have hm0 : ((m : Int) == 0) = false := by have := hb.len; have := limbs_ne_nil hy0; simp; omega
  obtain ⟨q, hq⟩ : ∃ q, blen y = q := ⟨_, rfl⟩
  have hq1 : 1 ≤ q := by have := blen_pos hy0; omega
  rw [hq] at hf
  rw [hf] at hbx hxn
  have HQ := Lib.hid hq
  have HP := Lib.hid hf
  clear hq hf
  go_enter Try.func18, Try.ntmps18
  go_wp2_with fail
  refine (rbits_eq ha (by omega) HP.out).mono ?_
  rintro e w1 ⟨rfl, b1⟩
  replace ha := ha.on b1
  replace hb := hb.on b1
  go_wp2_with fail
  refine (rbits_eq hb (by omega) HQ.out).mono ?_
  rintro e w2 ⟨rfl, b2⟩
  replace ha := ha.on b2
  replace hb := hb.on b2
  have cc := b1.trans (b2.mono b1.size)
  clear b1 b2
  obtain ⟨s, hs⟩ : ∃ s, w2.heap.size = s := ⟨_, rfl⟩
  unfold Num at ha hb
  rw [hs] at ha hb
  have HS := Lib.hid hs
  clear hs
  go_wp2_with (at_make; refine wpList_make_full _ rfl _ _ 23 rfl s 38 i0 (.int .u64 0) 1 Try.underlying23 hi hz0 hz1 .i64 .i64 _ _ n rfl rfl (by omega) (by omega) (by rw [hz2]; omega) (by unfold maxLen; omega) (by rw [HS.out]; omega) ?_; intro w3 hown3 hgrow3; rw [made_zeros] at hown3)
  rw [HS.out] at hown3 ⊢
  have hb3 : Below s w2 w3 := (Below.refl s w2).grown hgrow3 (by have := HS.out; omega) (fun k h => by cases h)
  have hs3 := (hown3.lt s rfl).2
  clear hgrow3
  have ha3 : Num w3 A n c x := (ha.below hb3).more (by omega)
  refine (rshr_Fv (n := f + 1) (by omega) ha3 (by omega) (by omega)).mono ?_
  rintro e w4 ⟨A4, n4, c4, rfl, h4, b4, f4⟩
  have hb4 : Below s w2 w4 := hb3.trans (b4.mono (by omega))
  have hown4 := ownsRow_below hown3 b4
  have hfr : Fresh (s + 1) A4 n4 := f4.mono (by omega)
  have hR4 : x / 2 ^ (f + 1) = x / 2 ^ (f + 1) % y := (Nat.mod_eq_of_lt hR).symm
  rw [hR4] at h4
  rw [← qlist_none hF] at hown4
  have hy1 : 0 < y := by omega
  clear b4 f4 ha3 hown3 hb3 hs3 hR4 hF hR
  go_wp2_with fail
  go_loopw [9, 11] (fun rv iv wr => ∃ (k : Nat) (A' : Option Addr) (n' c' : Nat), iv = .int .i64 ((k : Int) - 1) ∧ k ≤ f + 1 ∧ rv = .slice A' n' c' ∧ Num wr A' n' c' (x / 2 ^ k % y) ∧ Fresh (s + 1) A' n' ∧ wr.ownsRow s 38 1 (.slice (some ⟨s, 0, none⟩) n n) n ((qlist (x / y) k n).map encD) ∧ Below s w2 wr) (fun _ iv _ => (intOf iv + 1).toNat)
  case atStart => exact ⟨f + 1, A4, n4, c4, congrArg (Value.int .i64) (by omega), Nat.le_refl _, rfl, h4, hfr, hown4, hb4⟩
  case round =>
    obtain ⟨k, A', n', c', rfl, hk, rfl, hr, hfr', hown, hbl⟩ := hrel
    by_cases h0 : k = 0
    · subst h0
      have hlim := Lim.of_own hown (qlist_dig _ _ _)
      have hv : val (qlist (x / y) 0 n) = x / y := by
        rw [qlist_done]
        refine digs_all (Nat.lt_of_le_of_lt (Nat.div_le_self _ _) ?_)
        rw [ha.1]
        exact lt_of_limbs_length (Nat.le_refl _)
      have HV := Lib.hid hv
      have hr0 : x / 2 ^ 0 % y = x % y := by rw [Nat.pow_zero, Nat.div_one]
      rw [hr0] at hr
      clear hv hown hr0
      go_wp2_with fail
      refine (bare_lim hlim (by omega)).mono ?_
      rintro e w5 ⟨A5, n5, c5, rfl, h5, b5⟩
      rw [HV.out] at h5
      go_wp2_with fail
      go_ret3
      exact ⟨A5, n5, c5, A', n', c', rfl, h5, hr.on b5, cc.trans (Below.mono (B := s) (hbl.trans (b5.mono (by have := hbl.size; have := HS.out; omega))) (by have := cc.size; have := HS.out; omega))⟩
    · obtain ⟨i, hi'⟩ : ∃ i, k = i + 1 := ⟨k - 1, by omega⟩
      subst hi'
      have e1 : ((i + 1 : Nat) : Int) - 1 = (i : Int) := by omega
      rw [e1]
      clear e1
      obtain ⟨hstep, hbit⟩ := div_step (x := x) hy1 i
      have HST := Lib.hid hstep
      have HBT := Lib.hid hbit
      clear hstep hbit
      have hsz := (hown.lt s rfl).2
      have l1 := r_len (x := x / 2 ^ (i + 1)) hy1 hy
      obtain ⟨r, hre⟩ : ∃ r, x / 2 ^ (i + 1) % y = r := ⟨_, rfl⟩
      rw [hre] at hr l1
      have HRE := Lib.hid hre
      clear hre
      have l2 : (limbs (r + r)).length ≤ 301 := limbs_length_add l1 l1
      have hbl0 : bitN x i < B64 := Nat.lt_trans (bitN_lt x i) (by unfold B64; omega)
      have l3 : (limbs (bitN x i)).length ≤ 301 := Nat.le_trans (limbs_length_le (k := 1) (by rw [Nat.pow_one]; exact hbl0)) (by omega)
      have l4 : (limbs (r + r + bitN x i)).length ≤ 302 := limbs_length_add l2 l3
      have HO := Lib.hid hown
      clear hown
      go_wp2_with fail
      refine (radd_F hr hr (by omega) (by omega)).mono ?_
      rintro e w5 ⟨A5, n5, c5, rfl, h5, b5, f5⟩
      replace HO := Lib.hid (ownsRow_below HO.out b5)
      have hb5 : Below s w2 w5 := hbl.trans (b5.mono (by omega))
      have hs5 : s < w5.heap.size := Nat.lt_of_lt_of_le hsz b5.size
      clear b5 f5 hr hfr' hbl hsz
      go_wp2_with fail
      refine (bit_N (x := x) ((ha.below hb5).more (by omega)) (by omega) (by omega)).mono ?_
      rintro e w6 ⟨rfl, rfl⟩
      go_wp2_with fail
      refine (rof_N _ _ hbl0).mono ?_
      rintro e w6 ⟨A6, n6, c6, rfl, h6, b6⟩
      replace HO := Lib.hid (ownsRow_below HO.out b6)
      replace h5 := h5.on b6
      have hb6 : Below s w2 w6 := hb5.trans (b6.mono (by omega))
      have hs6 : s < w6.heap.size := Nat.lt_of_lt_of_le hs5 b6.size
      clear b6 hb5 hs5
      go_wp2_with fail
      refine (radd_F h5 h6 (by omega) (by omega)).mono ?_
      rintro e w7 ⟨A7, n7, c7, rfl, h7, b7, f7⟩
      replace HO := Lib.hid (ownsRow_below HO.out b7)
      have hb7 : Below s w2 w7 := hb6.trans (b7.mono (by omega))
      have hs7 : s < w7.heap.size := Nat.lt_of_lt_of_le hs6 b7.size
      have hf7 : Fresh (s + 1) A7 n7 := f7.mono (by omega)
      clear b7 f7 h5 h6 hb6 hs6
      have hit : i / 64 < n := by omega
      have hc1 : w7.cell? ⟨s, i / 64, none⟩ = some (.int .u64 (qd (x / y) (i + 1) (i / 64) : Int)) := by
        rw [HO.out.cellAt (i / 64) (by omega), List.getElem?_map, List.getElem?_eq_getElem (by rw [qlist_length]; exact hit)]
        simp [encD, qlist]
      have hf1 := HO.out.frozenAt (i / 64)
      have hst1 := HO.out.stored (i / 64) (.int .u64 (tq (x / y) i : Int))
      have HS1 := Lib.hid hst1
      clear hst1 HO
      have hw2 := wrap_two (x / y) i
      go_wp2_with fail
      clear hw2 hc1 hf1
      have h8 := h7.far (o := i / 64) (v := .int .u64 (tq (x / y) i : Int)) hf7
      have hb8 : Below s w2 (w7.setCell ⟨s, i / 64, none⟩ (.int .u64 (tq (x / y) i : Int))) := hb7.setCell (p := ⟨s, i / 64, none⟩) (Nat.le_refl _) _
      have hs8 : s < (w7.setCell ⟨s, i / 64, none⟩ (.int .u64 (tq (x / y) i : Int))).heap.size := by rw [World.size_setCell]; exact hs7
      have hn8 : Num (w7.setCell ⟨s, i / 64, none⟩ (.int .u64 (tq (x / y) i : Int))) B m d y := (hb.below hb8).more (by omega)
      have ho8 := HS1.out.1
      clear HS1 h7 hb7 hs7
      generalize w7.setCell ⟨s, i / 64, none⟩ (.int .u64 (tq (x / y) i : Int)) = w8 at *
      have HO8 := Lib.hid ho8
      clear ho8
      by_cases hge : y ≤ r + r + bitN x i
      · have hcm : 0 ≤ cmpN (r + r + bitN x i) y := by
          rcases Nat.lt_or_ge y (r + r + bitN x i) with h | h
          · rw [cmpN_gt h]; omega
          · rw [cmpN_zero.2 (by omega)]; omega
        have hst := HST.out
        have hbt := HBT.out
        rw [HRE.out, show 2 * r = r + r by omega, if_pos hge] at hst hbt
        have HRN := Lib.hid hst
        have HBN := Lib.hid hbt
        clear hst hbt HST HBT HRE
        refine (rcmp_N h8 hn8 (by omega) (by omega)).mono ?_
        rintro e w9 ⟨rfl, b9⟩
        replace h8 := h8.on b9
        replace hn8 := hn8.on b9
        have hb9 : Below s w2 w9 := hb8.trans (b9.mono (by omega))
        have hs9 : s < w9.heap.size := Nat.lt_of_lt_of_le hs8 b9.size
        replace HO8 := Lib.hid (ownsRow_below HO8.out b9)
        clear b9 hb8 hs8
        go_wp2_with fail
        refine (rsub_F h8 hn8 (by omega) (by omega) hge).mono ?_
        rintro e w10 ⟨A10, n10, c10, rfl, h10, b10, f10⟩
        have hb10 : Below s w2 w10 := hb9.trans (b10.mono (by omega))
        have hs10 : s < w10.heap.size := Nat.lt_of_lt_of_le hs9 b10.size
        have hf10 : Fresh (s + 1) A10 n10 := f10.mono (by omega)
        replace HO8 := Lib.hid (ownsRow_below HO8.out b10)
        clear b10 f10 hb9 h8 hn8 hs9
        have hc2 : w10.cell? ⟨s, i / 64, none⟩ = some (.int .u64 (tq (x / y) i : Int)) := by
          rw [HO8.out.cellAt (i / 64) (by omega), List.getElem?_set_self (by rw [List.length_map, qlist_length]; exact hit)]
        have hf2 := HO8.out.frozenAt (i / 64)
        have hst2 := HO8.out.stored (i / 64) (.int .u64 ((tq (x / y) i + 1 : Nat) : Int))
        have HS2 := Lib.hid hst2
        clear hst2 HO8
        have hw3 := wrap_tq (x / y) i
        go_wp2_with fail
        go_roundw
        case rel =>
          refine ⟨i, A10, n10, c10, by go_num, by omega, rfl, ?_, hf10, ?_, ?_⟩
          · rw [HRN.out]; exact h10.far hf10
          · have hrow := HS2.out.1
            rw [List.set_set] at hrow
            have e2 : tq (x / y) i + 1 = qd (x / y) i (i / 64) := by rw [qd_same, HBN.out]; rfl
            rw [← qlist_set (x / y) i n, List.map_set, ← e2]
            exact hrow
          · exact hb10.setCell (p := ⟨s, i / 64, none⟩) (Nat.le_refl _) _
        case measure => simp [intOf]
      · have hcm : ¬ 0 ≤ cmpN (r + r + bitN x i) y := by rw [cmpN_lt (by omega)]; omega
        have hst := HST.out
        have hbt := HBT.out
        rw [HRE.out, show 2 * r = r + r by omega, if_neg hge] at hst hbt
        have HRN := Lib.hid hst
        have HBN := Lib.hid hbt
        clear hst hbt HST HBT HRE
        refine (rcmp_N h8 hn8 (by omega) (by omega)).mono ?_
        rintro e w9 ⟨rfl, b9⟩
        replace h8 := h8.on b9
        have hb9 : Below s w2 w9 := hb8.trans (b9.mono (by omega))
        replace HO8 := Lib.hid (ownsRow_below HO8.out b9)
        clear b9 hb8 hs8 hn8
        go_wp2_with fail
        go_roundw
        case rel =>
          refine ⟨i, A7, n7, c7, by go_num, by omega, rfl, ?_, hf7, ?_, hb9⟩
          · rw [HRN.out]; exact h8
          · have hrow := HO8.out
            have e2 : tq (x / y) i = qd (x / y) i (i / 64) := by rw [qd_same, HBN.out]; rfl
            rw [← qlist_set (x / y) i n, List.map_set, ← e2]
            exact hrow
        case measure => simp [intOf]

theorem own_two (w : World) (o : Obj) (base : Nat) (h : base ≤ w.heap.size) : ((w.alloc o).alloc (.cells #[] 38)).ownsRow base 38 1 (.slice (some ⟨w.heap.size + 1, 0, none⟩) 0 0) 0 [] := by
  have := own_empty (w.alloc o) base (by rw [World.size_alloc]; omega)
  rw [World.size_alloc] at this
  exact this

theorem num_empty (w : World) (A : Option Addr) (c : Nat) : Num w A 0 c 0 := by
  unfold Num
  rw [limbs_zero]
  exact Lim.nil _ _ _ _

set_option maxRecDepth 100000 in
set_option maxHeartbeats 4000000 in
theorem rdiv_small {w : World} {A B : Option Addr} {n c m d x y : Nat} (ha : Num w A n c x) (hb : Num w B m d y) (hx : (limbs x).length ≤ 300) (hy : (limbs y).length ≤ 300) (hf : blen x < blen y) : Calls Try.prog 18 #[.slice A n c, .slice B m d] w (GotD w 0 x) := by
  obtain ⟨i0, hi, hz0, hz1, hz2⟩ := info_parts info24
  have hbx := len_bits hx
  have hby := len_bits hy
  have hy0 : y ≠ 0 := fun e => by subst e; rw [blen_zero] at hf; omega
  have hn : n ≤ 300 := by rw [ha.len]; exact hx
  have hm0 : ((m : Int) == 0) = false := by have := hb.len; have := limbs_ne_nil hy0; simp; omega
  obtain ⟨p, hp⟩ : ∃ p, blen x = p := ⟨_, rfl⟩
  obtain ⟨q, hq⟩ : ∃ q, blen y = q := ⟨_, rfl⟩
  rw [hp] at hf hbx
  rw [hq] at hf hby
  have HQ := Lib.hid hq
  have HP := Lib.hid hp
  clear hq hp hy0
  have hxn := Lib.hid ha.len
  go_enter Try.func18, Try.ntmps18
  go_wp2_with fail
  refine (rbits_eq ha (by omega) HP.out).mono ?_
  rintro e w1 ⟨rfl, b1⟩
  replace ha := ha.on b1
  replace hb := hb.on b1
  go_wp2_with fail
  refine (rbits_eq hb (by omega) HQ.out).mono ?_
  rintro e w2 ⟨rfl, b2⟩
  replace ha := ha.on b2
  have cc := b1.trans (b2.mono b1.size)
  clear b1 b2 hb
  by_cases h0 : n = 0
  · subst h0
    have hx0 : x = 0 := by
      have h2 := val_limbs x
      rw [List.eq_nil_of_length_eq_zero hxn.out.symm] at h2
      exact h2.symm
    subst hx0
    have hfin : ∀ (W : World) (e : Ending), Below w2.heap.size w2 W → e = .returned (.tuple #[.slice (some ⟨w2.heap.size, 0, none⟩) 0 0, .slice (some ⟨w2.heap.size + 1, 0, none⟩) 0 0, .int .i64 0]) → GotD w 0 0 e W := fun W e hW he =>
      ⟨_, _, _, _, _, _, he, num_empty _ _ _, num_empty _ _ _, cc.trans (hW.mono cc.size)⟩
    have HF := Lib.hid hfin
    clear hfin
    cases A with
    | none =>
      go_wp2
      go_ret3
      exact HF.out _ _ (((Below.refl _ w2).alloc (Nat.le_refl _) _).alloc (by simp) _) rfl
    | some ad =>
      go_wp2_with (at_builtin; refine wpList_append_own _ rfl _ _ 23 rfl w2.heap.size 38 i0 (.int .u64 0) 1 8 Try.underlying23 hi hz0 hz1 hz2 rfl (by decide) _ _ _ rfl (own_two w2 _ w2.heap.size (Nat.le_refl _)) ad 0 _ [] rfl rfl (by intro j u h; simp at h) (by simp) (by unfold maxLen; omega) (by omega) (by simp; omega) ?_; intro v' w5 hown5 hgrow5 _)
      go_ret3
      obtain ⟨A5, c5, rfl, hl5⟩ := isL_of_own (l := []) hown5 Dig.nil
      have hB5 : Below w2.heap.size w2 w5 := (((Below.refl _ w2).alloc (Nat.le_refl _) _).alloc (by simp) _).grown hgrow5 (by simp; omega) (fun k e => by injection (show some (w2.heap.size + 1) = some k from e) with e1; omega)
      exact ⟨_, _, _, _, _, _, rfl, num_empty _ _ _, num_empty _ _ _, cc.trans (hB5.mono cc.size)⟩
  · obtain ⟨b, off, rfl, hbb, hcell⟩ := ha.2.2.2 (by omega)
    have hcells : ∀ (j : Nat) u, ((limbs x).map encD)[j]? = some u → ((w2.alloc (.cells #[] 38)).alloc (.cells #[] 38)).cell? ((⟨b, off, none⟩ : Addr).add j) = some u := by
      intro j u hu
      have hj : j < n := by
        have := (List.getElem?_eq_some_iff.1 hu).1
        rw [List.length_map] at this
        have := hxn.out; omega
      have e1 : ((⟨b, off, none⟩ : Addr).add j) = ⟨b, off + j, none⟩ := by unfold Addr.add; split <;> simp_all
      rw [e1, World.cell?_alloc_lt _ _ _ (by simp; omega), World.cell?_alloc_lt _ _ _ hbb, hcell j hj]
      rw [List.getElem?_map] at hu
      have hjl : j < (limbs x).length := by have := hxn.out; omega
      rw [List.getElem?_eq_getElem hjl] at hu ⊢
      exact hu
    have HC := Lib.hid hcells
    clear hcells hcell
    go_wp2_with (at_builtin; refine wpList_append_own _ rfl _ _ 23 rfl w2.heap.size 38 i0 (.int .u64 0) 1 8 Try.underlying23 hi hz0 hz1 hz2 rfl (by decide) _ _ _ rfl (own_two w2 _ w2.heap.size (Nat.le_refl _)) ⟨b, off, none⟩ n _ ((limbs x).map encD) rfl (by have := hxn.out; simp only [List.length_map]; omega) HC.out (encD_one _) (by unfold maxLen; omega) (by omega) (by simp; omega) ?_; intro v' w5 hown5 hgrow5 _)
    go_ret3
    rw [List.nil_append] at hown5
    obtain ⟨A5, c5, rfl, hl5⟩ := isL_of_own hown5 (limbs_dig x)
    have hB5 : Below w2.heap.size w2 w5 := (((Below.refl _ w2).alloc (Nat.le_refl _) _).alloc (by simp) _).grown hgrow5 (by simp; omega) (fun k e => by injection (show some (w2.heap.size + 1) = some k from e) with e1; omega)
    exact ⟨_, _, _, _, _, _, rfl, num_empty _ _ _, hl5, cc.trans (hB5.mono cc.size)⟩

theorem rdiv_N {w : World} {A B : Option Addr} {n c m d x y : Nat} (ha : Num w A n c x) (hb : Num w B m d y) (hx : (limbs x).length ≤ 300) (hy : (limbs y).length ≤ 300) (hy0 : y ≠ 0) : Calls Try.prog 18 #[.slice A n c, .slice B m d] w (GotD w (x / y) (x % y)) := by
  rcases Nat.lt_or_ge (blen x) (blen y) with h | h
  · have hlt : x < y := by
      rcases Nat.lt_or_ge x y with h1 | h1
      · exact h1
      · have := blen_le (Nat.lt_of_le_of_lt h1 (lt_blen x)); omega
    rw [Nat.div_eq_of_lt hlt, Nat.mod_eq_of_lt hlt]
    exact rdiv_small ha hb hx hy h
  · exact rdiv_main (f := blen x - blen y) ha hb hx hy hy0 (by omega)

end Go.Proofs.Ytogdckajgkncdaa
