/-
  Several texts in one: M11, C10, D10, B11, FrK, FrU, MathR, M16, R3, C16a, FrW, JKa, C16b, MathN, RT1, RT2, RT3, RT4, RT.
-/
import Derived.Test.YtpephogadljncaaA2
import Derived.Test.YtpephogadljncaaA5
import Derived.Test.YtpephogadljncaaA3
import Derived.Deep.Slices
import Derived.RangeFuncBox
import Derived.RangeFuncNested
import Derived.Deep.LoopGhost

/-
  Blocks: what is loaded of codes, how near it is, what is packed; numbers alone.
-/
namespace Go.Proofs.Ytpephogadljncaa
set_option linter.unusedVariables false
set_option linter.unusedSimpArgs false

/-- A number to the nearest is at most half a step away. -/
theorem rn_half (n : Int) {d : Nat} (hd : d ≠ 0) : 2 * (rn n d * (d : Int)) ≤ 2 * n + d ∧ 2 * n ≤ 2 * (rn n d * (d : Int)) + d := by
  have pos : ∀ u : Nat, 2 * (rn (u : Int) d * (d : Int)) ≤ 2 * (u : Int) + d ∧ 2 * (u : Int) ≤ 2 * (rn (u : Int) d * (d : Int)) + d := by
    intro u
    rw [rn_nat u d hd]
    have h1 := Nat.div_add_mod u d
    have h2 := Nat.mod_lt u (show 0 < d by omega)
    have h3 : ((u / d : Nat) : Int) * (d : Int) = ((d * (u / d) : Nat) : Int) := by rw [Nat.mul_comm, Int.natCast_mul]
    have hf : fars u d = (decide (d < u % d + u % d) || (decide (u % d + u % d = d) && decide (u / d % 2 = 1))) := rfl
    by_cases h : fars u d = true
    · rw [if_pos h, Int.natCast_add, Int.add_mul, h3]
      rw [hf, Bool.or_eq_true, Bool.and_eq_true, decide_eq_true_eq, decide_eq_true_eq] at h
      omega
    · rw [if_neg h, Nat.add_zero, h3]
      rw [hf, Bool.or_eq_true, Bool.and_eq_true, decide_eq_true_eq, decide_eq_true_eq] at h
      omega
  rcases Int.le_total 0 n with h | h
  · obtain ⟨u, rfl⟩ : ∃ u : Nat, n = (u : Int) := ⟨n.toNat, by omega⟩
    exact pos u
  · obtain ⟨u, rfl⟩ : ∃ u : Nat, n = -(u : Int) := ⟨(-n).toNat, by omega⟩
    have := pos u
    rw [rn_neg _ hd, Int.neg_mul]
    omega
theorem rn_nought {d : Nat} (hd : d ≠ 0) : rn 0 d = 0 := by have := rn_self 0 hd; rwa [Int.zero_mul] at this
/-- What a code is loaded as. -/
def ld (k s : Int) (c : Nat) : Int := rn (s * num10 k c) (den9 k).natAbs
theorem den9_nat {k : Int} (h : Kind9 k) : (((den9 k).natAbs : Nat) : Int) = den9 k ∧ (den9 k).natAbs ≠ 0 := by have := (facts10 h).2.2.2.2.2.2; omega
theorem num10_in {k : Int} (h : Kind9 k) {c : Nat} (hc : c ≤ 255) : -den9 k ≤ num10 k c ∧ num10 k c ≤ den9 k ∧ (sig9 k = false → 0 ≤ num10 k c) := by
  obtain ⟨_, h1, _, _, _, h2, h3⟩ := facts10 h
  have u : num10 k c ≤ den9 k := by
    rcases Nat.lt_or_ge c 255 with e | e
    · have := num10_up h e (Nat.le_refl _); omega
    · obtain rfl : c = 255 := by omega
      omega
  have l : num10 k 0 ≤ num10 k c := by
    rcases Nat.eq_zero_or_pos c with e | e
    · subst e; exact Int.le_refl _
    · exact Int.le_of_lt (num10_up h e hc)
  cases hs : sig9 k with
  | true => rw [hs] at h2; have := of_decide_eq_true (by simpa using h2 : decide (-den9 k ≤ num10 k 0) = true); exact ⟨by omega, u, fun h => by cases h⟩
  | false => rw [hs] at h2; have := of_decide_eq_true (by simpa using h2 : decide (num10 k 0 = 0) = true); exact ⟨by omega, u, fun _ => by omega⟩
theorem ld_in {k s : Int} (h : Kind9 k) (hs : 0 ≤ s) {c : Nat} (hc : c ≤ 255) : -s ≤ ld k s c ∧ ld k s c ≤ s ∧ (sig9 k = false → 0 ≤ ld k s c) := by
  obtain ⟨e, ne⟩ := den9_nat h
  obtain ⟨a, b, g⟩ := num10_in h hc
  unfold ld
  refine ⟨?_, ?_, fun hg => ?_⟩
  · have := rn_mono ne (n := -s * ((den9 k).natAbs : Int)) (m := s * num10 k c) (by rw [e, Int.neg_mul, ← Int.mul_neg]; exact Int.mul_le_mul_of_nonneg_left a hs)
    rwa [rn_self _ ne] at this
  · have := rn_mono ne (n := s * num10 k c) (m := s * ((den9 k).natAbs : Int)) (by rw [e]; exact Int.mul_le_mul_of_nonneg_left b hs)
    rwa [rn_self _ ne] at this
  · have := rn_mono ne (n := 0) (m := s * num10 k c) (Int.mul_nonneg hs (g hg))
    rwa [rn_nought ne] at this
theorem ld_i64 {k s : Int} (h : Kind9 k) (hs : 0 ≤ s) (hi : I64 s) {c : Nat} (hc : c ≤ 255) : I64 (ld k s c) := by have := ld_in h hs hc; unfold I64 at *; omega
theorem ld_top {k s : Int} (h : Kind9 k) : ld k s 255 = s := by
  obtain ⟨e, ne⟩ := den9_nat h
  have := rn_self s ne
  unfold ld
  rw [(facts10 h).2.1]
  rwa [e] at this
theorem ld_nought {k : Int} (h : Kind9 k) (c : Nat) : ld k 0 c = 0 := by unfold ld; rw [Int.zero_mul]; exact rn_nought (den9_nat h).2
theorem ld_mono {k s : Int} (h : Kind9 k) (hs : 0 ≤ s) {a b : Nat} (hab : a ≤ b) (hb : b ≤ 255) : ld k s a ≤ ld k s b := by
  rcases Nat.eq_or_lt_of_le hab with e | e
  · subst e; exact Int.le_refl _
  · exact rn_mono (den9_nat h).2 (Int.mul_le_mul_of_nonneg_left (Int.le_of_lt (num10_up h e hb)) hs)

/-- How a number is packed beside others the greatest of which is s. -/
def pk (k s x : Int) : Nat := near10 k x (max s 1)
theorem pk_le (k s x : Int) : pk k s x ≤ 255 := near10_le _ _ _
theorem pk_shr {k s x : Int} (h : Kind9 k) (h1 : -s ≤ x) (h2 : x ≤ s) (h3 : 0 ≤ x ∨ sig9 k = true) : Shr k x (max s 1) := ⟨h, by omega, by omega, by omega, h3⟩
theorem pk_near {k s x : Int} (h : Kind9 k) (h0 : 0 ≤ s) (h1 : -s ≤ x) (h2 : x ≤ s) (h3 : 0 ≤ x ∨ sig9 k = true) :
    2 * (x * den9 k - ld k s (pk k s x) * den9 k) ≤ gap9 k * s + den9 k ∧ 2 * (ld k s (pk k s x) * den9 k - x * den9 k) ≤ gap9 k * s + den9 k := by
  obtain ⟨e, ne⟩ := den9_nat h
  have hd := (facts10 h).2.2.2.2.2.2
  have hr := rn_half (s * num10 k (pk k s x)) ne
  rw [e] at hr
  rcases Int.lt_or_le 0 s with hp | hp
  · have hm : max s 1 = s := by omega
    have hh := near10_half (pk_shr h h1 h2 h3)
    unfold pk at hr ⊢
    unfold ld
    rw [hm] at hr hh ⊢
    unfold dst at hh
    rw [Int.mul_comm s] at hr ⊢
    generalize num10 k (near10 k x s) * s = y at *
    generalize rn y (den9 k).natAbs * den9 k = z at *
    generalize x * den9 k = q at *
    generalize gap9 k * s = g at *
    omega
  · obtain rfl : s = 0 := by omega
    obtain rfl : x = 0 := by omega
    rw [ld_nought h]
    simp
    omega
theorem pk_mono {k s x y : Int} (h : Kind9 k) (hxy : x ≤ y) : pk k s x ≤ pk k s y := near10_mono h (by omega) hxy
theorem pk_top {k s : Int} (h : Kind9 k) (h0 : 0 < s) : pk k s s = 255 := by
  have hm : max s 1 = s := by omega
  unfold pk; rw [hm]; exact near10_den h h0
theorem pk_low {k s : Int} (h0 : 0 < s) : pk k s (-s) = near10 k (-1) 1 := by
  have hm : max s 1 = s := by omega
  have := near10_scale (k := k) (num := -1) (den := 1) h0
  unfold pk; rw [hm]
  rwa [Int.one_mul, Int.neg_mul, Int.one_mul] at this
theorem near10_one {k : Int} (h : Kind9 k) : near10 k 1 1 = 255 := near10_den h (by omega)
theorem pk_nought {k : Int} : pk k 0 0 = near10 k 0 1 := rfl

/-- The greatest of numbers, whatever its side. -/
def grk (L : List Int) : Nat → Int
  | 0 => 0
  | m + 1 => max (max (grk L m) (L[m]?.getD 0)) (-(L[m]?.getD 0))
def gr (L : List Int) : Int := grk L L.length
theorem grk_pos (L : List Int) : ∀ m, 0 ≤ grk L m
  | 0 => Int.le_refl _
  | m + 1 => by have := grk_pos L m; unfold grk; omega
theorem grk_ge (L : List Int) : ∀ m j, j < m → L[j]?.getD 0 ≤ grk L m ∧ -(L[j]?.getD 0) ≤ grk L m
  | 0, j, h => by omega
  | m + 1, j, h => by
    unfold grk
    rcases Nat.lt_or_ge j m with e | e
    · have := grk_ge L m j e; omega
    · obtain rfl : j = m := by omega
      omega
theorem grk_some (L : List Int) : ∀ m, grk L m = 0 ∨ ∃ j, j < m ∧ (L[j]?.getD 0 = grk L m ∨ L[j]?.getD 0 = -grk L m)
  | 0 => .inl rfl
  | m + 1 => by
    have ih := grk_some L m
    have hp := grk_pos L m
    have e : grk L (m + 1) = max (max (grk L m) (L[m]?.getD 0)) (-(L[m]?.getD 0)) := rfl
    by_cases h1 : L[m]?.getD 0 = grk L (m + 1) ∨ L[m]?.getD 0 = -grk L (m + 1)
    · exact .inr ⟨m, by omega, h1⟩
    · have e2 : grk L (m + 1) = grk L m := by omega
      rcases ih with h | ⟨j, hj, h⟩
      · exact .inl (by omega)
      · exact .inr ⟨j, by omega, by rw [e2]; exact h⟩
theorem gr_pos (L : List Int) : 0 ≤ gr L := grk_pos L _
theorem gr_ge {L : List Int} {j : Nat} (h : j < L.length) : L[j]?.getD 0 ≤ gr L ∧ -(L[j]?.getD 0) ≤ gr L := grk_ge L _ j h
theorem gr_le {L : List Int} {s : Int} (h0 : 0 ≤ s) (h : ∀ j, j < L.length → L[j]?.getD 0 ≤ s ∧ -(L[j]?.getD 0) ≤ s) : gr L ≤ s := by
  rcases grk_some L L.length with e | ⟨j, hj, e⟩
  · unfold gr; omega
  · have := h j hj; unfold gr; omega
theorem grk_i64 {L : List Int} (h : ∀ j : Nat, I64 (L[j]?.getD 0) ∧ L[j]?.getD 0 ≠ -9223372036854775808) : ∀ m, I64 (grk L m)
  | 0 => by show I64 0; unfold I64; omega
  | m + 1 => by
    have h1 := grk_i64 h m
    have h2 := h m
    show I64 (max (max (grk L m) (L[m]?.getD 0)) (-(L[m]?.getD 0)))
    generalize grk L m = g at *
    unfold I64 at *; omega

/-- Is a code of the block whose greatest is 1 by 1, or -1 by 1? -/
def EndC (k : Int) (c : Nat) : Prop := c = near10 k 1 1 ∨ (Shr k (-1) 1 ∧ c = near10 k (-1) 1)
instance (k : Int) (c : Nat) : Decidable (EndC k c) := by unfold EndC; infer_instance
/-- May a block's codes be? -/
def OkC (k s : Int) (C : List Nat) : Prop := (s = 0 ∧ ∀ c ∈ C, c = near10 k 0 1) ∨ (0 < s ∧ ∃ c ∈ C, EndC k c)
/-- Is a block right? -/
def OkB (k s : Int) (C : List Nat) (W : List Int) : Prop :=
  (Kind9 k ∧ C.length + W.length ≤ 4096 ∧ W = [] ∧ OkC k s C) ∨ (k = 4 ∧ C.length + W.length ≤ 4096 ∧ (∀ x ∈ W, x ≠ -9223372036854775808) ∧ s = 0 ∧ C = [])
instance (k s : Int) (C : List Nat) : Decidable (OkC k s C) := by unfold OkC; infer_instance
instance (k s : Int) (C : List Nat) (W : List Int) : Decidable (OkB k s C W) := by unfold OkB; infer_instance
/-- What a right block is loaded as. -/
def ldB (k s : Int) (C : List Nat) (W : List Int) : List Int := if k = 4 then W else C.map (ld k s)
/-- May numbers be packed? -/
def OkP (k : Int) (L : List Int) : Prop := (0 ≤ k ∧ k ≤ 4) ∧ (∀ x ∈ L, x ≠ -9223372036854775808 ∧ (k = 1 ∨ k = 3 → 0 ≤ x))
instance (k : Int) (L : List Int) : Decidable (OkP k L) := by unfold OkP; infer_instance
/-- The codes of what is packed. -/
def pkC (k : Int) (L : List Int) : List Nat := if k = 4 then [] else L.map (pk k (gr L))
def pkS (k : Int) (L : List Int) : Int := if k = 4 then 0 else gr L
def pkW (k : Int) (L : List Int) : List Int := if k = 4 then L else []
theorem kind_or {k : Int} : 0 ≤ k ∧ k ≤ 4 ↔ Kind9 k ∨ k = 4 := by unfold Kind9; omega
theorem sig9_iff {k : Int} (h : Kind9 k) : sig9 k = true ↔ ¬ (k = 1 ∨ k = 3) := by unfold sig9 Kind9 at *; rw [decide_eq_true_eq]; omega
theorem okP_at {k : Int} {L : List Int} (h : OkP k L) (hk : Kind9 k) {x : Int} (hx : x ∈ L) : -gr L ≤ x ∧ x ≤ gr L ∧ (0 ≤ x ∨ sig9 k = true) := by
  obtain ⟨j, hj, rfl⟩ := at_mem 0 hx
  have := gr_ge hj
  refine ⟨by omega, by omega, ?_⟩
  by_cases e : k = 1 ∨ k = 3
  · exact .inl ((h.2 _ hx).2 e)
  · exact .inr ((sig9_iff hk).2 e)
theorem shr_m {k : Int} (hk : Kind9 k) (hs : sig9 k = true) : Shr k (-1) 1 := ⟨hk, by omega, by omega, by omega, .inr hs⟩
/-- What is packed is right. -/
theorem okB_pk {k : Int} {L : List Int} (h : OkP k L) (hl : L.length ≤ 4096) : OkB k (pkS k L) (pkC k L) (pkW k L) := by
  rcases kind_or.1 h.1 with hk | hk
  · have h4 : k ≠ 4 := by unfold Kind9 at hk; omega
    unfold pkS pkC pkW
    rw [if_neg h4, if_neg h4, if_neg h4]
    refine .inl ⟨hk, by simp; exact hl, rfl, ?_⟩
    rcases grk_some L L.length with e | ⟨j, hj, e⟩
    · refine .inl ⟨e, fun c hc => ?_⟩
      obtain ⟨x, hx, rfl⟩ := List.mem_map.1 hc
      have := okP_at h hk hx
      have e0 : gr L = 0 := e
      rw [e0] at this ⊢
      obtain rfl : x = 0 := by omega
      exact pk_nought
    · by_cases e0 : gr L = 0
      · refine .inl ⟨e0, fun c hc => ?_⟩
        obtain ⟨x, hx, rfl⟩ := List.mem_map.1 hc
        have := okP_at h hk hx
        rw [e0] at this ⊢
        obtain rfl : x = 0 := by omega
        exact pk_nought
      · have hp : 0 < gr L := by have := gr_pos L; omega
        have hx := mem_at (d := 0) hj
        refine .inr ⟨hp, pk k (gr L) (L[j]?.getD 0), List.mem_map.2 ⟨_, hx, rfl⟩, ?_⟩
        have e' : L[j]?.getD 0 = gr L ∨ L[j]?.getD 0 = -gr L := e
        rcases e' with e' | e'
        · left; rw [e', pk_top hk hp, near10_one hk]
        · have hs : sig9 k = true := by
            have := (okP_at h hk hx).2.2
            rcases this with h1 | h1
            · omega
            · exact h1
          right; rw [e', pk_low hp]; exact ⟨shr_m hk hs, rfl⟩
  · subst hk
    refine .inr ⟨rfl, by simp [pkC, pkW]; exact hl, fun x hx => (h.2 x hx).1, rfl, rfl⟩
end Go.Proofs.Ytpephogadljncaa

/-
  The contracts of the tenth reference: Sub of integers, share, Share, Num, far, Far.
-/
namespace Go.Proofs.Ytpephogadljncaa
set_option maxRecDepth 100000
open Go.RowKit
set_option linter.unusedVariables false
set_option linter.unusedSimpArgs false

theorem zn_size {w : World} {b : Bool} {A : Option Addr} {n c : Nat} {z : Int} (h : Zn w b A n c z) : Zn w false A n c ((z.natAbs : Nat) : Int) := ⟨by rw [Int.natAbs_natCast]; exact h.1, by simp⟩
theorem IR.cell {w : World} {b off n c j : Nat} {l : List Int} (h : IR w (some ⟨b, off, none⟩) n c l) (hj : j < n) : w.cell? ⟨b, off + j, none⟩ = some (.int .i64 (l[j]?.getD 0)) := by
  obtain ⟨b', off', e, hlt, hc⟩ := h.2.2 (by omega)
  injection e with e
  injection e with e1 e2
  subst e1
  subst e2
  exact hc j hj
theorem IR.some {w : World} {A : Option Addr} {n c : Nat} {l : List Int} (h : IR w A n c l) (hn : 0 < n) : ∃ b off, A = some ⟨b, off, none⟩ ∧ b < w.heap.size := by
  obtain ⟨b, off, e, hlt, hc⟩ := h.2.2 hn
  exact ⟨b, off, e, hlt⟩
theorem u8_nat {a : Int} (h : (Lit.int .u8 a).wf = true) : ∃ q : Nat, a = (q : Int) ∧ q < 256 := by
  have : 0 ≤ a ∧ a ≤ 255 := bounds_u8 h
  exact ⟨a.toNat, by omega, by omega⟩
theorem kind9_code {k : Int} (h : Kind9 k) : code9 k = 0 := if_pos h
theorem other9 {k : Int} (h : ¬ Kind9 k) : book9 k = [] ∧ code9 k = 1 := by
  refine ⟨?_, if_neg h⟩
  unfold book9; unfold Kind9 at h; rw [if_neg (fun e => h (.inl e)), if_neg (fun e => h (.inr (.inl e))), if_neg (fun e => h (.inr (.inr (.inl e)))), if_neg (fun e => h (.inr (.inr (.inr e))))]
theorem den9_i64 (k : Int) : I64 (den9 k) := by have := den9_bd k; unfold I64; omega
theorem num10_i64 (k : Int) (c : Nat) : I64 (num10 k c) := by have := num10_bd k c; unfold I64; omega
theorem gap9_i64 (k : Int) : I64 (gap9 k) := by have := gap9_bd k; unfold I64; omega
theorem len_prod {a b : Int} (ha : I64 a) (hb : I64 b) : (limbs (a * b).natAbs).length ≤ 2 := zlen_mul (len_one ha.abs) (len_one hb.abs)
theorem len_diff {a b : Int} {k : Nat} (ha : (limbs a.natAbs).length ≤ k) (hb : (limbs b.natAbs).length ≤ k) : (limbs (a - b).natAbs).length ≤ k + 1 := by rw [Int.sub_eq_add_neg]; exact zlen_add ha (by rw [Int.natAbs_neg]; exact hb)
theorem dst_len {k num den : Int} (hn : I64 num) (hd : I64 den) (c : Nat) : (limbs (dst k num den c).natAbs).length ≤ 3 := by
  unfold dst; rw [Int.natAbs_natCast]; exact len_diff (len_prod hn (den9_i64 k)) (len_prod (num10_i64 k c) hd)

set_option maxHeartbeats 8000000 in
theorem rzsub_N {w : World} {ba : Bool} {Aa : Option Addr} {na ca : Nat} {bb : Bool} {Ab : Option Addr} {nb cb : Nat} {x : Int} (ha : Zn w ba Aa na ca x) (sa : (limbs x.natAbs).length ≤ 100) {y : Int} (hb : Zn w bb Ab nb cb y) (sb : (limbs y.natAbs).length ≤ 100) :
    Calls Try.prog 22 #[.agg #[.bool ba, .slice Aa na ca], .agg #[.bool bb, .slice Ab nb cb]] w (GotZ w (x - y)) := by
  have cc := Below.refl w.heap.size w
  go_enter Try.func22, Try.ntmps22
  go_wp2_with fail
  generalize hv_ : ((w.alloc (.cells #[.bool ba, .slice Aa na ca] 29)).alloc (.cells #[.bool bb, .slice Ab nb cb] 29)).alloc (.cells #[.bool false, .slice none 0 0] 29) = v1
  obtain ⟨f0, f1⟩ : Fz2 v1 (w.heap.size + 1 + 1) := by simp [Fz2, ← hv_, go_sem]
  have bA : Below w.heap.size w v1 := by rw [← hv_]; exact ((((Below.refl _ w).alloc (by simp) _).alloc (by simp) _).alloc (by simp <;> omega) _)
  replace ha := ha.on bA
  replace hb := hb.on bA
  replace cc := bK cc bA
  clear bA
  obtain ⟨ka0, ka1⟩ : Cs2 v1 w.heap.size (.bool ba) (.slice Aa na ca) := by simp [Cs2, ← hv_, go_sem]
  have kal : w.heap.size < v1.heap.size := by simp [← hv_] <;> omega
  obtain ⟨kb0, kb1⟩ : Cs2 v1 (w.heap.size + 1) (.bool bb) (.slice Ab nb cb) := by simp [Cs2, ← hv_, go_sem]
  have kbl : w.heap.size + 1 < v1.heap.size := by simp [← hv_] <;> omega
  obtain ⟨g0, g1⟩ : Cs2 v1 (w.heap.size + 1 + 1) (.bool false) (.slice none 0 0) := by simp [Cs2, ← hv_, go_sem]
  have gl : w.heap.size + 1 + 1 < v1.heap.size := by simp [← hv_] <;> omega
  clear hv_
  have qq : Below v1.heap.size v1 v1.drew := below_drewN (Below.refl _ v1) 1
  have ha' := ha.on qq
  have hb' := hb.on qq
  go_region_held3 (fun w' => w'.cell? ⟨w.heap.size, 0, none⟩ = some (.bool ba) ∧ w'.cell? ⟨w.heap.size, 1, none⟩ = some (.slice Aa na ca) ∧ w'.cell? ⟨w.heap.size + 1, 0, none⟩ = some (.bool bb) ∧ w'.cell? ⟨w.heap.size + 1, 1, none⟩ = some (.slice Ab nb cb))
    (first | with_reducible exact ⟨cK qq ka0 kal, cK qq ka1 kal, cK qq kb0 kbl, cK qq kb1 kbl⟩ | with_reducible exact ⟨(cell_store (by omega)).trans (cK qq ka0 kal), (cell_store (by omega)).trans (cK qq ka1 kal), (cell_store (by omega)).trans (cK qq kb0 kbl), (cell_store (by omega)).trans (cK qq kb1 kbl)⟩ | go_keep)
    (first
      | (go_at_call 46; (with_reducible refine (rzneg_N hb' (Nat.le_trans sb (by omega))).mono ?_); rintro e wz ⟨bu, Au, nu, cu, rfl, hu, q⟩; replace qq := bK qq q; (try replace ha' := ha'.on q); (try replace hb' := hb'.on q); (try replace hm := hm.on q); clear q; have xa0 := cK qq g0 gl; have ya0 := fK qq f0 gl; have xa1 := cK qq g1 gl; have ya1 := fK qq f1 gl)
      | (go_at_call 21; (with_reducible refine (rzadd_N ha' hu (Nat.le_trans sa (by omega)) (by rw [Int.natAbs_neg]; omega)).mono ?_); rintro e wz ⟨bm, Am, nm, cm, rfl, hm, q⟩; replace qq := bK qq q; (try replace ha' := ha'.on q); (try replace hb' := hb'.on q); (try replace hu := hu.on q); clear q; have xa0 := cK qq g0 gl; have ya0 := fK qq f0 gl; have xa1 := cK qq g1 gl; have ya1 := fK qq f1 gl))
  replace cc := bK cc qq
  have hn : Zn wz bm Am nm cm (x - y) := by rw [Int.sub_eq_add_neg]; exact hm
  have eb : Box wz (w.heap.size + 1 + 1) false none 0 0 := ⟨xa0, xa1⟩
  have HZ : Hid (Zn ((wz.setCell ⟨w.heap.size + 1 + 1, 0, none⟩ (.bool bm)).setCell ⟨w.heap.size + 1 + 1, 1, none⟩ (.slice Am nm cm)) bm Am nm cm (x - y)) := Lib.hid (hn.put eb _ _)
  clear hn
  go_wp2_with fail
  refine bodyPost_ret (v := .agg #[.bool bm, .slice Am nm cm]) (by simp [results, Try.results22, go_sem, xa0, xa1]) rfl ⟨_, _, _, _, rfl, HZ.out, below_put cc (by omega) _ _⟩














end Go.Proofs.Ytpephogadljncaa

/-
  The contract of the tenth reference: Near.
-/
namespace Go.Proofs.Ytpephogadljncaa
open Go.RowKit
set_option linter.unusedVariables false
set_option linter.unusedSimpArgs false

theorem cmpZ_lt {a b : Int} : cmpZ a b < 0 ↔ a < b := by unfold cmpZ; split <;> (try split) <;> omega
theorem cmpZ_eq {a b : Int} : cmpZ a b = 0 ↔ a = b := by unfold cmpZ; split <;> (try split) <;> omega
theorem cmpZ_ngt {a b : Int} : cmpZ a b ≤ 0 ↔ a ≤ b := by unfold cmpZ; split <;> (try split) <;> omega
/-- As LoneZ; the box may be written. -/
def LoneF (V U : World) (g : Nat) (b : Bool) (A : Option Addr) (n k : Nat) (z : Int) : Prop := LoneZ V U g b A n k z ∧ U.frozen? ⟨g, 0, none⟩ = false ∧ U.frozen? ⟨g, 1, none⟩ = false
section
variable {V wz : World} {g : Nat} {b : Bool} {A : Option Addr} {n k : Nat} {z : Int}
theorem loneFA (h : Zn wz b A n k z) (qq : Below V.heap.size V wz) (T : TypeId) : LoneF V (wz.alloc (.cells #[.bool b, .slice A n k] T)) wz.heap.size b A n k z := ⟨loneZA h qq T, by simp [go_sem], by simp [go_sem]⟩
theorem loneFB (o0 : wz.cell? ⟨g, 0, none⟩ = some (.bool false)) (o1 : wz.cell? ⟨g, 1, none⟩ = some (.slice none 0 0)) (f0 : wz.frozen? ⟨g, 0, none⟩ = false) (f1 : wz.frozen? ⟨g, 1, none⟩ = false) (h : Zn wz b A n k z) (qq : Below V.heap.size V wz) (l : V.heap.size ≤ g) : LoneF V ((wz.setCell ⟨g, 0, none⟩ (.bool b)).setCell ⟨g, 1, none⟩ (.slice A n k)) g b A n k z := ⟨loneZB o0 o1 h qq l, by simpa [go_sem] using f0, by simpa [go_sem] using f1⟩
end



end Go.Proofs.Ytpephogadljncaa

/-
  Rows of bytes, blocks: what a slice value reads as, what keeps it, what is answered.
-/
namespace Go.Proofs.Ytpephogadljncaa
open Go.RowKit
set_option linter.unusedVariables false

/-- A block, and a code, are answered. -/
def GotBp (w : World) (k s : Int) (C : List Nat) (W : List Int) (r : Int) (e : Ending) (w' : World) : Prop :=
  ∃ A n c B m d, e = .returned (.tuple #[.agg #[.int .i64 k, .int .i64 s, .slice A n c, .slice B m d], .int .i64 r]) ∧ BR w' A n c C ∧ IR w' B m d W ∧ Below w.heap.size w w'
/-- What the first i are, one by one. -/
def anyK {α : Type} (P : α → Bool) (l : List α) (i : Nat) : Bool := (l.take i).any P
def allK {α : Type} (P : α → Bool) (l : List α) (i : Nat) : Bool := (l.take i).all P
theorem anyK_zero {α : Type} (P : α → Bool) (l : List α) : anyK P l 0 = false := by simp [anyK]
theorem allK_zero {α : Type} (P : α → Bool) (l : List α) : allK P l 0 = true := by simp [allK]
theorem take_at {α : Type} {l : List α} (d : α) {i : Nat} (h : i < l.length) : l.take (i + 1) = l.take i ++ [l[i]?.getD d] := by
  rw [List.take_add_one, List.getElem?_eq_getElem h]; rfl
theorem anyK_succ {α : Type} (P : α → Bool) {l : List α} (d : α) {i : Nat} (h : i < l.length) : anyK P l (i + 1) = (anyK P l i || P (l[i]?.getD d)) := by
  unfold anyK; rw [take_at d h, List.any_append]; simp
theorem allK_succ {α : Type} (P : α → Bool) {l : List α} (d : α) {i : Nat} (h : i < l.length) : allK P l (i + 1) = (allK P l i && P (l[i]?.getD d)) := by
  unfold allK; rw [take_at d h, List.all_append]; simp
theorem anyK_end {α : Type} (P : α → Bool) (l : List α) : anyK P l l.length = l.any P := by unfold anyK; rw [List.take_length]
theorem allK_end {α : Type} (P : α → Bool) (l : List α) : allK P l l.length = l.all P := by unfold allK; rw [List.take_length]
/-- A code of the greatest, told by what the tenth reference says of 1, and of -1. -/
def endP (top low : Nat) (sg : Bool) (c : Nat) : Bool := c == top || (sg && c == low)
theorem okC_eq {k s : Int} {C : List Nat} {sg : Bool} (hs : sg = decide (Shr k (-1) 1)) : decide (OkC k s C) = (if s = 0 then C.all (fun c => c == near10 k 0 1) else decide (0 < s) && C.any (endP (near10 k 1 1) (near10 k (-1) 1) sg)) := by
  have e : ∀ c, endP (near10 k 1 1) (near10 k (-1) 1) sg c = decide (EndC k c) := by
    intro c
    unfold endP
    rw [Bool.eq_iff_iff, Bool.or_eq_true, beq_iff_eq, Bool.and_eq_true, beq_iff_eq, hs, decide_eq_true_eq, decide_eq_true_eq]
    exact Iff.rfl
  split
  · rename_i h
    rw [Bool.eq_iff_iff, decide_eq_true_eq, List.all_eq_true]
    constructor
    · rintro (⟨_, g⟩ | ⟨g, _⟩)
      · intro c hc; rw [beq_iff_eq]; exact g c hc
      · omega
    · intro g; exact .inl ⟨h, fun c hc => beq_iff_eq.1 (g c hc)⟩
  · rename_i h
    rw [Bool.eq_iff_iff, decide_eq_true_eq, Bool.and_eq_true, decide_eq_true_eq, List.any_eq_true]
    constructor
    · rintro (⟨g, _⟩ | ⟨g, c, hc, g2⟩)
      · exact absurd g h
      · exact ⟨g, c, hc, by rw [e]; exact decide_eq_true g2⟩
    · rintro ⟨g, c, hc, g2⟩; exact .inr ⟨g, c, hc, by rw [e] at g2; exact of_decide_eq_true g2⟩
end Go.Proofs.Ytpephogadljncaa

/-
  Rows of integers and of bytes, blocks, two small integers that came in.
-/
namespace Go.Proofs.Ytpephogadljncaa
set_option maxRecDepth 100000
open Go.ChangeShapes Go.WideShapes Go.ChangeAt Go.RowKit Go.Joins

theorem ir_row {w : World} {a : Option Addr} {len cap : Nat} {zs : List Int}
    (h : (a = none ∧ len = 0 ∧ cap = 0 ∧ zs = []) ∨ ∃ x, a = some x ∧ len ≤ cap ∧ cap ≤ maxLen ∧ zs.length = cap ∧ (∀ i, i < zs.length → w.cell? (x.add i) = some (.int .i64 (zs.getD i 0))) ∧ ∀ n ∈ zs, (Lit.int .i64 n).wf = true) :
    ∃ l, IR w a len cap l ∧ len ≤ 9223372036854775807 ∧ ∀ x ∈ l, I64 x := by
  rcases h with ⟨rfl, rfl, rfl, rfl⟩ | ⟨x, rfl, hl, hm, hz, hc, hw⟩
  · exact ⟨[], IR.nil _ _ _, by omega, fun x hx => by simp at hx⟩
  · refine ⟨zs.take len, ⟨by simp; omega, hl, fun h0 => ?_⟩, by unfold maxLen at hm; omega, fun y hy => bounds_i64 (hw y (List.mem_of_mem_take hy))⟩
    obtain ⟨b, off, rfl, hcell⟩ := ints_at hc (by omega)
    refine ⟨b, off, rfl, block_lt (hcell 0 (by omega)), fun j hj => ?_⟩
    rw [hcell j (by omega), List.getElem?_take_of_lt hj]
    simp [List.getD_eq_getElem?_getD]
section
variable {H : Type} {enc : TypeId × Value → H} {W : World} {base : Nat} {held : Bool} {v : Value} {y : DataW H × List MemPlace} {n : Nat}
theorem trod_i64s (h : DataW.trod enc Try.prog W base (fun _ => true) held n 31 [v] = some y) :
    ∃ (a : Option Addr) (len cap : Nat) (l : List Int), v = .slice a len cap ∧ IR W a len cap l ∧ len ≤ 9223372036854775807 ∧ ∀ x ∈ l, I64 x := by
  rcases open_ints Try.underlying31 Try.underlying2 (by kernel_rfl) h with ⟨hcs, _⟩ | ⟨x, l, c, zs, hcs, _, hl, hm, hz, _, hcell, hwz⟩
  · injection hcs with hcs _
    subst hcs
    obtain ⟨l, hl⟩ := ir_row (w := W) (a := none) (len := 0) (cap := 0) (zs := []) (.inl ⟨rfl, rfl, rfl, rfl⟩)
    exact ⟨none, 0, 0, l, rfl, hl⟩
  · injection hcs with hcs _
    subst hcs
    obtain ⟨l', hl'⟩ := ir_row (w := W) (a := some x) (len := l) (cap := c) (zs := zs) (.inr ⟨x, rfl, hl, hm, by simpa using hz, hcell, hwz⟩)
    exact ⟨some x, l, c, l', rfl, hl'⟩
end
theorem open_i64s {H : Type} {enc : TypeId × Value → H} {W : World} {base b0 : Nat} {held : Bool} {r : Reach} {v : Value} {d : DataW H} {p : List MemPlace} (hv : Value.okWide Try.prog W r b0 31 v) (h : DataW.Trod enc Try.prog W base (fun _ => true) held 31 v d p) :
    ∃ (a : Option Addr) (len cap : Nat) (l : List Int), v = .slice a len cap ∧ IR W a len cap l ∧ len ≤ 9223372036854775807 ∧ ∀ x ∈ l, I64 x := by
  obtain ⟨a, len, cap, rfl⟩ := okWide_slice Try.underlying31 hv
  obtain ⟨fuel, hf⟩ := h
  exact trod_i64s hf
end Go.Proofs.Ytpephogadljncaa

/-
  Rows of int64 that came in, with how they are read: the form's reach bounds their length.
-/
namespace Go.Proofs.Ytpephogadljncaa
set_option maxRecDepth 100000
open Go.ChangeShapes Go.WideShapes Go.ChangeAt Go.RowKit Go.Joins
set_option linter.unusedVariables false

theorem open_i64r {H : Type} {enc : TypeId × Value → H} {W : World} {base b0 : Nat} {held : Bool} {r : Reach} {v : Value} {d : DataW H} {p : List MemPlace} (hv : Value.okWide Try.prog W r b0 31 v) (h : DataW.Trod enc Try.prog W base (fun _ => true) held 31 v d p) :
    ∃ (a : Option Addr) (len cap : Nat) (l : List Int), v = .slice a len cap ∧ IR W a len cap l ∧ len ≤ 9223372036854775807 ∧ (∀ x ∈ l, I64 x) ∧ Read cap d := by
  obtain ⟨a, len, cap, rfl⟩ := okWide_slice Try.underlying31 hv
  obtain ⟨fuel, hf⟩ := h
  obtain ⟨a', l', c', L, e, hI, hn, hi⟩ := trod_i64s hf
  injection e with e1 e2 e3
  subst e1 e2 e3
  refine ⟨_, _, _, L, rfl, hI, hn, hi, ?_⟩
  rcases open_ints Try.underlying31 Try.underlying2 (by kernel_rfl) hf with ⟨hcs, _⟩ | ⟨x, l, c, zs, hcs, _, hl, hm, hz, hy, hcell, hwz⟩
  · injection hcs with hcs _
    injection hcs with _ _ e3
    exact .inl e3
  · injection hcs with hcs _
    injection hcs with _ _ e3
    have hz2 : zs.length = c := by simpa using hz
    refine .inr ⟨_, _, congrArg Prod.fst hy, ?_⟩
    simp only [lits, List.length_map, List.length_take, List.length_drop]
    omega
/-- The form's own reach bounds a row of int64 that is read. -/
theorem read_reach8 {H : Type} {ts : List TypeId} {ds : List (DataW H)} (h : (DataW.weightsEach Try.prog ts ds).all (· ≤ reachBytes) = true) {j : Nat} {d : DataW H} {cap len : Nat} (ht : ts[j]? = some 31) (hd : ds[j]? = some d) (hr : Read cap d) (hl : len ≤ cap) : len ≤ 17592186044416 := by
  rcases hr with e | ⟨es, ss, rfl, e⟩
  · omega
  · have h1 := sized_slice h ht hd Try.underlying31
    have e1 : Try.prog.bytesOf 2 = 8 := by kernel_rfl
    rw [e1, e] at h1
    have h2 : reachBytes = 140737488351232 := by decide
    omega
end Go.Proofs.Ytpephogadljncaa

/-
  Plain arithmetic of powers and roots.
-/
namespace Go.Proofs.Ytpephogadljncaa

/-- The greatest number up to n whose power of k is at most x. -/
def irootTo (k x : Nat) : Nat → Nat
  | 0 => 0
  | n + 1 => if (n + 1) ^ k ≤ x then n + 1 else irootTo k x n
/-- A root, down. -/
def iroot (k x : Nat) : Nat := irootTo k x x
/-- A root, up. -/
def uroot (k x : Nat) : Nat := if iroot k x ^ k = x then iroot k x else iroot k x + 1

theorem irootTo_pow {k x : Nat} (hk : k ≠ 0) (n : Nat) : irootTo k x n ^ k ≤ x := by
  induction n with
  | zero => unfold irootTo; rw [Nat.zero_pow (by omega)]; omega
  | succ n ih =>
    unfold irootTo
    split
    · assumption
    · exact ih
theorem le_irootTo {k x r : Nat} (n : Nat) (hr : r ≤ n) (h : r ^ k ≤ x) : r ≤ irootTo k x n := by
  induction n with
  | zero => omega
  | succ n ih =>
    unfold irootTo
    split
    · exact hr
    · rename_i hn
      rcases Nat.lt_or_ge n r with h1 | h1
      · have : r = n + 1 := by omega
        subst this; exact absurd h hn
      · exact ih h1
theorem self_le_pow {k : Nat} (r : Nat) (hk : k ≠ 0) : r ≤ r ^ k := Nat.le_self_pow hk r
theorem pow_le {a b : Nat} (k : Nat) (h : a ≤ b) : a ^ k ≤ b ^ k := Nat.pow_le_pow_left h k
theorem pow_lt {a b k : Nat} (hk : k ≠ 0) (h : a < b) : a ^ k < b ^ k := Nat.pow_lt_pow_left h hk
/-- A number is at most the root just if its power is at most the number. -/
theorem le_iroot {k x r : Nat} (hk : k ≠ 0) : r ≤ iroot k x ↔ r ^ k ≤ x := by
  constructor
  · intro h
    exact Nat.le_trans (pow_le k h) (irootTo_pow hk x)
  · intro h
    exact le_irootTo x (Nat.le_trans (self_le_pow r hk) h) h
theorem iroot_pow {k : Nat} (x : Nat) (hk : k ≠ 0) : iroot k x ^ k ≤ x := irootTo_pow hk x
theorem lt_iroot {k : Nat} (x : Nat) (hk : k ≠ 0) : x < (iroot k x + 1) ^ k := by
  rcases Nat.lt_or_ge x ((iroot k x + 1) ^ k) with h | h
  · exact h
  · have := (le_iroot hk).2 h; omega
theorem iroot_eq {k x r : Nat} (hk : k ≠ 0) (h1 : r ^ k ≤ x) (h2 : x < (r + 1) ^ k) : iroot k x = r := by
  have a := (le_iroot hk).2 h1
  rcases Nat.lt_or_ge r (iroot k x) with h | h
  · have := (le_iroot (x := x) (r := r + 1) hk).1 h; omega
  · omega
theorem uroot_le {k x r : Nat} (hk : k ≠ 0) : uroot k x ≤ r ↔ x ≤ r ^ k := by
  unfold uroot
  have h1 := iroot_pow x hk
  have h2 := lt_iroot x hk
  split
  · rename_i e
    constructor
    · intro h
      rw [← e]; exact pow_le k h
    · intro h
      rcases Nat.lt_or_ge r (iroot k x) with h3 | h3
      · have := pow_lt hk h3; omega
      · exact h3
  · rename_i e
    constructor
    · intro h
      have := pow_le k h; omega
    · intro h
      rcases Nat.lt_or_ge (iroot k x) r with h3 | h3
      · exact h3
      · have := pow_le k h3; omega
theorem iroot_le {k : Nat} (x : Nat) (hk : k ≠ 0) : iroot k x ≤ x := Nat.le_trans (self_le_pow _ hk) (iroot_pow x hk)
theorem uroot_le_self {k : Nat} (x : Nat) (hk : k ≠ 0) : uroot k x ≤ x := (uroot_le hk).2 (self_le_pow x hk)

/-- P3.3: the root of a power. -/
theorem iroot_of_pow {k : Nat} (a : Nat) (hk : k ≠ 0) : iroot k (a ^ k) = a := iroot_eq hk (Nat.le_refl _) (pow_lt hk (Nat.lt_succ_self a))
theorem uroot_of_pow {k : Nat} (a : Nat) (hk : k ≠ 0) : uroot k (a ^ k) = a := by unfold uroot; rw [iroot_of_pow a hk, if_pos rfl]
theorem iroot_pred {k a : Nat} (hk : k ≠ 0) (ha : a ≠ 0) : iroot k (a ^ k - 1) = a - 1 := by
  have h1 := pow_lt hk (show a - 1 < a by omega)
  refine iroot_eq hk (by omega) ?_
  rw [Nat.sub_add_cancel (by omega)]
  omega
theorem uroot_pred {k a : Nat} (hk : 2 ≤ k) (ha : 2 ≤ a) : uroot k (a ^ k - 1) = a := by
  unfold uroot
  rw [iroot_pred (by omega) (by omega), if_neg, Nat.sub_add_cancel (by omega)]
  obtain ⟨b, rfl⟩ : ∃ b, a = b + 1 := ⟨a - 1, by omega⟩
  rw [Nat.add_sub_cancel]
  obtain ⟨j, rfl⟩ : ∃ j, k = j + 1 := ⟨k - 1, by omega⟩
  have h1 : b ^ j * 1 ≤ (b + 1) ^ j * 1 := Nat.mul_le_mul_right _ (pow_le j (by omega))
  have h2 : (b + 1) ^ (j + 1) = (b + 1) ^ j * b + (b + 1) ^ j := by rw [Nat.pow_succ, Nat.mul_add, Nat.mul_one]
  have h3 : b ^ (j + 1) ≤ (b + 1) ^ j * b := by rw [Nat.pow_succ]; exact Nat.mul_le_mul_right _ (pow_le j (by omega))
  have h4 : 1 < (b + 1) ^ j := Nat.one_lt_pow (by omega) (by omega)
  omega
theorem uroot_zero {k : Nat} (hk : k ≠ 0) : uroot k 0 = 0 := by
  have := uroot_le_self 0 hk; omega
theorem iroot_mono {k a b : Nat} (hk : k ≠ 0) (h : a ≤ b) : iroot k a ≤ iroot k b := (le_iroot hk).2 (Nat.le_trans (iroot_pow a hk) h)
theorem iroot_higher {k : Nat} (a : Nat) (hk : k ≠ 0) : iroot (k + 1) a ≤ iroot k a := by
  refine (le_iroot hk).2 ?_
  have h := iroot_pow a (k := k + 1) (by omega)
  rcases Nat.eq_zero_or_pos (iroot (k + 1) a) with h0 | h0
  · rw [h0, Nat.zero_pow (by omega)]; omega
  · exact Nat.le_trans (Nat.pow_le_pow_right h0 (by omega)) h
theorem iroot_one (a : Nat) : iroot 1 a = a := iroot_eq (by omega) (by rw [Nat.pow_one]; omega) (by rw [Nat.pow_one]; omega)
theorem iroot_iroot {k n : Nat} (a : Nat) (hk : k ≠ 0) (hn : n ≠ 0) : iroot n (iroot k a) = iroot (k * n) a := by
  have hkn : k * n ≠ 0 := Nat.mul_ne_zero hk hn
  have key : ∀ r, r ≤ iroot n (iroot k a) ↔ r ≤ iroot (k * n) a := fun r => by
    rw [le_iroot hn, le_iroot hk, le_iroot hkn, ← Nat.pow_mul, Nat.mul_comm n k]
  exact Nat.le_antisymm ((key _).1 (Nat.le_refl _)) ((key _).2 (Nat.le_refl _))
theorem iroot_mul {k : Nat} (a b : Nat) (hk : k ≠ 0) : iroot k a * iroot k b ≤ iroot k (a * b) := by
  rw [le_iroot hk, Nat.mul_pow]
  exact Nat.mul_le_mul (iroot_pow a hk) (iroot_pow b hk)
theorem le_uroot_pow {k : Nat} (x : Nat) (hk : k ≠ 0) : x ≤ uroot k x ^ k := (uroot_le hk).1 (Nat.le_refl _)
theorem uroot_mul {k : Nat} (a b : Nat) (hk : k ≠ 0) : uroot k (a * b) ≤ uroot k a * uroot k b := by
  rw [uroot_le hk, Nat.mul_pow]
  exact Nat.mul_le_mul (le_uroot_pow a hk) (le_uroot_pow b hk)

theorem limbs_length_pow {a m : Nat} (h : (limbs a).length ≤ m) (k : Nat) : (limbs (a ^ k)).length ≤ m * k + 1 := by
  refine Nat.le_trans (limbs_length_le (n := a ^ k) (k := m * k + 1) ?_) (Nat.le_refl _)
  have h1 : a ^ k ≤ (B64 ^ m) ^ k := pow_le k (Nat.le_of_lt (lt_of_limbs_length h))
  rw [← Nat.pow_mul] at h1
  have h2 : B64 ^ (m * k) < B64 ^ (m * k + 1) := Nat.pow_lt_pow_right B64_gt (Nat.lt_succ_self _)
  omega

/-- The reference's loop: its start, a step, its end. -/
theorem root_start {a b k : Nat} (hk : k ≠ 0) (ha : a < 2 ^ b) : a < (0 + 2 ^ (b / k + 1)) ^ k := by
  rw [Nat.zero_add, ← Nat.pow_mul]
  refine Nat.lt_of_lt_of_le ha (Nat.pow_le_pow_right (by omega) ?_)
  have := Nat.div_add_mod b k
  have := Nat.mod_lt b (show k > 0 by omega)
  rw [Nat.add_mul, Nat.one_mul, Nat.mul_comm (b / k)]
  omega
theorem root_step {out i : Nat} : out + 2 ^ (i + 1) = out + 2 ^ i + 2 ^ i := by rw [Nat.pow_succ]; omega

end Go.Proofs.Ytpephogadljncaa

/-
  What is clipped: squares, a norm, what is cut off, means; numbers alone.
-/
namespace Go.Proofs.Ytpephogadljncaa
set_option linter.unusedVariables false
set_option linter.unusedSimpArgs false

/-- The squares of a row's numbers; of all rows'. -/
def sq1 (x : Int) : Nat := x.natAbs * x.natAbs
def sqS : List Int → Nat
  | [] => 0
  | x :: l => sq1 x + sqS l
def sqA : List (List Int) → Nat
  | [] => 0
  | l :: L => sqS l + sqA L
theorem sqS_append (l m : List Int) : sqS (l ++ m) = sqS l + sqS m := by
  induction l with
  | nil => show sqS m = 0 + sqS m; omega
  | cons x l ih => show sq1 x + sqS (l ++ m) = sq1 x + sqS l + sqS m; omega
theorem sqA_append (L M : List (List Int)) : sqA (L ++ M) = sqA L + sqA M := by
  induction L with
  | nil => show sqA M = 0 + sqA M; omega
  | cons x l ih => show sqS x + sqA (l ++ M) = sqS x + sqA l + sqA M; omega
theorem sqS_take (l : List Int) (i : Nat) (h : i < l.length) : sqS (l.take (i + 1)) = sqS (l.take i) + sq1 (l[i]?.getD 0) := by
  rw [List.take_add_one, List.getElem?_eq_getElem h, sqS_append]
  show _ = _
  rfl
theorem sqA_take (L : List (List Int)) (i : Nat) (h : i < L.length) : sqA (L.take (i + 1)) = sqA (L.take i) + sqS (L[i]?.getD []) := by
  rw [List.take_add_one, List.getElem?_eq_getElem h, sqA_append]
  rfl
theorem sqA_flat (L : List (List Int)) : sqS L.flatten = sqA L := by
  induction L with
  | nil => rfl
  | cons l L ih => rw [List.flatten_cons, sqS_append, ih]; rfl
theorem sqA_reverse (L : List (List Int)) : sqA L.reverse = sqA L := by
  induction L with
  | nil => rfl
  | cons l L ih => rw [List.reverse_cons, sqA_append, ih]; show sqA L + (sqS l + 0) = sqS l + sqA L; omega
/-- The norm. -/
def norm16 (L : List (List Int)) : Nat := uroot 2 (sqA L)
theorem norm_up (L : List (List Int)) : sqA L ≤ norm16 L * norm16 L := by
  have := le_uroot_pow (k := 2) (sqA L) (by omega)
  rwa [Nat.pow_two] at this
theorem norm_least (L : List (List Int)) (h : norm16 L ≠ 0) : (norm16 L - 1) * (norm16 L - 1) < sqA L := by
  rcases Nat.lt_or_ge ((norm16 L - 1) * (norm16 L - 1)) (sqA L) with h1 | h1
  · exact h1
  · have := (uroot_le (k := 2) (x := sqA L) (r := norm16 L - 1) (by omega)).2 (by rw [Nat.pow_two]; exact h1)
    unfold norm16 at h this ⊢
    omega
theorem norm_zero (L : List (List Int)) : norm16 L = 0 ↔ sqA L = 0 := by
  constructor
  · intro h
    have := norm_up L
    rw [h] at this
    omega
  · intro h
    unfold norm16
    rw [h]
    exact uroot_zero (by omega)
theorem norm_mono {L M : List (List Int)} (h : sqA L ≤ sqA M) : norm16 L ≤ norm16 M := by
  unfold norm16
  exact (uroot_le (by omega)).2 (Nat.le_trans h (le_uroot_pow _ (by omega)))
theorem norm_one (n : Int) : norm16 [[n]] = n.natAbs := by
  have e : sqA [[n]] = n.natAbs ^ 2 := by rw [Nat.pow_two]; rfl
  unfold norm16
  rw [e, uroot_of_pow _ (by omega)]
/-- A number, clipped. -/
def clip1 (m n : Nat) (x : Int) : Int := x.sign * ((x.natAbs * m / n : Nat) : Int)
theorem clip_abs (m n : Nat) (x : Int) : (clip1 m n x).natAbs ≤ x.natAbs * m / n := by
  unfold clip1
  rw [Int.natAbs_mul, Int.natAbs_natCast]
  rcases Int.lt_trichotomy x 0 with h | h | h
  · rw [Int.sign_eq_neg_one_of_neg h]; simp
  · subst h; simp
  · rw [Int.sign_eq_one_of_pos h]; simp
theorem clip_le {m n : Nat} (h : m ≤ n) (hn : 0 < n) (k : Nat) : k * m / n ≤ k := by
  have h1 : k * m ≤ k * n := Nat.mul_le_mul_left _ h
  have h2 := Nat.div_le_div_right (c := n) h1
  rwa [Nat.mul_div_cancel _ hn] at h2
theorem clip_pos {m n : Nat} {x : Int} (h : 0 ≤ x) : clip1 m n x = ((x.natAbs * m / n : Nat) : Int) := by
  unfold clip1
  rcases Int.lt_trichotomy x 0 with h' | h' | h'
  · omega
  · subst h'; simp
  · rw [Int.sign_eq_one_of_pos h']; omega
theorem clip_neg {m n : Nat} {x : Int} (h : x ≤ 0) : clip1 m n x = -((x.natAbs * m / n : Nat) : Int) := by
  unfold clip1
  rcases Int.lt_trichotomy x 0 with h' | h' | h'
  · rw [Int.sign_eq_neg_one_of_neg h']; omega
  · subst h'; simp
  · omega
theorem clip_side {m n : Nat} (h : m ≤ n) (hn : 0 < n) (x : Int) : (0 ≤ x → 0 ≤ clip1 m n x ∧ clip1 m n x ≤ x) ∧ (x ≤ 0 → x ≤ clip1 m n x ∧ clip1 m n x ≤ 0) := by
  have h1 := clip_le h hn x.natAbs
  refine ⟨fun hx => ?_, fun hx => ?_⟩
  · rw [clip_pos hx]
    generalize x.natAbs * m / n = q at *
    omega
  · rw [clip_neg hx]
    generalize x.natAbs * m / n = q at *
    omega
theorem clip_mono {m n : Nat} (h : m ≤ n) (hn : 0 < n) {x y : Int} (hxy : x ≤ y) : clip1 m n x ≤ clip1 m n y := by
  rcases Int.le_total 0 x with hx | hx
  · rw [clip_pos hx, clip_pos (Int.le_trans hx hxy)]
    exact Int.ofNat_le.2 (Nat.div_le_div_right (Nat.mul_le_mul_right _ (by omega)))
  · rcases Int.le_total 0 y with hy | hy
    · have h1 := ((clip_side h hn x).2 hx).2
      have h2 := ((clip_side h hn y).1 hy).1
      omega
    · rw [clip_neg hx, clip_neg hy]
      have := Nat.div_le_div_right (c := n) (Nat.mul_le_mul_right m (show y.natAbs ≤ x.natAbs by omega))
      omega
theorem clip_sq {m n : Nat} (x : Int) : sq1 (clip1 m n x) * (n * n) ≤ sq1 x * (m * m) := by
  have h1 := clip_abs m n x
  have h2 : (clip1 m n x).natAbs * n ≤ x.natAbs * m := Nat.le_trans (Nat.mul_le_mul_right _ h1) (Nat.div_mul_le_self _ _)
  have h3 := Nat.mul_le_mul h2 h2
  unfold sq1
  have e1 : (clip1 m n x).natAbs * (clip1 m n x).natAbs * (n * n) = (clip1 m n x).natAbs * n * ((clip1 m n x).natAbs * n) := by ac_rfl
  have e2 : x.natAbs * x.natAbs * (m * m) = x.natAbs * m * (x.natAbs * m) := by ac_rfl
  rw [e1, e2]
  exact h3
theorem clip_sqS {m n : Nat} (l : List Int) : sqS (l.map (clip1 m n)) * (n * n) ≤ sqS l * (m * m) := by
  induction l with
  | nil => show 0 * _ ≤ _; omega
  | cons x l ih =>
    show (sq1 (clip1 m n x) + sqS (l.map (clip1 m n))) * (n * n) ≤ (sq1 x + sqS l) * (m * m)
    rw [Nat.add_mul, Nat.add_mul]
    exact Nat.add_le_add (clip_sq x) ih
theorem clip_sqA {m n : Nat} (L : List (List Int)) : sqA (L.map (fun l => l.map (clip1 m n))) * (n * n) ≤ sqA L * (m * m) := by
  induction L with
  | nil => show 0 * _ ≤ _; omega
  | cons l L ih =>
    show (sqS (l.map (clip1 m n)) + sqA (L.map (fun l => l.map (clip1 m n)))) * (n * n) ≤ (sqS l + sqA L) * (m * m)
    rw [Nat.add_mul, Nat.add_mul]
    exact Nat.add_le_add (clip_sqS l) ih
/-- What is clipped by its own norm. -/
theorem clip_norm {m : Nat} (L : List (List Int)) (hn : 0 < norm16 L) : sqA (L.map (fun l => l.map (clip1 m (norm16 L)))) ≤ m * m := by
  have h1 := clip_sqA (m := m) (n := norm16 L) L
  have h2 := Nat.mul_le_mul_right (m * m) (norm_up L)
  have h3 : sqA (L.map (fun l => l.map (clip1 m (norm16 L)))) * (norm16 L * norm16 L) ≤ m * m * (norm16 L * norm16 L) := by
    rw [Nat.mul_comm (m * m)]
    exact Nat.le_trans h1 h2
  exact Nat.le_of_mul_le_mul_right h3 (Nat.mul_pos hn hn)
/-- Rows' sums, of a place. -/
def colS (k : Nat) : List (List Int) → Int
  | [] => 0
  | l :: L => l[k]?.getD 0 + colS k L
def mean16 (L : List (List Int)) (k : Nat) : Int := rn (colS k L) L.length
theorem colS_append (k : Nat) (L M : List (List Int)) : colS k (L ++ M) = colS k L + colS k M := by
  induction L with
  | nil => show colS k M = 0 + colS k M; omega
  | cons x l ih => show x[k]?.getD 0 + colS k (l ++ M) = x[k]?.getD 0 + colS k l + colS k M; omega
theorem colS_take (k : Nat) (L : List (List Int)) (i : Nat) (h : i < L.length) : colS k (L.take (i + 1)) = colS k (L.take i) + (L[i]?.getD [])[k]?.getD 0 := by
  rw [List.take_add_one, List.getElem?_eq_getElem h, colS_append]
  show colS k (L.take i) + ((L[i])[k]?.getD 0 + 0) = _
  rw [Int.add_zero]
  rfl
theorem colS_in {k : Nat} {a b : Int} : ∀ {L : List (List Int)}, (∀ l ∈ L, a ≤ l[k]?.getD 0 ∧ l[k]?.getD 0 ≤ b) → a * (L.length : Int) ≤ colS k L ∧ colS k L ≤ b * (L.length : Int)
  | [], _ => by show a * 0 ≤ 0 ∧ 0 ≤ b * 0; omega
  | l :: L, h => by
    have h1 := colS_in (a := a) (b := b) (k := k) (L := L) (fun x hx => h x (by simp [hx]))
    have h2 := h l (by simp)
    have e : ∀ c : Int, c * (((l :: L).length : Nat) : Int) = c * (L.length : Int) + c := fun c => by rw [List.length_cons, Int.natCast_add, Int.mul_add]; simp
    show a * _ ≤ l[k]?.getD 0 + colS k L ∧ l[k]?.getD 0 + colS k L ≤ b * _
    rw [e, e]
    omega
theorem mean_in {L : List (List Int)} {k : Nat} {a b : Int} (h0 : L.length ≠ 0) (h : ∀ l ∈ L, a ≤ l[k]?.getD 0 ∧ l[k]?.getD 0 ≤ b) : a ≤ mean16 L k ∧ mean16 L k ≤ b := by
  obtain ⟨h1, h2⟩ := colS_in h
  unfold mean16
  have h3 := rn_mono (n := a * (L.length : Int)) (m := colS k L) h0 h1
  have h4 := rn_mono (n := colS k L) (m := b * (L.length : Int)) h0 h2
  rw [rn_self a h0] at h3
  rw [rn_self b h0] at h4
  exact ⟨h3, h4⟩
theorem rn_half16 (z : Int) (d : Nat) (hd : d ≠ 0) : 2 * (rn z d * (d : Int) - z) ≤ (d : Int) ∧ -(d : Int) ≤ 2 * (rn z d * (d : Int) - z) := by
  have key : ∀ u : Nat, 2 * (rn (u : Int) d * (d : Int) - (u : Int)) ≤ (d : Int) ∧ -(d : Int) ≤ 2 * (rn (u : Int) d * (d : Int) - (u : Int)) := by
    intro u
    rw [rn_nat u d hd]
    have h1 := Nat.div_add_mod u d
    have h2 := Nat.mod_lt u (Nat.pos_of_ne_zero hd)
    have e : ((u / d : Nat) : Int) * (d : Int) = (u : Int) - ((u % d : Nat) : Int) := by
      have : ((u / d * d : Nat) : Int) = (u : Int) - ((u % d : Nat) : Int) := by rw [Nat.mul_comm]; omega
      rw [← this, Int.natCast_mul]
    unfold fars
    by_cases hf : (decide (d < u % d + u % d) || (decide (u % d + u % d = d) && decide (u / d % 2 = 1))) = true
    · rw [if_pos hf, Int.natCast_add, Int.add_mul, e]
      have h3 : d ≤ u % d + u % d := by
        rw [Bool.or_eq_true, Bool.and_eq_true, decide_eq_true_eq, decide_eq_true_eq] at hf
        omega
      have h4 : ((1 : Nat) : Int) * (d : Int) = (d : Int) := by simp
      rw [h4]
      omega
    · rw [if_neg hf, Int.natCast_add, Int.add_mul, e]
      have h3 : u % d + u % d ≤ d := by
        rw [Bool.or_eq_true, decide_eq_true_eq] at hf
        omega
      have h4 : ((0 : Nat) : Int) * (d : Int) = 0 := by simp
      rw [h4]
      omega
  rcases Int.le_total 0 z with h | h
  · obtain ⟨u, rfl⟩ : ∃ u : Nat, z = (u : Int) := ⟨z.toNat, by omega⟩
    exact key u
  · obtain ⟨u, rfl⟩ : ∃ u : Nat, z = -(u : Int) := ⟨z.natAbs, by omega⟩
    rw [rn_neg _ hd]
    have := key u
    rw [Int.neg_mul]
    omega
theorem mean_half {L : List (List Int)} {k : Nat} (h0 : L.length ≠ 0) : 2 * (mean16 L k * (L.length : Int) - colS k L).natAbs ≤ L.length := by
  have := rn_half16 (colS k L) L.length h0
  unfold mean16
  omega
theorem mean_one (l : List Int) (k : Nat) : mean16 [l] k = l[k]?.getD 0 := by
  unfold mean16
  show rn (l[k]?.getD 0 + 0) 1 = _
  rw [Int.add_zero, rn_one]
end Go.Proofs.Ytpephogadljncaa

/-
  The contracts of the third reference: power, Pow, Root, Up.
-/
namespace Go.Proofs.Ytpephogadljncaa
open Go.RowKit
theorem num_none (w : World) (A : Option Addr) (c : Nat) : Num w A 0 c 0 := by
  unfold Num
  rw [limbs_zero]
  exact Lim.nil _ _ _ _
theorem blen_len {x m : Nat} (h : (limbs x).length ≤ m) : blen x ≤ 64 * m := by
  refine blen_le ?_
  have := lt_of_limbs_length h
  rw [B64_pow2] at this
  exact this
theorem limbs_two_pow {i m : Nat} (h : i < 64 * m) : (limbs (2 ^ i)).length ≤ m := by
  refine limbs_length_le ?_
  rw [B64_pow2]
  exact (Nat.pow_lt_pow_iff_right (by omega)).2 h

theorem len_iroot {x k m : Nat} (h1 : 1 ≤ k) (hx : (limbs x).length ≤ m) : (limbs (iroot k x)).length ≤ m := Nat.le_trans (limbs_length_mono (iroot_le x (by omega))) hx
theorem len_uroot {x k m : Nat} (h1 : 1 ≤ k) (hx : (limbs x).length ≤ m) : (limbs (uroot k x)).length ≤ m := Nat.le_trans (limbs_length_mono (uroot_le_self x (by omega))) hx
theorem len_irootp {x k m : Nat} (h1 : 1 ≤ k) (hx : (limbs x).length ≤ m) : (limbs (iroot k x ^ k)).length ≤ m := Nat.le_trans (limbs_length_mono (iroot_pow x (by omega))) hx

end Go.Proofs.Ytpephogadljncaa

/-
  Rows of rows of integers; the contract of the sixteenth reference's Squares, Norm.
-/
namespace Go.Proofs.Ytpephogadljncaa
set_option maxRecDepth 100000
open Go.RowKit
set_option linter.unusedVariables false
set_option linter.unusedSimpArgs false

/-- The slice value '.slice A n c' holds the rows L. -/
def RR (w : World) (A : Option Addr) (n c : Nat) (L : List (List Int)) : Prop :=
  n = L.length ∧ n ≤ c ∧ (0 < n → ∃ b off, A = some ⟨b, off, none⟩ ∧ b < w.heap.size ∧ ∀ j, j < n → ∃ A' n' c', w.cell? ⟨b, off + j, none⟩ = some (.slice A' n' c') ∧ IR w A' n' c' (L[j]?.getD []) ∧ (∀ z ∈ L[j]?.getD [], I64 z))
theorem RR.on {w w' : World} {A : Option Addr} {n c : Nat} {L : List (List Int)} (h : RR w A n c L) (hb : Below w.heap.size w w') : RR w' A n c L :=
  ⟨h.1, h.2.1, fun hn => by
    obtain ⟨b, off, e, hlt, hc⟩ := h.2.2 hn
    refine ⟨b, off, e, Nat.lt_of_lt_of_le hlt hb.size, fun j hj => ?_⟩
    obtain ⟨A', n', c', h1, h2, h3⟩ := hc j hj
    exact ⟨A', n', c', cK hb h1 hlt, h2.on hb, h3⟩⟩
theorem RR.some {w : World} {A : Option Addr} {n c : Nat} {L : List (List Int)} (h : RR w A n c L) (hn : 0 < n) : ∃ b off, A = some ⟨b, off, none⟩ ∧ b < w.heap.size := by
  obtain ⟨b, off, e, hlt, _⟩ := h.2.2 hn
  exact ⟨b, off, e, hlt⟩
theorem rr_at {w : World} {b off n c j : Nat} {L : List (List Int)} (h : RR w (some ⟨b, off, none⟩) n c L) (hj : j < n) : ∃ A' n' c', w.cell? ⟨b, off + j, none⟩ = some (.slice A' n' c') ∧ IR w A' n' c' (L[j]?.getD []) ∧ (∀ z ∈ L[j]?.getD [], I64 z) := by
  obtain ⟨b', off', e, _, hc⟩ := h.2.2 (by omega)
  injection e with e
  injection e with e1 e2
  subst e1 e2
  exact hc j hj
theorem ir_cell16 {w : World} {b off n c j : Nat} {l : List Int} (h : IR w (some ⟨b, off, none⟩) n c l) (hj : j < n) : w.cell? ⟨b, off + j, none⟩ = some (.int .i64 (l[j]?.getD 0)) := by
  obtain ⟨b', off', e, hlt, hc⟩ := h.2.2 (by omega)
  injection e with e
  injection e with e1 e2
  subst e1 e2
  exact hc j hj
theorem ir_some16 {w : World} {A : Option Addr} {n c : Nat} {l : List Int} (h : IR w A n c l) (hn : 0 < n) : ∃ b off, A = some ⟨b, off, none⟩ ∧ b < w.heap.size := by
  obtain ⟨b, off, e, hlt, hc⟩ := h.2.2 hn
  exact ⟨b, off, e, hlt⟩
theorem i64_of_mem {L : List Int} (h : ∀ z ∈ L, I64 z) {j : Nat} (hj : j < L.length) : I64 (L[j]?.getD 0) := by
  rw [List.getElem?_eq_getElem hj]
  exact h _ (List.getElem_mem hj)
theorem field16 (b : Bool) (A : Option Addr) (n c : Nat) (w : World) : Sem.run Try.prog (Instr.field 29 (.agg #[.bool b, .slice A n c]) 1) w = .ok (.slice A n c) w := by rfl
attribute [local go_sem] field16
theorem mem_at16 {α : Type} {L : List α} {d : α} {j : Nat} (h : j < L.length) : L[j]?.getD d ∈ L := by rw [List.getElem?_eq_getElem h]; exact List.getElem_mem h
theorem sq1_le {x : Int} (h : I64 x) : sq1 x ≤ 85070591730234615865843651857942052864 := by
  have h1 : x.natAbs ≤ 9223372036854775808 := by unfold I64 at h; omega
  exact Nat.mul_le_mul h1 h1
theorem sqS_le {l : List Int} (h : ∀ z ∈ l, I64 z) : sqS l ≤ l.length * 85070591730234615865843651857942052864 := by
  induction l with
  | nil => exact Nat.zero_le _
  | cons x l ih =>
    have h1 := sq1_le (h x (by simp))
    have h2 := ih (fun z hz => h z (by simp [hz]))
    show sq1 x + sqS l ≤ _
    rw [List.length_cons, Nat.add_mul]
    omega
theorem sqA_le {m : Nat} : ∀ {L : List (List Int)}, (∀ l ∈ L, l.length ≤ m ∧ ∀ z ∈ l, I64 z) → sqA L ≤ L.length * (m * 85070591730234615865843651857942052864)
  | [], _ => Nat.zero_le _
  | l :: L, h => by
    have h1 := sqA_le (m := m) (L := L) (fun x hx => h x (by simp [hx]))
    obtain ⟨h2, h3⟩ := h l (by simp)
    have h4 := sqS_le h3
    have h5 : l.length * 85070591730234615865843651857942052864 ≤ m * 85070591730234615865843651857942052864 := Nat.mul_le_mul_right _ h2
    show sqS l + sqA L ≤ _
    rw [List.length_cons, Nat.add_mul]
    omega
theorem len_few16 {x : Nat} (h : x < 1000000 * 85070591730234615865843651857942052864) : (limbs x).length ≤ 3 := limbs_length_le (Nat.lt_of_lt_of_le h (by decide))

theorem sqP_len {L : List (List Int)} (hn : L.length ≤ 100) (hl : ∀ l ∈ L, l.length ≤ 100 ∧ ∀ z ∈ l, I64 z) {i k : Nat} : (limbs (sqA (L.take i) + sqS ((L[i]?.getD []).take k))).length ≤ 3 := by
  have h1 := sqA_le (m := 100) (L := L.take i) (fun l hx => hl l (List.mem_of_mem_take hx))
  have h2 : (L.take i).length ≤ 100 := by rw [List.length_take]; omega
  have h3 : (L.take i).length * (100 * 85070591730234615865843651857942052864) ≤ 100 * (100 * 85070591730234615865843651857942052864) := Nat.mul_le_mul_right _ h2
  have hr : (L[i]?.getD []).length ≤ 100 ∧ ∀ z ∈ L[i]?.getD [], I64 z := by
    rcases Nat.lt_or_ge i L.length with h | h
    · rw [List.getElem?_eq_getElem h]; exact hl _ (List.getElem_mem h)
    · rw [List.getElem?_eq_none h]; exact ⟨by simp, fun z hz => by simp at hz⟩
  have h4 := sqS_le (l := (L[i]?.getD []).take k) (fun z hz => hr.2 z (List.mem_of_mem_take hz))
  have h5 : ((L[i]?.getD []).take k).length ≤ 100 := by rw [List.length_take]; omega
  have h6 : ((L[i]?.getD []).take k).length * 85070591730234615865843651857942052864 ≤ 100 * 85070591730234615865843651857942052864 := Nat.mul_le_mul_right _ h5
  exact len_few16 (by omega)

set_option maxHeartbeats 8000000 in
theorem rSquares16_N {w : World} {A : Option Addr} {n c : Nat} {L : List (List Int)} (hA : RR w A n c L) (hn : n ≤ 100) (hl : ∀ l ∈ L, l.length ≤ 100 ∧ ∀ z ∈ l, I64 z) : Calls Try.prog 15 #[.slice A n c] w (GotN w (sqA L)) := by
  have hln := hA.1
  have HP : Hid (∀ i k, (limbs (sqA (L.take i) + sqS ((L[i]?.getD []).take k))).length ≤ 3) := Lib.hid (fun i k => sqP_len (by omega) hl)
  have HS : Hid (∀ i k, k < (L[i]?.getD []).length → sqA (L.take i) + sqS ((L[i]?.getD []).take k) + sq1 ((L[i]?.getD [])[k]?.getD 0) = sqA (L.take i) + sqS ((L[i]?.getD []).take (k + 1))) := Lib.hid (fun i k h => by rw [sqS_take _ _ h]; omega)
  have HE : Hid (∀ i, i < L.length → sqA (L.take i) + sqS ((L[i]?.getD []).take (L[i]?.getD []).length) = sqA (L.take (i + 1)) + sqS ((L[i + 1]?.getD []).take 0)) := Lib.hid (fun i h => by rw [sqA_take _ _ h, List.take_of_length_le (Nat.le_refl _), List.take_zero]; show _ = sqA (L.take i) + sqS (L[i]?.getD []) + 0; omega)
  have HF : Hid (sqA (L.take n) + sqS ((L[n]?.getD []).take 0) = sqA L) := Lib.hid (by rw [hln, List.take_of_length_le (Nat.le_refl _), List.take_zero]; show sqA L + 0 = _; omega)
  have H0 : Hid (sqA (L.take 0) + sqS ((L[0]?.getD []).take 0) = 0) := Lib.hid (by rw [List.take_zero, List.take_zero]; rfl)
  obtain ⟨S, eS⟩ : ∃ S : Nat → Nat → Nat, (fun i k => sqA (L.take i) + sqS ((L[i]?.getD []).take k)) = S := ⟨_, rfl⟩
  have HP2 : Hid (∀ i k, (limbs (S i k)).length ≤ 3) := Lib.hid (fun i k => by rw [← eS]; exact HP.out i k)
  have HS2 : Hid (∀ i k, k < (L[i]?.getD []).length → S i k + sq1 ((L[i]?.getD [])[k]?.getD 0) = S i (k + 1)) := Lib.hid (fun i k h => by rw [← eS]; exact HS.out i k h)
  have HE2 : Hid (∀ i, i < L.length → S i (L[i]?.getD []).length = S (i + 1) 0) := Lib.hid (fun i h => by rw [← eS]; exact HE.out i h)
  have HF2 : Hid (S n 0 = sqA L) := Lib.hid (by rw [← eS]; exact HF.out)
  have H02 : Hid (S 0 0 = 0) := Lib.hid (by rw [← eS]; exact H0.out)
  clear HP HS HE HF H0 eS
  rw [← HF2.out]
  have HN := Lib.hid hn
  have HLN := Lib.hid hln
  have HL := Lib.hid hl
  have HAV := Lib.hid hA
  have b0 : Below w.heap.size w (w.alloc (.cells #[] 43)) := (Below.refl _ w).alloc (Nat.le_refl _) _
  have HB0 := Lib.hid b0
  clear hln hl hA hn b0
  go_enter Try.func15, Try.ntmps15
  go_wp2_with fail
  go_loopw [3, 4] (fun sv iv wr => ∃ (i : Nat) (As : Option Addr) (ns cs : Nat), i ≤ n ∧ iv = .int .i64 (i : Int) ∧ sv = .slice As ns cs ∧ Num wr As ns cs (S i 0) ∧ Below w.heap.size w wr) (fun _ iv _ => n - (intOf iv).toNat)
  case atStart => exact ⟨0, _, _, _, by omega, rfl, rfl, by rw [H02.out]; exact num_nil _ _ _, HB0.out⟩
  case round =>
    obtain ⟨i, As, ns, cs, hi, rfl, rfl, hs, hbl⟩ := hrel
    by_cases hlt : i < n
    · have hA := HAV.out.on hbl
      obtain ⟨b, off, rfl, hb⟩ := hA.some (by omega)
      obtain ⟨A', n', c', hc, hR, hz⟩ := rr_at hA hlt
      have hE := HE2.out i (by rw [← HLN.out]; exact hlt)
      have hrl := hR.1
      rw [← hrl] at hE
      have hr100 : n' ≤ 100 := by rw [hrl]; exact (HL.out _ (mem_at16 (by rw [← HLN.out]; exact hlt))).1
      have k3 : IntKind.i64.wrap ((i : Int) + 1) = ((i + 1 : Nat) : Int) := by have := HN.out; rw [IntWalk.i64_in _ (by omega)]; omega
      have jl : (i : Int) < (n : Int) := by omega
      have HE3 := Lib.hid hE
      have HC := Lib.hid hc
      have HR := Lib.hid hR
      have HZ := Lib.hid hz
      have HBL := Lib.hid hbl
      have HBB := Lib.hid hb
      have HSV := Lib.hid hs
      have HRL := Lib.hid hrl
      clear hE hR hz hbl hb hs hrl hA
      go_wp2_with fail
      go_loopw [3, 5] (fun sv kv wq => ∃ (k : Nat) (Aq : Option Addr) (nq cq : Nat), k ≤ n' ∧ kv = .int .i64 (k : Int) ∧ sv = .slice Aq nq cq ∧ Num wq Aq nq cq (S i k) ∧ Below wr.heap.size wr wq) (fun _ kv _ => n' - (intOf kv).toNat)
      case atStart => exact ⟨0, _, _, _, by omega, rfl, rfl, HSV.out, Below.refl _ _⟩
      case round =>
       obtain ⟨k, Aq, nq, cq, hk, rfl, rfl, hq, hb2⟩ := hrel
       have hbl := HBL.out.trans (hb2.mono HBL.out.size)
       have hc2 := (hb2.cell (p := ⟨b, off + i, none⟩) HBB.out).trans HC.out
       have hb1 := Nat.lt_of_lt_of_le HBB.out hb2.size
       by_cases hlt2 : k < n'
       · have hR := HR.out.on hb2
         obtain ⟨b2, o2, rfl, hb3⟩ := ir_some16 hR (by omega)
         have h1 := ir_cell16 hR hlt2
         have hx6 := i64_of_mem HZ.out (j := k) (by rw [← HRL.out]; exact hlt2)
         have hS := HS2.out i k (by rw [← HRL.out]; exact hlt2)
         have hl1 := HP2.out i k
         obtain ⟨x, ex⟩ : ∃ x, (L[i]?.getD [])[k]?.getD 0 = x := ⟨_, rfl⟩
         rw [ex] at h1 hx6 hS
         have CO := fun W : World => rzof_N W x hx6
         have HXL := Lib.hid (len_one hx6.abs)
         have HX2 := Lib.hid (limbs_length_mul (len_one hx6.abs) (len_one hx6.abs))
         have k4 : IntKind.i64.wrap ((k : Int) + 1) = ((k + 1 : Nat) : Int) := by rw [IntWalk.i64_in _ (by omega)]; omega
         have jl2 : (k : Int) < (n' : Int) := by omega
         have HS3 := Lib.hid hS
         have HL1 := Lib.hid hl1
         have HB2 := Lib.hid hb2
         clear hR hx6 hS hl1 ex hbl hb2
         go_wp2_with fail
         refine (CO _).mono ?_
         rintro e w2 ⟨bz, Az, nz, cz, rfl, hz, b_⟩
         replace hq := hq.on b_
         have hB := HB2.out.trans (b_.mono HB2.out.size)
         have hz1 := hz.1
         clear hz b_
         go_wp2_with fail
         refine (rmul_N hz1 hz1 (Nat.le_trans HXL.out (by omega)) (Nat.le_trans HXL.out (by omega))).mono ?_
         rintro e w3 ⟨Ap, np, cp, rfl, hp, b_⟩
         replace hq := hq.on b_
         replace hB := bK hB b_
         clear b_ hz1
         go_wp2_with fail
         refine (radd_N hq hp (Nat.le_trans HL1.out (by omega)) (Nat.le_trans HX2.out (by omega))).mono ?_
         rintro e w4 ⟨At, nt, ct, rfl, ht, b_⟩
         have HT : Hid (Num w4 At nt ct (S i (k + 1))) := Lib.hid (by rw [← HS3.out]; exact ht)
         have HBB2 := Lib.hid (hB.trans (b_.mono hB.size))
         clear b_ hq hp ht hB
         go_wp2_with fail
         go_roundw
         case rel => exact ⟨k + 1, _, _, _, by omega, by go_num, rfl, HT.out, HBB2.out⟩
         case measure => simp [intOf] <;> omega
       · obtain rfl : k = n' := by omega
         rw [HE3.out] at hq
         have HQ := Lib.hid hq
         have HBl := Lib.hid hbl
         clear hq hbl
         go_wp2_with fail
         go_roundw
         case rel => exact ⟨i + 1, _, _, _, by omega, by go_num, rfl, HQ.out, HBl.out⟩
         case measure => simp [intOf] <;> omega
    · obtain rfl : i = n := by omega
      go_wp2_with fail
      go_ret
      exact ⟨_, _, _, rfl, hs, hbl⟩

end Go.Proofs.Ytpephogadljncaa

/-
  Rows of rows of int64 that came in, with how they are read: the form's reach bounds their lengths.
-/
namespace Go.Proofs.Ytpephogadljncaa
set_option maxRecDepth 100000
open Go.ChangeShapes Go.WideShapes Go.ChangeAt Go.RowKit Go.Joins Go.Deep
set_option linter.unusedVariables false

theorem weightsAll_mem {H : Type} {P : Program} {e : TypeId} : ∀ {ds : List (DataW H)} {d : DataW H}, d ∈ ds → ∀ n ∈ d.weights P e, n ∈ DataW.weightsAll P e ds
  | d0 :: ds, d, hd, n, hn => by
    simp only [DataW.weightsAll, List.mem_append]
    rcases List.mem_cons.1 hd with e | e
    · exact Or.inl (by rw [← e]; exact hn)
    · exact Or.inr (weightsAll_mem e n hn)
/-- Rows of rows that are read are as long as the form's reach lets them be. -/
def RdR {H : Type} (n : Nat) (L : List (List Int)) (d : DataW H) : Prop := (∀ x ∈ d.weights Try.prog 22, x ≤ reachBytes) → n ≤ 17592186044416 ∧ ∀ l ∈ L, l.length ≤ 17592186044416
theorem reach_47 : reachBytes = 140737488351232 := by decide
section
variable {H : Type} {enc : TypeId × Value → H} {W : World} {base : Nat} {held : Bool} {v : Value} {y : DataW H × List MemPlace} {n : Nat}
theorem trod_i64q (h : DataW.trod enc Try.prog W base (fun _ => true) held n 31 [v] = some y) :
    ∃ (a : Option Addr) (len cap : Nat) (l : List Int), v = .slice a len cap ∧ IR W a len cap l ∧ (∀ x ∈ l, I64 x) ∧ Read cap y.1 := by
  obtain ⟨a', l', c', L, e, hI, _, hi⟩ := trod_i64s h
  subst e
  refine ⟨_, _, _, L, rfl, hI, hi, ?_⟩
  rcases open_ints Try.underlying31 Try.underlying2 (by kernel_rfl) h with ⟨hcs, _⟩ | ⟨x, l, c, zs, hcs, _, hl, hm, hz, hy, hcell, hwz⟩
  · injection hcs with hcs _
    injection hcs with _ _ e3
    exact .inl e3
  · injection hcs with hcs _
    injection hcs with _ _ e3
    have hz2 : zs.length = c := by simpa using hz
    refine .inr ⟨_, _, congrArg Prod.fst hy, ?_⟩
    simp only [lits, List.length_map, List.length_take, List.length_drop]
    omega
theorem rr_nil (w : World) (A : Option Addr) (c : Nat) : RR w A 0 c [] := ⟨rfl, Nat.zero_le _, fun h => absurd h (by omega)⟩
theorem trod_rows (h : DataW.trod enc Try.prog W base (fun _ => true) held n 22 [v] = some y) :
    ∃ (A : Option Addr) (n c : Nat) (L : List (List Int)), v = .slice A n c ∧ RR W A n c L ∧ RdR n L y.1 := by
  have k1 : Try.prog.cellsOf 31 = 1 := by kernel_rfl
  have e24 : Try.prog.bytesOf 31 = 24 := by kernel_rfl
  have e8 : Try.prog.bytesOf 2 = 8 := by kernel_rfl
  rcases open_slice Try.underlying22 h with ⟨hcs, _⟩ | ⟨a, len, cap, m, n, D, Pl, hcs, _, hl, hm, hmm, hy, hx⟩
  · injection hcs with hcs _
    exact ⟨none, 0, 0, [], hcs, rr_nil _ _ _, fun _ => ⟨by omega, fun l hl => by simp at hl⟩⟩
  · injection hcs with hcs _
    have hm2 : m = cap := by simpa using hmm
    rw [k1] at hx
    refine ⟨some a, len, cap, ?_⟩
    have hw : ∀ {L : List (List Int)}, (∀ l ∈ L, ∃ i, i < len ∧ ∃ c', l.length ≤ c' ∧ Read c' (D i)) → RdR len L y.1 := by
      intro L hL hr
      have hy1 : y.1 = .slice ((List.range len).map D) ((List.range (m - len)).map fun j => D (len + j)) := congrArg Prod.fst hy
      rw [hy1] at hr
      have hr2 := reach_47
      simp only [DataW.weights, Try.underlying22, List.mem_cons, List.mem_append] at hr
      refine ⟨?_, fun l hlm => ?_⟩
      · have := hr _ (Or.inl rfl)
        rw [e24, List.length_map, List.length_range] at this
        omega
      · obtain ⟨i, hi, c', hlc, hrd⟩ := hL l hlm
        rcases hrd with e | ⟨es, ss, e, hes⟩
        · omega
        · have h1 : (es.length + ss.length) * Try.prog.bytesOf 2 ∈ (D i).weights Try.prog 31 := by rw [e]; simp [DataW.weights, Try.underlying31]
          have h2 := hr _ (Or.inr (Or.inl (weightsAll_mem (List.mem_map.2 ⟨i, List.mem_range.2 hi, rfl⟩) _ h1)))
          rw [e8, hes] at h2
          omega
    rcases Nat.eq_zero_or_pos len with h0 | h0
    · subst h0
      exact ⟨[], hcs, rr_nil _ _ _, hw (fun l hl => by simp at hl)⟩
    · have hsp : a.spot = none := by
        obtain ⟨cs', h1, h2⟩ := hx 0 (by omega)
        obtain ⟨_, hlen, hc⟩ := World.cells?_some h1
        obtain ⟨u, rfl⟩ : ∃ u, cs' = [u] := List.length_eq_one_iff.1 hlen
        have h3 : W.cell? ((a.add (0 * 1)).add 0) = some u := hc 0 (by omega)
        simpa [Addr.add] using World.cell?_spot h3
      obtain ⟨b, off, spot⟩ := a
      have hsp2 : spot = none := hsp
      subst hsp2
      have cell : ∀ i, i < len → ∃ l : List Int, ∃ A' n' c', W.cell? ⟨b, off + i, none⟩ = some (.slice A' n' c') ∧ IR W A' n' c' l ∧ (∀ z ∈ l, I64 z) ∧ Read c' (D i) := fun i hi => by
        obtain ⟨cs', h1, h2⟩ := hx i (by omega)
        obtain ⟨_, hlen, hc⟩ := World.cells?_some h1
        obtain ⟨u, rfl⟩ : ∃ u, cs' = [u] := List.length_eq_one_iff.1 hlen
        obtain ⟨A', n', c', l, rfl, hI, hi6, hrd⟩ := trod_i64q h2
        refine ⟨l, A', n', c', ?_, hI, hi6, hrd⟩
        have := hc 0 (by omega)
        rw [addr_add, addr_add] at this
        simpa using this
      let f : Nat → List Int := fun i => if h : i < len then (cell i h).choose else []
      have hf : ∀ i, (h : i < len) → ∃ A' n' c', W.cell? ⟨b, off + i, none⟩ = some (.slice A' n' c') ∧ IR W A' n' c' (f i) ∧ (∀ z ∈ f i, I64 z) ∧ Read c' (D i) := fun i h => by
        show ∃ A' n' c', W.cell? ⟨b, off + i, none⟩ = some (.slice A' n' c') ∧ IR W A' n' c' (if h : i < len then (cell i h).choose else []) ∧ (∀ z ∈ (if h : i < len then (cell i h).choose else []), I64 z) ∧ Read c' (D i)
        rw [dif_pos h]
        exact (cell i h).choose_spec
      refine ⟨(List.range len).map f, hcs, ⟨by simp, hl, fun _ => ⟨b, off, rfl, ?_, fun j hj => ?_⟩⟩, hw (fun l hl => ?_)⟩
      · obtain ⟨A', n', c', hc, _⟩ := hf 0 h0
        exact World.block_lt_of_cell? W _ hc
      · rw [List.getElem?_map, List.getElem?_range hj]
        obtain ⟨A', n', c', hc, hI, hi6, _⟩ := hf j hj
        exact ⟨A', n', c', hc, hI, hi6⟩
      · obtain ⟨i, hi, rfl⟩ := List.mem_map.1 hl
        have hi2 := List.mem_range.1 hi
        obtain ⟨A', n', c', _, hI, _, hrd⟩ := hf i hi2
        exact ⟨i, hi2, c', by have := hI.1; have := hI.2.1; omega, hrd⟩
end
theorem open_i64ss {H : Type} {enc : TypeId × Value → H} {W : World} {base b0 : Nat} {held : Bool} {r : Reach} {v : Value} {d : DataW H} {p : List MemPlace} (hv : Value.okWide Try.prog W r b0 22 v) (h : DataW.Trod enc Try.prog W base (fun _ => true) held 22 v d p) :
    ∃ (A : Option Addr) (n c : Nat) (L : List (List Int)), v = .slice A n c ∧ RR W A n c L ∧ RdR n L d := by
  obtain ⟨a, len, cap, rfl⟩ := okWide_slice Try.underlying22 hv
  obtain ⟨fuel, hf⟩ := h
  exact trod_rows hf
theorem rows_reach {H : Type} {ts : List TypeId} {ds : List (DataW H)} (h : (DataW.weightsEach Try.prog ts ds).all (· ≤ reachBytes) = true) {j : Nat} {d : DataW H} {n : Nat} {L : List (List Int)} (ht : ts[j]? = some 22) (hd : ds[j]? = some d) (hr : RdR n L d) : n ≤ 2305843009213693952 ∧ ∀ l ∈ L, l.length ≤ 2305843009213693952 := by
  obtain ⟨h1, h2⟩ := hr (fun x hx => by have := List.all_eq_true.1 h _ (DataW.weights_mem_each ht hd x hx); simpa using this)
  exact ⟨by omega, fun l hl => by have := h2 l hl; omega⟩
end Go.Proofs.Ytpephogadljncaa

/-
  The contract of the landed clip's walk, over what is done with a number.
-/
namespace Go.Proofs.Ytpephogadljncaa
set_option maxRecDepth 100000
open Go.RowKit
set_option linter.unusedVariables false
set_option linter.unusedSimpArgs false

/-- Rows whose slices are told: they lie where they lay. -/
def RRs (V : Nat → Option Addr) (N C : Nat → Nat) (W : World) (A : Option Addr) (n : Nat) (L : List (List Int)) : Prop :=
  0 < n → ∃ b off, A = some ⟨b, off, none⟩ ∧ ∀ j, j < n → W.cell? ⟨b, off + j, none⟩ = some (.slice (V j) (N j) (C j)) ∧ IR W (V j) (N j) (C j) (L[j]?.getD [])
theorem rrs_of {w : World} {A : Option Addr} {n c : Nat} {L : List (List Int)} (h : RR w A n c L) : ∃ V N C, ∀ W, Below w.heap.size w W → RRs V N C W A n L := by
  rcases Nat.eq_zero_or_pos n with e | e
  · exact ⟨fun _ => none, fun _ => 0, fun _ => 0, fun W _ hp => absurd hp (by omega)⟩
  · obtain ⟨b, off, rfl, hlt, hc⟩ := h.2.2 e
    have h2 : ∀ j, ∃ x : Option Addr × Nat × Nat, j < n → w.cell? ⟨b, off + j, none⟩ = some (.slice x.1 x.2.1 x.2.2) ∧ IR w x.1 x.2.1 x.2.2 (L[j]?.getD []) := fun j => by
      by_cases hj : j < n
      · obtain ⟨A', n', c', h1, h2, _⟩ := hc j hj
        exact ⟨(A', n', c'), fun _ => ⟨h1, h2⟩⟩
      · exact ⟨(none, 0, 0), fun h => absurd h hj⟩
    refine ⟨fun j => (Classical.choose (h2 j)).1, fun j => (Classical.choose (h2 j)).2.1, fun j => (Classical.choose (h2 j)).2.2, fun W hW _ => ⟨b, off, rfl, fun j hj => ?_⟩⟩
    have h3 := Classical.choose_spec (h2 j) hj
    exact ⟨(hW.cell (p := ⟨b, off + j, none⟩) hlt).trans h3.1, h3.2.on hW⟩

set_option maxHeartbeats 8000000 in
theorem kWalk_S {w : World} {V : Nat → Option Addr} {N C : Nat → Nat} {A : Option Addr} {n c F : Nat} {caps : Array Value} {L : List (List Int)} (I : Nat → Nat → World → Prop) (eg : ∀ args W, (callFunc F args).run Try.prog W = .ok (.enter F args) W) (hln : n = L.length) (hn : n ≤ 1000) (hl : ∀ l ∈ L, l.length ≤ 1000)
    (hI : ∀ i k W, I i k W → RRs V N C W A n L) (h0 : I 0 0 w)
    (hs : ∀ W i k, i < n → k < (L[i]?.getD []).length → I i k W → Calls Try.prog F (#[.int .i64 (k : Int), .int .i64 ((L[i]?.getD [])[k]?.getD 0)] ++ caps) W (fun e W' => e = .returned (.tuple #[]) ∧ I i (k + 1) W'))
    (hr : ∀ W i, i < n → I i (L[i]?.getD []).length W → I (i + 1) 0 W) :
    Calls Try.prog 26 #[.slice A n c, .func (.func F) #[] caps] w (fun e W' => e = .returned (.tuple #[]) ∧ I n 0 W') := by
  have HN := Lib.hid hn
  have HLN := Lib.hid hln
  have HL := Lib.hid hl
  have HI := Lib.hid hI
  have H0 := Lib.hid h0
  have HS := Lib.hid hs
  have HR := Lib.hid hr
  clear hn hln hl hI h0 hs hr
  go_enter Try.func26, Try.ntmps26
  go_wp2_with fail
  go_loopw [10] (fun iv wr => ∃ i : Nat, i ≤ n ∧ iv = .int .i64 (i : Int) ∧ Hid (I i 0 wr)) (fun iv _ => n - (intOf iv).toNat)
  case atStart => exact ⟨0, by omega, rfl, H0⟩
  case round =>
    clear H0
    obtain ⟨i, hi, rfl, hJ⟩ := hrel
    by_cases hlt : i < n
    · obtain ⟨b, off, rfl, hrs⟩ := HI.out _ _ _ hJ.out (by omega)
      obtain ⟨hcw, hR⟩ := hrs i hlt
      obtain ⟨A', eA'⟩ : ∃ A', V i = A' := ⟨_, rfl⟩
      obtain ⟨n', en'⟩ : ∃ n', N i = n' := ⟨_, rfl⟩
      obtain ⟨c', ec'⟩ : ∃ c', C i = c' := ⟨_, rfl⟩
      have HR2 : Hid (∀ k W, I i k W → IR W A' n' c' (L[i]?.getD [])) := Lib.hid (fun k W h => by obtain ⟨_, _, _, h2⟩ := HI.out _ _ _ h (by omega); have h3 := (h2 i hlt).2; rw [eA', en', ec'] at h3; exact h3)
      rw [eA', en', ec'] at hcw hR
      have hrl := hR.1
      have hr100 : n' ≤ 1000 := by rw [hrl]; exact HL.out _ (mem_at16 (by rw [← HLN.out]; exact hlt))
      have k3 : IntKind.i64.wrap ((i : Int) + 1) = ((i + 1 : Nat) : Int) := by have := HN.out; rw [IntWalk.i64_in _ (by omega)]; omega
      have jl : (i : Int) < (n : Int) := by omega
      have HRL := Lib.hid hrl
      clear hR hrl hrs eA' en' ec'
      go_wp2_with fail
      go_loopw [16] (fun kv wq => ∃ k : Nat, k ≤ n' ∧ kv = .int .i64 (k : Int) ∧ Hid (I i k wq)) (fun kv _ => n' - (intOf kv).toNat)
      case atStart => exact ⟨0, by omega, rfl, hJ⟩
      case round =>
        clear hcw hJ
        obtain ⟨k, hk, rfl, hJ⟩ := hrel
        by_cases hlt2 : k < n'
        · have hR := HR2.out _ _ hJ.out
          obtain ⟨b2, o2, rfl, hb3⟩ := ir_some16 hR (by omega)
          have h1 := ir_cell16 hR hlt2
          have CF := HS.out _ i k hlt (by rw [← HRL.out]; exact hlt2) hJ.out
          obtain ⟨x, ex⟩ : ∃ x, (L[i]?.getD [])[k]?.getD 0 = x := ⟨_, rfl⟩
          rw [ex] at h1 CF
          have k4 : IntKind.i64.wrap ((k : Int) + 1) = ((k + 1 : Nat) : Int) := by rw [IntWalk.i64_in _ (by omega)]; omega
          have jl2 : (k : Int) < (n' : Int) := by omega
          clear hR ex hJ
          go_wp2_with fail
          refine CF.mono ?_
          rintro e w2 ⟨rfl, hJ2⟩
          have HJ2 := Lib.hid hJ2
          clear hJ2
          go_wp2_with fail
          go_roundw
          case rel => exact ⟨k + 1, by omega, by go_num, HJ2⟩
          case measure => simp [intOf] <;> omega
        · obtain rfl : k = n' := by omega
          have HJ2 : Hid (I (i + 1) 0 _) := Lib.hid (HR.out _ i hlt (by rw [← HRL.out]; exact hJ.out))
          clear hJ
          go_wp2_with fail
          go_roundw
          case rel => exact ⟨i + 1, by omega, by go_num, HJ2⟩
          case measure => simp [intOf] <;> omega
    · obtain rfl : i = n := by omega
      go_wp2_with fail
      go_end0
      exact ⟨rfl, hJ.out⟩

theorem kWalk_N {w0 w : World} {A : Option Addr} {n c F : Nat} {caps : Array Value} {L : List (List Int)} (I : Nat → Nat → World → Prop) (eg : ∀ args W, (callFunc F args).run Try.prog W = .ok (.enter F args) W) (hA : RR w0 A n c L) (hn : n ≤ 1000) (hl : ∀ l ∈ L, l.length ≤ 1000)
    (hI : ∀ i k W, I i k W → Below w0.heap.size w0 W) (h0 : I 0 0 w)
    (hs : ∀ W i k, i < n → k < (L[i]?.getD []).length → I i k W → Calls Try.prog F (#[.int .i64 (k : Int), .int .i64 ((L[i]?.getD [])[k]?.getD 0)] ++ caps) W (fun e W' => e = .returned (.tuple #[]) ∧ I i (k + 1) W'))
    (hr : ∀ W i, i < n → I i (L[i]?.getD []).length W → I (i + 1) 0 W) :
    Calls Try.prog 26 #[.slice A n c, .func (.func F) #[] caps] w (fun e W' => e = .returned (.tuple #[]) ∧ I n 0 W') := by
  obtain ⟨V, N, C, h⟩ := rrs_of hA
  exact kWalk_S I eg hA.1 hn hl (fun i k W hW => h W (hI i k W hW)) h0 hs hr

end Go.Proofs.Ytpephogadljncaa

/-
  The contracts of the sixteenth reference: Norm, Clip.
-/
namespace Go.Proofs.Ytpephogadljncaa
open Go.RowKit
set_option linter.unusedVariables false
set_option linter.unusedSimpArgs false
attribute [local go_sem] field16

theorem sqA_len {L : List (List Int)} (hn : L.length ≤ 100) (hl : ∀ l ∈ L, l.length ≤ 100 ∧ ∀ z ∈ l, I64 z) : (limbs (sqA L)).length ≤ 3 := by
  have h1 := sqA_le hl
  have h3 : L.length * (100 * 85070591730234615865843651857942052864) ≤ 100 * (100 * 85070591730234615865843651857942052864) := Nat.mul_le_mul_right _ hn
  exact len_few16 (by omega)

end Go.Proofs.Ytpephogadljncaa

/-
  Plain arithmetic: Newton's guesses of a root go down to it, and stay no less than it.
-/
namespace Go.Proofs.Ytpephogadljncaa

theorem twice_le (r x : Nat) : 2 * (r * x) ≤ r * r + x * x := by
  rcases Nat.le_total r x with h | h
  · obtain ⟨d, rfl⟩ := Nat.le.dest h
    simp only [Nat.mul_add, Nat.add_mul, Nat.mul_comm d r]
    have := Nat.zero_le (d * d)
    omega
  · obtain ⟨d, rfl⟩ := Nat.le.dest h
    simp only [Nat.mul_add, Nat.add_mul, Nat.mul_comm d x]
    have := Nat.zero_le (d * d)
    omega

/-- The mean of j times x and once r to the power of j + 1 by x to the power of j is no less than r. -/
theorem means (r x j : Nat) : (j + 1) * (r * x ^ j) ≤ r ^ (j + 1) + j * (x * x ^ j) := by
  induction j with
  | zero => simp
  | succ j ih =>
    have h1 := Nat.mul_le_mul_left ((j + 1) * x ^ j) (twice_le r x)
    have h2 := Nat.mul_le_mul_left r ih
    rw [Nat.pow_succ r (j + 1), Nat.pow_succ x j]
    generalize x ^ j = X at *
    generalize r ^ (j + 1) = R at *
    have e1 : (j + 1) * X * (2 * (r * x)) = 2 * (j * (r * x * X)) + 2 * (r * x * X) := by
      rw [show (j + 1) * X * (2 * (r * x)) = 2 * ((j + 1) * (r * x * X)) by ac_rfl, Nat.add_mul, Nat.one_mul, Nat.mul_add]
    have e2 : (j + 1) * X * (r * r + x * x) = (j + 1) * (r * r * X) + (j + 1) * (x * x * X) := by
      rw [Nat.mul_add]; congr 1 <;> ac_rfl
    have e3 : r * ((j + 1) * (r * X)) = (j + 1) * (r * r * X) := by ac_rfl
    have e4 : r * (R + j * (x * X)) = R * r + j * (r * x * X) := by
      rw [Nat.mul_add]; congr 1 <;> ac_rfl
    have e5 : (j + 1 + 1) * (r * (X * x)) = j * (r * x * X) + 2 * (r * x * X) := by
      rw [show r * (X * x) = r * x * X by ac_rfl, Nat.add_assoc, Nat.add_mul]
    have e6 : (j + 1) * (x * (X * x)) = (j + 1) * (x * x * X) := by
      congr 1; ac_rfl
    rw [e1, e2] at h1
    rw [e3, e4] at h2
    rw [e5, e6]
    omega

/-- The next guess. -/
def newton (a k x : Nat) : Nat := (x * (k - 1) + a / x ^ (k - 1)) / k

theorem newton_ge {a k r x : Nat} (h1 : 1 ≤ k) (hr : r ^ k ≤ a) (hx : x ≠ 0) : r ≤ newton a k x := by
  obtain ⟨j, rfl⟩ : ∃ j, k = j + 1 := ⟨k - 1, by omega⟩
  unfold newton
  rw [Nat.add_sub_cancel, Nat.le_div_iff_mul_le (by omega)]
  have hX : 0 < x ^ j := Nat.pow_pos (by omega)
  have hq : a < x ^ j * (a / x ^ j + 1) := by
    have h2 := Nat.div_add_mod a (x ^ j)
    have h3 := Nat.mod_lt a hX
    rw [Nat.mul_add, Nat.mul_one]
    omega
  have hm := means r x j
  refine Nat.le_of_lt_succ (Nat.lt_of_mul_lt_mul_right (a := x ^ j) ?_)
  generalize a / x ^ j = q at *
  generalize x ^ j = X at *
  have e1 : r * (j + 1) * X = (j + 1) * (r * X) := by ac_rfl
  have e2 : (x * j + q).succ * X = j * (x * X) + (q + 1) * X := by
    rw [Nat.succ_eq_add_one, Nat.add_assoc, Nat.add_mul]; congr 1; ac_rfl
  rw [e1, e2]
  have e3 : X * (q + 1) = (q + 1) * X := Nat.mul_comm _ _
  omega

theorem newton_lt {a k x : Nat} (h1 : 1 ≤ k) (hx : x ≠ 0) (h : a < x ^ k) : newton a k x < x := by
  obtain ⟨j, rfl⟩ : ∃ j, k = j + 1 := ⟨k - 1, by omega⟩
  unfold newton
  rw [Nat.add_sub_cancel, Nat.div_lt_iff_lt_mul (by omega)]
  have hX : 0 < x ^ j := Nat.pow_pos (by omega)
  have hq : a / x ^ j < x := by
    rw [Nat.div_lt_iff_lt_mul hX, Nat.mul_comm, ← Nat.pow_succ]
    exact h
  rw [Nat.mul_add, Nat.mul_one]
  omega

theorem newton_end {a k x : Nat} (h1 : 1 ≤ k) (hx : x ≠ 0) (h : x ^ k ≤ a) : x ≤ newton a k x := by
  obtain ⟨j, rfl⟩ : ∃ j, k = j + 1 := ⟨k - 1, by omega⟩
  unfold newton
  rw [Nat.add_sub_cancel, Nat.le_div_iff_mul_le (by omega)]
  have hX : 0 < x ^ j := Nat.pow_pos (by omega)
  have hq : x ≤ a / x ^ j := by
    rw [Nat.le_div_iff_mul_le hX, Nat.mul_comm, ← Nat.pow_succ]
    exact h
  rw [Nat.mul_add, Nat.mul_one]
  omega

/-- A power of 2 that is above the root. -/
theorem above_root {a k b : Nat} (h1 : 1 ≤ k) (ha : a < 2 ^ b) : a < (2 ^ ((b + k - 1) / k)) ^ k := by
  refine Nat.lt_of_lt_of_le ha ?_
  rw [← Nat.pow_mul]
  refine Nat.pow_le_pow_right (by omega) ?_
  have h2 := Nat.div_add_mod (b + k - 1) k
  have h3 := Nat.mod_lt (b + k - 1) (show k > 0 by omega)
  rw [Nat.mul_comm] at h2
  omega

theorem above_bits {k b m : Nat} (h1 : 1 ≤ k) (hk : k ≤ 16) (hb : b ≤ m) : (b + k - 1) / k * k ≤ m + 15 := by
  have := Nat.div_mul_le_self (b + k - 1) k
  omega

end Go.Proofs.Ytpephogadljncaa

/-
  The contracts of root's inner functions: isExponent, power, quotient, above.
-/
namespace Go.Proofs.Ytpephogadljncaa
set_option maxRecDepth 100000
set_option maxHeartbeats 4000000
open Go.RowKit

theorem isExp_yes (w : World) (k : Nat) (h1 : 1 ≤ k) (hk : k ≤ 16) : Calls Try.prog 52 #[.int .i64 (k : Int)] w fun e w' => e = .returned (.bool true) ∧ w = w' := by
  have d1 : decide (1 ≤ (k : Int)) = true := by simp; omega
  have d2 : decide ((k : Int) ≤ 16) = true := by simp; omega
  go_enter Try.func52, Try.ntmps52
  go_wp2
  go_ret
  exact ⟨rfl, rfl⟩
theorem isExp_no (w : World) (k : Int) (hk : k < 1 ∨ 16 < k) : Calls Try.prog 52 #[.int .i64 k] w fun e w' => e = .returned (.bool false) ∧ w = w' := by
  rcases hk with h | h
  · have d1 : decide (1 ≤ k) = false := by simp; omega
    go_enter Try.func52, Try.ntmps52
    go_wp2
    go_ret
    exact ⟨rfl, rfl⟩
  · have d1 : decide (1 ≤ k) = true := by simp; omega
    have d2 : decide (k ≤ 16) = false := by simp; omega
    go_enter Try.func52, Try.ntmps52
    go_wp2
    go_ret
    exact ⟨rfl, rfl⟩

theorem tpow_N {w : World} {A : Option Addr} {n c x k : Nat} (ha : Num w A n c x) (hx : (limbs x).length ≤ 1000) (hk : k ≤ 16) : Calls Try.prog 54 #[.slice A n c, .int .i64 (k : Int)] w (GotN w (x ^ k)) := by
  go_enter Try.func54, Try.ntmps54
  go_wp2_with fail
  refine (of_N w 1 B64_gt).mono ?_
  rintro e w1 ⟨A1, n1, c1, rfl, h1, b1⟩
  go_wp2_with fail
  go_loopw [5, 8] (fun ov iv wr => ∃ (j : Nat) (A' : Option Addr) (n' c' : Nat), j ≤ k ∧ iv = .int .i64 (j : Int) ∧ ov = .slice A' n' c' ∧ Num wr A' n' c' (x ^ j) ∧ Below w.heap.size w wr) (fun _ iv _ => k - (intOf iv).toNat)
  case atStart => exact ⟨0, A1, n1, c1, Nat.zero_le _, rfl, rfl, h1, b1⟩
  case round =>
    obtain ⟨j, A', n', c', hj, rfl, rfl, hN, hb⟩ := hrel
    have hl := limbs_length_pow hx j
    have ha' := ha.on hb
    by_cases hlt : j < k
    · have hl2 : (limbs (x ^ j)).length ≤ 1000000 := by omega
      clear hl
      go_wp2_with fail
      refine (mul_N hN ha' (by omega) (by omega)).mono ?_
      rintro e w2 ⟨A2, n2, c2, rfl, h2, b2⟩
      rw [← Nat.pow_succ] at h2
      go_wp2_with fail
      go_roundw
      case rel => exact ⟨j + 1, A2, n2, c2, by omega, by go_num, rfl, h2, hb.trans (b2.mono hb.size)⟩
      case measure => simp [intOf]; omega
    · obtain rfl : j = k := by omega
      clear hl
      go_wp2_with fail
      go_ret
      exact ⟨_, _, _, rfl, hN, hb⟩

theorem quot_N {w : World} {A B : Option Addr} {n c m d x y : Nat} (ha : Num w A n c x) (hb : Num w B m d y) (hx : (limbs x).length ≤ 300) (hy : (limbs y).length ≤ 300) (hy0 : y ≠ 0) : Calls Try.prog 68 #[.slice A n c, .slice B m d] w (GotN w (x / y)) := by
  go_enter Try.func68, Try.ntmps68
  go_wp2_with fail
  refine (ddiv_N ha hb hx hy hy0).mono ?_
  rintro e w1 ⟨A1, n1, c1, B1, m1, d1, rfl, h3, h4, b1⟩
  go_wp2_with fail
  go_ret
  exact ⟨_, _, _, rfl, h3, b1⟩

theorem wrap_one {r : Nat} (hr : r < 64) : IntKind.u64.wrap (2 ^ r) = (pw r : Int) := by
  have h1 := pw_lt hr
  rw [IntKind.wrap_u64]
  have e : ((2 : Int) ^ r) = ((pw r : Nat) : Int) := by unfold pw; simp
  rw [e]
  unfold B64 at h1
  omega

theorem above_N {w : World} {A : Option Addr} {n c x k : Nat} (ha : Num w A n c x) (hx : (limbs x).length ≤ 298) (h1 : 1 ≤ k) (hk : k ≤ 16) : Calls Try.prog 70 #[.slice A n c, .int .i64 (k : Int)] w (GotN w (2 ^ ((blen x + k - 1) / k))) := by
  obtain ⟨i0, hi, hz0, hz1, hz2⟩ := info_parts info24
  have hk0 : ¬ k = 0 := by omega
  obtain ⟨b, hb⟩ : ∃ b, blen x = b := ⟨_, rfl⟩
  have hb2 : b ≤ 19072 := by
    rw [← hb]
    exact blen_len hx
  obtain ⟨q, hq⟩ : ∃ q, q = (b + k - 1) / k := ⟨_, rfl⟩
  have hq2 : q ≤ 19200 := by rw [hq]; exact Nat.le_trans (Nat.div_le_self _ _) (by omega)
  obtain ⟨s, hs⟩ : ∃ s, s = q / 64 := ⟨_, rfl⟩
  obtain ⟨r, hr⟩ : ∃ r, r = q % 64 := ⟨_, rfl⟩
  have hr2 : r < 64 := by omega
  have hs2 : s ≤ 300 := by omega
  have hw' : ((b : Int) + (k : Int) - 1) / (k : Int) = (q : Int) := by
    rw [hq, Int.natCast_ediv]
    congr 1
    omega
  have hws' : (q : Int) / 64 = (s : Int) := by omega
  have hwr' : (q : Int) % 64 = (r : Int) := by omega
  have HONE := Lib.hid (wrap_one hr2)
  have hl : (List.replicate (s + 1) 0).set s (pw r) = limbs (2 ^ q) := by rw [hs, hr]; exact pw_limbs q
  rw [hb, ← hq]
  have HB := Lib.hid hb
  have HLL := Lib.hid hl
  clear hb hq hs hr hl
  go_enter Try.func70, Try.ntmps70
  go_wp2_with fail
  refine (bits_N ha (by omega)).mono ?_
  rintro e w1 ⟨rfl, b1⟩
  rw [HB.out]
  obtain ⟨t, ht⟩ : ∃ t, w1.heap.size = t := ⟨_, rfl⟩
  have HS := Lib.hid ht
  clear ht
  have hr3 : (0 : Int) ≤ (r : Int) := by omega
  have hr4 : (r : Int) ≤ 64 := by omega
  go_wp2_with (at_make; refine wpList_make_full _ rfl _ _ 26 rfl t 43 i0 (.int .u64 0) 1 Try.underlying26 hi hz0 hz1 .i64 .i64 _ _ (s + 1) rfl rfl (by omega) (by omega) (by rw [hz2]; omega) (by unfold maxLen; omega) (by rw [HS.out]; omega) ?_; intro w2 hown1 hgrow1; rw [made_zeros] at hown1; rw [HS.out] at hown1 ⊢; have hf := hown1.frozenAt s; have hc : w2.cell? ⟨t, s, none⟩ = some (.int .u64 0) := (by rw [hown1.cellAt s (by omega)]; simp [encD]); have hst := Lib.hid (hown1.stored s (.int .u64 (pw r : Int))); have HO := Lib.hid hown1; clear hown1)
  go_ret
  rw [HONE.out]
  have hrow := hst.out.1
  rw [show (Value.int IntKind.u64 (pw r : Int)) = encD (pw r) from rfl, ← List.map_set, HLL.out] at hrow
  refine ⟨_, _, _, rfl, Lim.of_own hrow (limbs_dig _), ?_⟩
  have hsz := HS.out
  exact b1.trans ((((Below.refl t w1).grown hgrow1 (by omega) (fun k h => by cases h)).grown hst.out.2 (by have := hgrow1.size; omega) (fun q e => by cases e; exact Nat.le_refl _)).mono (by have := b1.size; omega))

end Go.Proofs.Ytpephogadljncaa

/-
  The contracts of root's guesses: the closure, goDown, rootOf; and of Root, Up, Pow.
-/
namespace Go.Proofs.Ytpephogadljncaa
set_option maxRecDepth 100000
open Go.RowKit

theorem undrew3 {W w' : World} (hb : Below W.drew.heap.size W.drew w') : Below W.heap.size W w' := ⟨hb.os, hb.tape, hb.output, hb.size, hb.block⟩

set_option maxHeartbeats 4000000 in
theorem newt_N {w : World} {A X : Option Addr} {n c m d a x k ba bk : Nat} (hcA : w.cell? ⟨ba, 0, none⟩ = some (.slice A n c)) (hcK : w.cell? ⟨bk, 0, none⟩ = some (.int .i64 (k : Int))) (hba : ba < w.heap.size) (hbk : bk < w.heap.size) (ha : Num w A n c a) (hx : Num w X m d x) (la : (limbs a).length ≤ 299) (lx : (limbs x).length ≤ 299) (lp : (limbs (x ^ (k - 1))).length ≤ 300) (h1 : 1 ≤ k) (hk : k ≤ 16) (hx0 : x ≠ 0) (ls : (limbs (x * (k - 1) + a / x ^ (k - 1))).length ≤ 300) :
    Calls Try.prog 67 #[.slice X m d, .pointer (some ⟨ba, 0, none⟩), .pointer (some ⟨bk, 0, none⟩)] w (GotN w (newton a k x)) := by
  unfold newton
  obtain ⟨j, hj⟩ : ∃ j, k - 1 = j := ⟨_, rfl⟩
  rw [hj] at lp ls ⊢
  have hji : (k : Int) - 1 = (j : Int) := by omega
  have hjv : IntKind.i64.wrap (j : Int) = (j : Int) := IntWalk.i64_in _ (by omega)
  have hjw : IntKind.u64.wrap (j : Int) = (j : Int) := by rw [IntKind.wrap_u64]; omega
  have hkw : IntKind.u64.wrap (k : Int) = (k : Int) := by rw [IntKind.wrap_u64]; omega
  have hjk : j ≤ 16 := by omega
  have hp0 : x ^ j ≠ 0 := by have : 0 < x ^ j := Nat.pow_pos (by omega); omega
  have hk0 : k ≠ 0 := by omega
  have lq : (limbs (a / x ^ j)).length ≤ 300 := Nat.le_trans (limbs_length_mono (Nat.div_le_self _ _)) (by omega)
  have lk : (limbs k).length ≤ 1 := limbs_length_le (by rw [Nat.pow_one]; unfold B64; omega)
  have ljj : (limbs j).length ≤ 1 := limbs_length_le (by rw [Nat.pow_one]; unfold B64; omega)
  have lxj : (limbs (x * j)).length ≤ 300 := limbs_length_mul lx ljj
  have hkB : k < B64 := by unfold B64; omega
  have hjB : j < B64 := by unfold B64; omega
  have hD := below_drewN (Below.refl w.heap.size w) 1
  have haD : Num w.drew A n c a := ha.on hD
  have hxD : Num w.drew X m d x := hx.on hD
  clear hj hD
  go_enter Try.func67, Try.ntmps67
  go_wp2_with fail
  go_region_held3 (fun w' => w'.cell? ⟨ba, 0, none⟩ = some (.slice A n c) ∧ w'.cell? ⟨bk, 0, none⟩ = some (.int .i64 (k : Int)))
    (first | go_keep | exact ⟨cK qq hcA hba, cK qq hcK hbk⟩)
    (first
      | (go_at_call 54; (with_reducible refine (tpow_N hxD (by omega) hjk).mono ?_); rintro e v1 ⟨A1, n1, c1, rfl, h3, q1⟩; have qq := undrew3 q1; replace haD := haD.on q1; clear q1)
      | (go_at_call 68; (with_reducible refine (quot_N haD h3 (by omega) lp hp0).mono ?_); rintro e v2 ⟨A2, n2, c2, rfl, h4, q2⟩; replace qq := bK qq q2; clear q2))
  have hxV := hx.on qq
  have f2 := cK qq hcK hbk
  have hbk2 := Nat.lt_of_lt_of_le hbk qq.size
  clear haD hxD h3
  go_wp2_with fail
  refine (of_N _ j hjB).mono ?_
  rintro e v3 ⟨A3, n3, c3, rfl, h5, q3⟩
  replace hxV := hxV.on q3
  replace h4 := h4.on q3
  replace f2 := cK q3 f2 hbk2
  replace hbk2 := lK q3 hbk2
  replace qq := bK qq q3
  clear q3
  go_wp2_with fail
  refine (mul_N hxV h5 (by omega) (by omega)).mono ?_
  rintro e v4 ⟨A4, n4, c4, rfl, h6, q4⟩
  replace h4 := h4.on q4
  replace f2 := cK q4 f2 hbk2
  replace hbk2 := lK q4 hbk2
  replace qq := bK qq q4
  clear q4 h5
  go_wp2_with fail
  refine (add_N h6 h4 (by omega) (by omega)).mono ?_
  rintro e v5 ⟨A5, n5, c5, rfl, h7, q5⟩
  replace f2 := cK q5 f2 hbk2
  replace hbk2 := lK q5 hbk2
  replace qq := bK qq q5
  clear q5 h6 h4
  go_wp2_with fail
  refine (of_N _ k hkB).mono ?_
  rintro e v6 ⟨A6, n6, c6, rfl, h8, q6⟩
  replace h7 := h7.on q6
  replace qq := bK qq q6
  clear q6
  go_wp2_with fail
  refine (quot_N h7 h8 ls (by omega) hk0).mono ?_
  rintro e v7 ⟨A7, n7, c7, rfl, h9, q7⟩
  go_wp2_with fail
  go_ret
  exact ⟨_, _, _, rfl, h9, qq.trans (q7.mono qq.size)⟩

end Go.Proofs.Ytpephogadljncaa

/-
  The contracts of root's guesses that go down, and of rootOf.
-/
namespace Go.Proofs.Ytpephogadljncaa
set_option maxRecDepth 100000
open Go.RowKit

theorem sum_len {a x k : Nat} (la : (limbs a).length ≤ 100) (lx : (limbs x).length ≤ 110) (hk : k ≤ 16) (p : Nat) : (limbs (x * (k - 1) + a / p)).length ≤ 300 := by
  have h1 : (limbs (k - 1)).length ≤ 1 := limbs_length_le (by rw [Nat.pow_one]; unfold B64; omega)
  have h2 := limbs_length_mul lx h1
  have h3 : (limbs (a / p)).length ≤ 111 := Nat.le_trans (limbs_length_mono (Nat.div_le_self _ _)) (by omega)
  have h4 := limbs_length_add (k := 111) h2 h3
  omega

theorem iroot_ne {k a : Nat} (h1 : 1 ≤ k) (ha : a ≠ 0) : iroot k a ≠ 0 := by
  have := (le_iroot (k := k) (x := a) (r := 1) (by omega)).2 (by rw [Nat.one_pow]; omega)
  omega

set_option maxHeartbeats 4000000 in
theorem down_N {w : World} {A X : Option Addr} {n c m d a x0 k ba bk : Nat} (hcA : w.cell? ⟨ba, 0, none⟩ = some (.slice A n c)) (hcK : w.cell? ⟨bk, 0, none⟩ = some (.int .i64 (k : Int))) (hba : ba < w.heap.size) (hbk : bk < w.heap.size) (ha : Num w A n c a) (hx : Num w X m d x0) (la : (limbs a).length ≤ 100) (lx : (limbs x0).length ≤ 110) (lp : (limbs (x0 ^ (k - 1))).length ≤ 300) (h1 : 1 ≤ k) (hk : k ≤ 16) (ha0 : a ≠ 0) (hx0 : iroot k a ≤ x0) :
    Calls Try.prog 69 #[.slice X m d, .func (.func 67) #[] #[.pointer (some ⟨ba, 0, none⟩), .pointer (some ⟨bk, 0, none⟩)]] w (GotN w (iroot k a)) := by
  have hr0 := iroot_ne h1 ha0
  have hk0 : k ≠ 0 := by omega
  go_enter Try.func69, Try.ntmps69
  go_wp2_with fail
  go_loopg [0] x0 (fun g v wr => ∃ (X' : Option Addr) (m' d' : Nat), v = .slice X' m' d' ∧ Num wr X' m' d' g ∧ iroot k a ≤ g ∧ g ≤ x0 ∧ Below w.heap.size w wr)
  case atStart => exact ⟨X, m, d, rfl, hx, hx0, Nat.le_refl _, Below.refl _ _⟩
  case round =>
    obtain ⟨X', m', d', rfl, hN, hge, hle, hB⟩ := hrel
    have hg0 : gk ≠ 0 := by omega
    have lg : (limbs gk).length ≤ 110 := Nat.le_trans (limbs_length_mono hle) lx
    have lgp : (limbs (gk ^ (k - 1))).length ≤ 300 := Nat.le_trans (limbs_length_mono (pow_le _ hle)) lp
    have hn1 := newton_ge h1 (iroot_pow a hk0) hg0
    have lnn : (limbs (newton a k gk)).length ≤ 400 := by
      unfold newton
      exact Nat.le_trans (limbs_length_mono (Nat.div_le_self _ _)) (Nat.le_trans (sum_len la lg hk _) (by omega))
    have hcall := Lib.hid (newt_N (cK hB hcA hba) (cK hB hcK hbk) (Nat.lt_of_lt_of_le hba hB.size) (Nat.lt_of_lt_of_le hbk hB.size) (ha.on hB) hN (by omega) (by omega) lgp h1 hk hg0 (sum_len la lg hk _))
    clear lgp
    rcases Nat.lt_or_ge a (gk ^ k) with hlt | hge2
    · have hl2 := newton_lt h1 hg0 hlt
      obtain ⟨y, hy⟩ : ∃ y, newton a k gk = y := ⟨_, rfl⟩
      rw [hy] at hcall hn1 hl2 lnn
      clear hy hlt
      go_wp2_with fail
      refine hcall.out.mono ?_
      rintro e w1 ⟨A1, n1, c1, rfl, h3, b1⟩
      have hN1 := hN.on b1
      go_wp2_with fail
      refine (cmp_N h3 hN1 (by omega) (by omega)).mono ?_
      rintro e w2 ⟨rfl, b2⟩
      rw [cmpN_lt hl2]
      go_wp2_with fail
      go_roundg y
      case rel => exact ⟨_, _, _, rfl, h3.on b2, hn1, by omega, hB.trans ((b1.trans (b2.mono b1.size)).mono hB.size)⟩
      case measure => exact hl2
    · have hl2 := newton_end h1 hg0 hge2
      have he : iroot k a = gk := by have := (le_iroot hk0).2 hge2; omega
      rw [he]
      have hz : cmpN (newton a k gk) gk = 0 ∨ cmpN (newton a k gk) gk = 1 := by
        rcases Nat.lt_or_ge gk (newton a k gk) with h | h
        · exact .inr (cmpN_gt h)
        · exact .inl (cmpN_zero.2 (by omega))
      obtain ⟨y, hy⟩ : ∃ y, newton a k gk = y := ⟨_, rfl⟩
      rw [hy] at hcall hn1 hl2 lnn hz
      obtain ⟨z, hzz⟩ : ∃ z, cmpN y gk = z := ⟨_, rfl⟩
      rw [hzz] at hz
      have HZ := Lib.hid hzz
      have HC := Lib.hid hz
      clear hy hge2 he hz hzz
      go_wp2_with fail
      refine hcall.out.mono ?_
      rintro e w1 ⟨A1, n1, c1, rfl, h3, b1⟩
      have hN1 := hN.on b1
      go_wp2_with fail
      refine (cmp_N h3 hN1 (by omega) (by omega)).mono ?_
      rintro e w2 ⟨rfl, b2⟩
      rw [HZ.out]
      rcases HC.out with rfl | rfl
      all_goals
        go_wp2_with fail
        go_ret
        exact ⟨_, _, _, rfl, hN1.on b2, hB.trans ((b1.trans (b2.mono b1.size)).mono hB.size)⟩

end Go.Proofs.Ytpephogadljncaa

/-
  The contract of rootOf.
-/
namespace Go.Proofs.Ytpephogadljncaa
set_option maxRecDepth 100000
open Go.RowKit

theorem iroot_zero {k : Nat} (hk : k ≠ 0) : iroot k 0 = 0 := iroot_eq hk (by rw [Nat.zero_pow (by omega)]; omega) (by rw [Nat.zero_add, Nat.one_pow]; omega)

set_option maxHeartbeats 4000000 in
theorem rootof_N {w : World} {A : Option Addr} {n c x k : Nat} (ha : Num w A n c x) (hx : (limbs x).length ≤ 100) (h1 : 1 ≤ k) (hk : k ≤ 16) : Calls Try.prog 53 #[.slice A n c, .int .i64 (k : Int)] w (GotN w (iroot k x)) := by
  have hk0 : k ≠ 0 := by omega
  obtain ⟨W, hW⟩ : ∃ W, (w.alloc (.cells #[.slice A n c] 26)).alloc (.cells #[.int .i64 (k : Int)] 3) = W := ⟨_, rfl⟩
  obtain ⟨t, ht⟩ : ∃ t, w.heap.size = t := ⟨_, rfl⟩
  have hBW : Below t w W := by
    rw [← hW, ← ht]
    exact ((Below.refl _ w).alloc (Nat.le_refl _) _).alloc (by simp) _
  have hS : W.heap.size = t + 2 := by rw [← hW, ← ht]; simp
  have c1 : W.cell? ⟨t, 0, none⟩ = some (.slice A n c) := by rw [← hW, ← ht]; simp [go_sem]
  have c2 : W.cell? ⟨t + 1, 0, none⟩ = some (.int .i64 (k : Int)) := by rw [← hW, ← ht]; simp [go_sem]
  have f1 : W.frozen? ⟨t, 0, none⟩ = false := by rw [← hW, ← ht]; simp [go_sem]
  have haW := ha.on (by rw [ht]; exact hBW)
  have hshr0 : Calls Try.prog 66 #[.slice A n c, .int .i64 0] W (GotP W (x / 2 ^ 0) 0) := dshr_N (k := 0) haW (by omega) (by omega)
  have hshr := Lib.hid hshr0
  have HT := Lib.hid ht
  have HS := Lib.hid hS
  unfold GotN
  go_enter Try.func53, Try.ntmps53
  clear hS hshr0
  go_wp2_with fail
  clear hW ht
  refine hshr.out.mono ?_
  rintro e w1 ⟨A1, n1, m1, rfl, h3, b1⟩
  rw [Nat.pow_zero, Nat.div_one] at h3
  have d1 := (b1.cell (p := ⟨t, 0, none⟩) (by show t < _; rw [HS.out]; omega)).trans c1
  have d2 := (b1.cell (p := ⟨t + 1, 0, none⟩) (by show t + 1 < _; rw [HS.out]; omega)).trans c2
  have g1 := (b1.frozen (p := ⟨t, 0, none⟩) (by show t < _; rw [HS.out]; omega)).trans f1
  have hs1 : t + 2 ≤ w1.heap.size := by have := b1.size; rw [HS.out] at this; exact this
  have hB1 : Below t w w1 := hBW.trans (b1.mono (by rw [HS.out]; omega))
  clear c1 c2 f1 hBW b1 hshr haW
  have hl3 := h3.len
  by_cases hx0 : x = 0
  · subst hx0
    rw [limbs_zero] at hl3
    simp at hl3
    subst hl3
    go_wp2_with fail
    go_ret
    exact ⟨none, 0, 0, rfl, by rw [iroot_zero hk0]; exact num_none _ _ _, by rw [HT.out]; exact hB1.setCell (Nat.le_refl _) _⟩
  · have hn0 : ((n1 : Int) == 0) = false := by have := limbs_ne_nil hx0; simp; omega
    obtain ⟨w2, hw2⟩ : ∃ w2, w1.setCell ⟨t, 0, none⟩ (.slice A1 n1 m1) = w2 := ⟨_, rfl⟩
    have h3' : Num w2 A1 n1 m1 x := by rw [← hw2]; exact h3.set_other d1 (fun _ _ e => by cases e)
    have e1 : w2.cell? ⟨t, 0, none⟩ = some (.slice A1 n1 m1) := by rw [← hw2]; exact World.cell?_setCell_same _ _ _ d1
    have e2 : w2.cell? ⟨t + 1, 0, none⟩ = some (.int .i64 (k : Int)) := by rw [← hw2, World.cell?_setCell_other (h := fun e => by injection e with e3; omega)]; exact d2
    have hs2 : t + 2 ≤ w2.heap.size := by rw [← hw2]; simp; exact hs1
    have hB2 : Below t w w2 := by rw [← hw2]; exact hB1.setCell (Nat.le_refl _) _
    obtain ⟨q, hq⟩ : ∃ q, (blen x + k - 1) / k = q := ⟨_, rfl⟩
    have hbl := blen_len hx
    have hqk : q * k ≤ 6400 + 15 := by rw [← hq]; exact above_bits h1 hk (by omega)
    have hq1 : q ≤ 6415 := Nat.le_trans (Nat.le_mul_of_pos_right q (by omega)) hqk
    have hqp : q * (k - 1) ≤ 6415 := Nat.le_trans (Nat.mul_le_mul_left q (by omega)) hqk
    have lq : (limbs (2 ^ q)).length ≤ 110 := Nat.le_trans (limbs_two_pow (m := 110) (by omega)) (Nat.le_refl _)
    have lp : (limbs ((2 ^ q) ^ (k - 1))).length ≤ 300 := by rw [← Nat.pow_mul]; exact limbs_two_pow (m := 300) (by omega)
    have hge : iroot k x ≤ 2 ^ q := by
      rcases Nat.lt_or_ge (2 ^ q) (iroot k x) with h | h
      · have h5 := above_root (a := x) h1 (lt_blen x)
        rw [hq] at h5
        have h6 := pow_lt hk0 h
        have h7 := iroot_pow x hk0
        omega
      · exact h
    have hab : Calls Try.prog 70 #[.slice A1 n1 m1, .int .i64 (k : Int)] w2 (GotN w2 (2 ^ q)) := by rw [← hq]; exact above_N h3' (by omega) h1 hk
    have HAB := Lib.hid hab
    have HQ := Lib.hid hq
    clear hl3 hq h3 d2 hbl hqk hqp hab
    go_wp2_with fail
    clear d1
    refine HAB.out.mono ?_
    rintro e w3 ⟨A3, n3, c3, rfl, h4, b3⟩
    have hd := down_N ((b3.cell (p := ⟨t, 0, none⟩) (by show t < _; omega)).trans e1) ((b3.cell (p := ⟨t + 1, 0, none⟩) (by show t + 1 < _; omega)).trans e2) (Nat.lt_of_lt_of_le (show t < _ by omega) b3.size) (Nat.lt_of_lt_of_le (show t + 1 < _ by omega) b3.size) (h3'.on b3) h4 hx lq lp h1 hk hx0 hge
    have HD := Lib.hid hd
    have hB3 := hB2.trans (b3.mono (by omega))
    clear hd e1 e2 hw2
    go_wp2_with fail
    refine HD.out.mono ?_
    rintro e w4 ⟨A4, n4, c4, rfl, h5, b4⟩
    go_wp2_with fail
    go_ret
    exact ⟨_, _, _, rfl, h5, by rw [HT.out]; exact hB3.trans (b4.mono (by have := b3.size; omega))⟩

end Go.Proofs.Ytpephogadljncaa

/-
  The contracts of package root in one style, over numbers.
-/
namespace Go.Proofs.Ytpephogadljncaa
set_option maxRecDepth 100000
set_option maxHeartbeats 2000000
open Go.RowKit
theorem uroot_lt {k x : Nat} (h : iroot k x ^ k ≠ x) : uroot k x = iroot k x + 1 := by unfold uroot; rw [if_neg h]
theorem uroot_eq {k x : Nat} (h : iroot k x ^ k = x) : uroot k x = iroot k x := by unfold uroot; rw [if_pos h]

theorem up_N {w : World} {A : Option Addr} {n c x k : Nat} (ha : Num w A n c x) (hx : (limbs x).length ≤ 100) (h1 : 1 ≤ k) (hk : k ≤ 16) : Calls Try.prog 31 #[.slice A n c, .int .i64 (k : Int)] w (GotP w (uroot k x) 0) := by
  have hk0 : k ≠ 0 := by omega
  have hpw := iroot_pow x hk0
  have hrl : (limbs (iroot k x)).length ≤ 100 := Nat.le_trans (limbs_length_mono (iroot_le x hk0)) hx
  have hpl : (limbs (iroot k x ^ k)).length ≤ 100 := Nat.le_trans (limbs_length_mono hpw) hx
  by_cases he : iroot k x ^ k = x
  · have hz : cmpN (iroot k x ^ k) x = 0 := cmpN_zero.2 he
    have HU := Lib.hid (uroot_eq he)
    have HZ := Lib.hid hz
    clear he hz hpw
    go_enter Try.func31, Try.ntmps31
    go_wp2_with fail
    refine (isExp_yes _ k h1 hk).mono ?_
    rintro e w' ⟨rfl, rfl⟩
    go_wp2_with fail
    refine (rootof_N ha hx h1 hk).mono ?_
    rintro e w1 ⟨A1, n1, c1, rfl, hr, b1⟩
    have ha1 := ha.on b1
    go_wp2_with fail
    refine (tpow_N hr (by omega) hk).mono ?_
    rintro e w2 ⟨A2, n2, c2, rfl, hp, b2⟩
    have ha2 := ha1.on b2
    have hr2 := hr.on b2
    go_wp2_with fail
    refine (cmp_N hp ha2 (by omega) (by omega)).mono ?_
    rintro e w3 ⟨rfl, b3⟩
    rw [HZ.out]
    go_wp2_with fail
    go_ret2
    rw [HU.out]
    exact ⟨_, _, _, rfl, hr2.on b3, b1.trans ((b2.trans (b3.mono b2.size)).mono b1.size)⟩
  · have hz : cmpN (iroot k x ^ k) x = -1 := cmpN_lt (by omega)
    have HU := Lib.hid (uroot_lt he)
    have HZ := Lib.hid hz
    clear he hz hpw
    go_enter Try.func31, Try.ntmps31
    go_wp2_with fail
    refine (isExp_yes _ k h1 hk).mono ?_
    rintro e w' ⟨rfl, rfl⟩
    go_wp2_with fail
    refine (rootof_N ha hx h1 hk).mono ?_
    rintro e w1 ⟨A1, n1, c1, rfl, hr, b1⟩
    have ha1 := ha.on b1
    go_wp2_with fail
    refine (tpow_N hr (by omega) hk).mono ?_
    rintro e w2 ⟨A2, n2, c2, rfl, hp, b2⟩
    have ha2 := ha1.on b2
    have hr2 := hr.on b2
    go_wp2_with fail
    refine (cmp_N hp ha2 (by omega) (by omega)).mono ?_
    rintro e w3 ⟨rfl, b3⟩
    rw [HZ.out]
    have hr3 := hr2.on b3
    have b13 : Below w.heap.size w w3 := b1.trans ((b2.trans (b3.mono b2.size)).mono b1.size)
    go_wp2_with fail
    refine (of_N _ 1 B64_gt).mono ?_
    rintro e w4 ⟨A4, n4, c4, rfl, h4, b4⟩
    have hr4 := hr3.on b4
    go_wp2_with fail
    refine (add_N hr4 h4 (by omega) (by rw [limbs_one (by omega) B64_gt]; simp)).mono ?_
    rintro e w5 ⟨A5, n5, c5, rfl, h5, b5⟩
    go_wp2_with fail
    go_ret2
    rw [HU.out]
    exact ⟨_, _, _, rfl, h5, b13.trans ((b4.trans (b5.mono b4.size)).mono b13.size)⟩
theorem up_no (w : World) (A : Option Addr) (n c : Nat) (k : Int) (hk : k < 1 ∨ 16 < k) : Calls Try.prog 31 #[.slice A n c, .int .i64 k] w (GotV w (.tuple #[.slice none 0 0, .int .i64 1])) := by
  have HK := Lib.hid hk
  clear hk
  go_enter Try.func31, Try.ntmps31
  go_wp2_with fail
  refine (isExp_no _ k HK.out).mono ?_
  rintro e w' ⟨rfl, rfl⟩
  go_wp2_with fail
  go_ret2
  exact ⟨rfl, Below.refl _ _⟩
end Go.Proofs.Ytpephogadljncaa
