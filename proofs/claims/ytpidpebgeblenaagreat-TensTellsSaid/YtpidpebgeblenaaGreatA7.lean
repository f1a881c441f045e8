/-
  Several texts in one: K8, M11, C10, D10, B11, FrK, KB, FrT, KS, H7, H8, K9, B12.
-/
import Derived.Test.YtpidpebgeblenaaGreatA6
import Derived.Test.YtpidpebgeblenaaGreatA4
import Derived.Test.YtpidpebgeblenaaGreatA3
import Derived.Test.YtpidpebgeblenaaGreatA2
import Derived.Test.YtpidpebgeblenaaGreatA1
import Derived.Deep.Slices
import Derived.Deep.Strs

/-
  The contracts of the eighth reference: near, frac, Of, Rat.
-/
namespace Go.Proofs.YtpidpebgeblenaaGreat
set_option maxRecDepth 100000
set_option maxHeartbeats 8000000
open Go.RowKit
set_option linter.unusedVariables false
set_option linter.unusedSimpArgs false

/-- What is told of a whole number: itself, where 64 bits hold it; else 0 and ErrRange. -/
def nI (z : Int) : Int := if -9223372036854775808 ≤ z ∧ z ≤ 9223372036854775807 then z else 0
def nE (z : Int) : Int := if -9223372036854775808 ≤ z ∧ z ≤ 9223372036854775807 then 0 else 2
theorem nI_yes {z : Int} (h : I64 z) : nI z = z ∧ nE z = 0 := ⟨if_pos h, if_pos h⟩
theorem nI_no {z : Int} (h : ¬ I64 z) : nI z = 0 ∧ nE z = 2 := ⟨if_neg h, if_neg h⟩

theorem near_yes {w : World} {b0 : Bool} {A0 B0 : Option Addr} {n0 c0 m0 d0 : Nat} {x0 : Rat} (h0 : Rt w b0 A0 n0 c0 B0 m0 d0 x0) (s0 : Sz x0 15) {j : Int} (j0 : 0 ≤ j) (j1 : j ≤ 500) (hi : I64 (nea x0 j.toNat)) :
    Calls Tryz.prog 54 #[.agg #[.bool b0, .slice A0 n0 c0, .slice B0 m0 d0], .int .i64 j] w (GotV w (.tuple #[.int .i64 (nea x0 j.toNat), .int .i64 (0)])) := by
  have lz_ := nea_len s0 (show j.toNat ≤ 500 by omega)
  have cc := Below.refl w.heap.size w
  go_enter Tryz.func54, Tryz.ntmps54
  go_wp2_with fail
  generalize hv_ : w.alloc (.cells #[.bool b0, .slice A0 n0 c0, .slice B0 m0 d0] 83) = v1
  have bA : Below w.heap.size w v1 := by rw [← hv_]; exact ((Below.refl _ w).alloc (by simp) _)
  replace h0 := h0.on bA
  replace cc := bK cc bA
  clear bA
  obtain ⟨ka0, ka1, ka2⟩ : Cs3 v1 w.heap.size (.bool b0) (.slice A0 n0 c0) (.slice B0 m0 d0) := by simp [Cs3, ← hv_, go_sem]
  have kal : w.heap.size < v1.heap.size := by simp [← hv_] <;> omega
  clear hv_
  refine (rnear_N h0 s0 j0 j1).mono ?_
  rintro e w2 ⟨bz, Az, nz, cz, rfl, hz, b⟩
  replace h0 := h0.on b
  rewrite [cR b kal] at ka0 ka1 ka2
  replace kal := lK b kal
  replace cc := bK cc b
  clear b
  go_wp2_with fail
  generalize hv_ : w2.alloc (.cells #[.bool bz, .slice Az nz cz] 81) = v3
  have bA : Below w2.heap.size w2 v3 := by rw [← hv_]; exact below_one _ _
  replace h0 := h0.on bA
  replace hz := hz.on bA
  rewrite [cR bA kal] at ka0 ka1 ka2
  replace kal := lK bA kal
  replace cc := bK cc bA
  clear bA
  obtain ⟨zb0, zb1⟩ : Cs2 v3 w2.heap.size (.bool bz) (.slice Az nz cz) := by simp [Cs2, ← hv_, go_sem]
  have zbl : w2.heap.size < v3.heap.size := by simp [← hv_]
  clear hv_
  refine (rzint_yes hz hi).mono ?_
  rintro e w4 ⟨rfl, b⟩
  replace h0 := h0.on b
  replace hz := hz.on b
  rewrite [cR b kal] at ka0 ka1 ka2
  replace kal := lK b kal
  rewrite [cR b zbl] at zb0 zb1
  replace zbl := lK b zbl
  replace cc := bK cc b
  clear b
  go_wp2_with fail
  go_ret2
  exact ⟨rfl, cc⟩

theorem near_no {w : World} {b0 : Bool} {A0 B0 : Option Addr} {n0 c0 m0 d0 : Nat} {x0 : Rat} (h0 : Rt w b0 A0 n0 c0 B0 m0 d0 x0) (s0 : Sz x0 15) {j : Int} (j0 : 0 ≤ j) (j1 : j ≤ 500) (hi : ¬ I64 (nea x0 j.toNat)) :
    Calls Tryz.prog 54 #[.agg #[.bool b0, .slice A0 n0 c0, .slice B0 m0 d0], .int .i64 j] w (GotV w (.tuple #[.int .i64 (0), .int .i64 (2)])) := by
  have lz_ := nea_len s0 (show j.toNat ≤ 500 by omega)
  have cc := Below.refl w.heap.size w
  go_enter Tryz.func54, Tryz.ntmps54
  go_wp2_with fail
  generalize hv_ : w.alloc (.cells #[.bool b0, .slice A0 n0 c0, .slice B0 m0 d0] 83) = v1
  have bA : Below w.heap.size w v1 := by rw [← hv_]; exact ((Below.refl _ w).alloc (by simp) _)
  replace h0 := h0.on bA
  replace cc := bK cc bA
  clear bA
  obtain ⟨ka0, ka1, ka2⟩ : Cs3 v1 w.heap.size (.bool b0) (.slice A0 n0 c0) (.slice B0 m0 d0) := by simp [Cs3, ← hv_, go_sem]
  have kal : w.heap.size < v1.heap.size := by simp [← hv_] <;> omega
  clear hv_
  refine (rnear_N h0 s0 j0 j1).mono ?_
  rintro e w2 ⟨bz, Az, nz, cz, rfl, hz, b⟩
  replace h0 := h0.on b
  rewrite [cR b kal] at ka0 ka1 ka2
  replace kal := lK b kal
  replace cc := bK cc b
  clear b
  go_wp2_with fail
  generalize hv_ : w2.alloc (.cells #[.bool bz, .slice Az nz cz] 81) = v3
  have bA : Below w2.heap.size w2 v3 := by rw [← hv_]; exact below_one _ _
  replace h0 := h0.on bA
  replace hz := hz.on bA
  rewrite [cR bA kal] at ka0 ka1 ka2
  replace kal := lK bA kal
  replace cc := bK cc bA
  clear bA
  obtain ⟨zb0, zb1⟩ : Cs2 v3 w2.heap.size (.bool bz) (.slice Az nz cz) := by simp [Cs2, ← hv_, go_sem]
  have zbl : w2.heap.size < v3.heap.size := by simp [← hv_]
  clear hv_
  refine (rzint_no hz (Nat.le_trans lz_ (by omega)) hi).mono ?_
  rintro e w4 ⟨rfl, b⟩
  replace h0 := h0.on b
  replace hz := hz.on b
  rewrite [cR b kal] at ka0 ka1 ka2
  replace kal := lK b kal
  rewrite [cR b zbl] at zb0 zb1
  replace zbl := lK b zbl
  replace cc := bK cc b
  clear b
  go_wp2_with fail
  go_ret2
  exact ⟨rfl, cc⟩

theorem near_N {w : World} {b0 : Bool} {A0 B0 : Option Addr} {n0 c0 m0 d0 : Nat} {x0 : Rat} (h0 : Rt w b0 A0 n0 c0 B0 m0 d0 x0) (s0 : Sz x0 15) {j : Int} (j0 : 0 ≤ j) (j1 : j ≤ 500) :
    Calls Tryz.prog 54 #[.agg #[.bool b0, .slice A0 n0 c0, .slice B0 m0 d0], .int .i64 j] w (GotV w (.tuple #[.int .i64 (nI (nea x0 j.toNat)), .int .i64 (nE (nea x0 j.toNat))])) := by
  by_cases hi : I64 (nea x0 j.toNat)
  · rw [(nI_yes hi).1, (nI_yes hi).2]; exact near_yes h0 s0 j0 j1 hi
  · rw [(nI_no hi).1, (nI_no hi).2]; exact near_no h0 s0 j0 j1 hi









end Go.Proofs.YtpidpebgeblenaaGreat

/-
  Blocks: what is loaded of codes, how near it is, what is packed; numbers alone.
-/
namespace Go.Proofs.YtpidpebgeblenaaGreat
set_option linter.unusedVariables false
set_option linter.unusedSimpArgs false

theorem rn_nought {d : Nat} (hd : d ≠ 0) : rn 0 d = 0 := by have := rn_self 0 hd; rwa [Int.zero_mul] at this
/-- What a code is loaded as. -/
def ld (k s : Int) (c : Nat) : Int := rn (s * num10 k c) (den9 k).natAbs
theorem den9_nat {k : Int} (h : Kind9 k) : (((den9 k).natAbs : Nat) : Int) = den9 k ∧ (den9 k).natAbs ≠ 0 := by have := (facts10 h).2.2.2.2.2.2; omega
theorem num10_in {k : Int} (h : Kind9 k) {c : Nat} (hc : c ≤ 255) : -den9 k ≤ num10 k c ∧ num10 k c ≤ den9 k ∧ (sig9 k = false → 0 ≤ num10 k c) := by
  obtain ⟨_, h1, _, _, _, h2, h3⟩ := facts10 h
  have u : num10 k c ≤ den9 k := by
    rcases Nat.lt_or_ge c 255 with e | e
    · have := num10_up h e (Nat.le_refl _); omega
    · obtain rfl : c = 255 := by omega
      omega
  have l : num10 k 0 ≤ num10 k c := by
    rcases Nat.eq_zero_or_pos c with e | e
    · subst e; exact Int.le_refl _
    · exact Int.le_of_lt (num10_up h e hc)
  cases hs : sig9 k with
  | true => rw [hs] at h2; have := of_decide_eq_true (by simpa using h2 : decide (-den9 k ≤ num10 k 0) = true); exact ⟨by omega, u, fun h => by cases h⟩
  | false => rw [hs] at h2; have := of_decide_eq_true (by simpa using h2 : decide (num10 k 0 = 0) = true); exact ⟨by omega, u, fun _ => by omega⟩
theorem ld_in {k s : Int} (h : Kind9 k) (hs : 0 ≤ s) {c : Nat} (hc : c ≤ 255) : -s ≤ ld k s c ∧ ld k s c ≤ s ∧ (sig9 k = false → 0 ≤ ld k s c) := by
  obtain ⟨e, ne⟩ := den9_nat h
  obtain ⟨a, b, g⟩ := num10_in h hc
  unfold ld
  refine ⟨?_, ?_, fun hg => ?_⟩
  · have := rn_mono ne (n := -s * ((den9 k).natAbs : Int)) (m := s * num10 k c) (by rw [e, Int.neg_mul, ← Int.mul_neg]; exact Int.mul_le_mul_of_nonneg_left a hs)
    rwa [rn_self _ ne] at this
  · have := rn_mono ne (n := s * num10 k c) (m := s * ((den9 k).natAbs : Int)) (by rw [e]; exact Int.mul_le_mul_of_nonneg_left b hs)
    rwa [rn_self _ ne] at this
  · have := rn_mono ne (n := 0) (m := s * num10 k c) (Int.mul_nonneg hs (g hg))
    rwa [rn_nought ne] at this
theorem ld_i64 {k s : Int} (h : Kind9 k) (hs : 0 ≤ s) (hi : I64 s) {c : Nat} (hc : c ≤ 255) : I64 (ld k s c) := by have := ld_in h hs hc; unfold I64 at *; omega
/-- How a number is packed beside others the greatest of which is s. -/
def pk (k s x : Int) : Nat := near10 k x (max s 1)
theorem pk_le (k s x : Int) : pk k s x ≤ 255 := near10_le _ _ _
theorem pk_shr {k s x : Int} (h : Kind9 k) (h1 : -s ≤ x) (h2 : x ≤ s) (h3 : 0 ≤ x ∨ sig9 k = true) : Shr k x (max s 1) := ⟨h, by omega, by omega, by omega, h3⟩
theorem pk_top {k s : Int} (h : Kind9 k) (h0 : 0 < s) : pk k s s = 255 := by
  have hm : max s 1 = s := by omega
  unfold pk; rw [hm]; exact near10_den h h0
theorem pk_low {k s : Int} (h0 : 0 < s) : pk k s (-s) = near10 k (-1) 1 := by
  have hm : max s 1 = s := by omega
  have := near10_scale (k := k) (num := -1) (den := 1) h0
  unfold pk; rw [hm]
  rwa [Int.one_mul, Int.neg_mul, Int.one_mul] at this
theorem near10_one {k : Int} (h : Kind9 k) : near10 k 1 1 = 255 := near10_den h (by omega)
theorem pk_nought {k : Int} : pk k 0 0 = near10 k 0 1 := rfl

/-- The greatest of numbers, whatever its side. -/
def grk (L : List Int) : Nat → Int
  | 0 => 0
  | m + 1 => max (max (grk L m) (L[m]?.getD 0)) (-(L[m]?.getD 0))
def gr (L : List Int) : Int := grk L L.length
theorem grk_pos (L : List Int) : ∀ m, 0 ≤ grk L m
  | 0 => Int.le_refl _
  | m + 1 => by have := grk_pos L m; unfold grk; omega
theorem grk_ge (L : List Int) : ∀ m j, j < m → L[j]?.getD 0 ≤ grk L m ∧ -(L[j]?.getD 0) ≤ grk L m
  | 0, j, h => by omega
  | m + 1, j, h => by
    unfold grk
    rcases Nat.lt_or_ge j m with e | e
    · have := grk_ge L m j e; omega
    · obtain rfl : j = m := by omega
      omega
theorem grk_some (L : List Int) : ∀ m, grk L m = 0 ∨ ∃ j, j < m ∧ (L[j]?.getD 0 = grk L m ∨ L[j]?.getD 0 = -grk L m)
  | 0 => .inl rfl
  | m + 1 => by
    have ih := grk_some L m
    have hp := grk_pos L m
    have e : grk L (m + 1) = max (max (grk L m) (L[m]?.getD 0)) (-(L[m]?.getD 0)) := rfl
    by_cases h1 : L[m]?.getD 0 = grk L (m + 1) ∨ L[m]?.getD 0 = -grk L (m + 1)
    · exact .inr ⟨m, by omega, h1⟩
    · have e2 : grk L (m + 1) = grk L m := by omega
      rcases ih with h | ⟨j, hj, h⟩
      · exact .inl (by omega)
      · exact .inr ⟨j, by omega, by rw [e2]; exact h⟩
theorem gr_pos (L : List Int) : 0 ≤ gr L := grk_pos L _
theorem gr_ge {L : List Int} {j : Nat} (h : j < L.length) : L[j]?.getD 0 ≤ gr L ∧ -(L[j]?.getD 0) ≤ gr L := grk_ge L _ j h
theorem gr_le {L : List Int} {s : Int} (h0 : 0 ≤ s) (h : ∀ j, j < L.length → L[j]?.getD 0 ≤ s ∧ -(L[j]?.getD 0) ≤ s) : gr L ≤ s := by
  rcases grk_some L L.length with e | ⟨j, hj, e⟩
  · unfold gr; omega
  · have := h j hj; unfold gr; omega
theorem grk_i64 {L : List Int} (h : ∀ j : Nat, I64 (L[j]?.getD 0) ∧ L[j]?.getD 0 ≠ -9223372036854775808) : ∀ m, I64 (grk L m)
  | 0 => by show I64 0; unfold I64; omega
  | m + 1 => by
    have h1 := grk_i64 h m
    have h2 := h m
    show I64 (max (max (grk L m) (L[m]?.getD 0)) (-(L[m]?.getD 0)))
    generalize grk L m = g at *
    unfold I64 at *; omega

/-- Is a code of the block whose greatest is 1 by 1, or -1 by 1? -/
def EndC (k : Int) (c : Nat) : Prop := c = near10 k 1 1 ∨ (Shr k (-1) 1 ∧ c = near10 k (-1) 1)
instance (k : Int) (c : Nat) : Decidable (EndC k c) := by unfold EndC; infer_instance
/-- May a block's codes be? -/
def OkC (k s : Int) (C : List Nat) : Prop := (s = 0 ∧ ∀ c ∈ C, c = near10 k 0 1) ∨ (0 < s ∧ ∃ c ∈ C, EndC k c)
/-- Is a block right? -/
def OkB (k s : Int) (C : List Nat) (W : List Int) : Prop :=
  (Kind9 k ∧ C.length + W.length ≤ 4096 ∧ W = [] ∧ OkC k s C) ∨ (k = 4 ∧ C.length + W.length ≤ 4096 ∧ (∀ x ∈ W, x ≠ -9223372036854775808) ∧ s = 0 ∧ C = [])
instance (k s : Int) (C : List Nat) : Decidable (OkC k s C) := by unfold OkC; infer_instance
instance (k s : Int) (C : List Nat) (W : List Int) : Decidable (OkB k s C W) := by unfold OkB; infer_instance
/-- What a right block is loaded as. -/
def ldB (k s : Int) (C : List Nat) (W : List Int) : List Int := if k = 4 then W else C.map (ld k s)
/-- May numbers be packed? -/
def OkP (k : Int) (L : List Int) : Prop := (0 ≤ k ∧ k ≤ 4) ∧ (∀ x ∈ L, x ≠ -9223372036854775808 ∧ (k = 1 ∨ k = 3 → 0 ≤ x))
instance (k : Int) (L : List Int) : Decidable (OkP k L) := by unfold OkP; infer_instance
/-- The codes of what is packed. -/
def pkC (k : Int) (L : List Int) : List Nat := if k = 4 then [] else L.map (pk k (gr L))
def pkS (k : Int) (L : List Int) : Int := if k = 4 then 0 else gr L
def pkW (k : Int) (L : List Int) : List Int := if k = 4 then L else []
theorem kind_or {k : Int} : 0 ≤ k ∧ k ≤ 4 ↔ Kind9 k ∨ k = 4 := by unfold Kind9; omega
theorem sig9_iff {k : Int} (h : Kind9 k) : sig9 k = true ↔ ¬ (k = 1 ∨ k = 3) := by unfold sig9 Kind9 at *; rw [decide_eq_true_eq]; omega
theorem okP_at {k : Int} {L : List Int} (h : OkP k L) (hk : Kind9 k) {x : Int} (hx : x ∈ L) : -gr L ≤ x ∧ x ≤ gr L ∧ (0 ≤ x ∨ sig9 k = true) := by
  obtain ⟨j, hj, rfl⟩ := at_mem 0 hx
  have := gr_ge hj
  refine ⟨by omega, by omega, ?_⟩
  by_cases e : k = 1 ∨ k = 3
  · exact .inl ((h.2 _ hx).2 e)
  · exact .inr ((sig9_iff hk).2 e)
theorem shr_m {k : Int} (hk : Kind9 k) (hs : sig9 k = true) : Shr k (-1) 1 := ⟨hk, by omega, by omega, by omega, .inr hs⟩
/-- What is packed is right. -/
theorem okB_pk {k : Int} {L : List Int} (h : OkP k L) (hl : L.length ≤ 4096) : OkB k (pkS k L) (pkC k L) (pkW k L) := by
  rcases kind_or.1 h.1 with hk | hk
  · have h4 : k ≠ 4 := by unfold Kind9 at hk; omega
    unfold pkS pkC pkW
    rw [if_neg h4, if_neg h4, if_neg h4]
    refine .inl ⟨hk, by simp; exact hl, rfl, ?_⟩
    rcases grk_some L L.length with e | ⟨j, hj, e⟩
    · refine .inl ⟨e, fun c hc => ?_⟩
      obtain ⟨x, hx, rfl⟩ := List.mem_map.1 hc
      have := okP_at h hk hx
      have e0 : gr L = 0 := e
      rw [e0] at this ⊢
      obtain rfl : x = 0 := by omega
      exact pk_nought
    · by_cases e0 : gr L = 0
      · refine .inl ⟨e0, fun c hc => ?_⟩
        obtain ⟨x, hx, rfl⟩ := List.mem_map.1 hc
        have := okP_at h hk hx
        rw [e0] at this ⊢
        obtain rfl : x = 0 := by omega
        exact pk_nought
      · have hp : 0 < gr L := by have := gr_pos L; omega
        have hx := mem_at (d := 0) hj
        refine .inr ⟨hp, pk k (gr L) (L[j]?.getD 0), List.mem_map.2 ⟨_, hx, rfl⟩, ?_⟩
        have e' : L[j]?.getD 0 = gr L ∨ L[j]?.getD 0 = -gr L := e
        rcases e' with e' | e'
        · left; rw [e', pk_top hk hp, near10_one hk]
        · have hs : sig9 k = true := by
            have := (okP_at h hk hx).2.2
            rcases this with h1 | h1
            · omega
            · exact h1
          right; rw [e', pk_low hp]; exact ⟨shr_m hk hs, rfl⟩
  · subst hk
    refine .inr ⟨rfl, by simp [pkC, pkW]; exact hl, fun x hx => (h.2 x hx).1, rfl, rfl⟩
end Go.Proofs.YtpidpebgeblenaaGreat

/-
  The contracts of the tenth reference: Sub of integers, share, Share, Num, far, Far.
-/
namespace Go.Proofs.YtpidpebgeblenaaGreat
set_option maxRecDepth 100000
set_option maxHeartbeats 8000000
open Go.RowKit
set_option linter.unusedVariables false
set_option linter.unusedSimpArgs false

theorem zn_size {w : World} {b : Bool} {A : Option Addr} {n c : Nat} {z : Int} (h : Zn w b A n c z) : Zn w false A n c ((z.natAbs : Nat) : Int) := ⟨by rw [Int.natAbs_natCast]; exact h.1, by simp⟩
theorem IR.cell {w : World} {b off n c j : Nat} {l : List Int} (h : IR w (some ⟨b, off, none⟩) n c l) (hj : j < n) : w.cell? ⟨b, off + j, none⟩ = some (.int .i64 (l[j]?.getD 0)) := by
  obtain ⟨b', off', e, hlt, hc⟩ := h.2.2 (by omega)
  injection e with e
  injection e with e1 e2
  subst e1
  subst e2
  exact hc j hj
theorem IR.some {w : World} {A : Option Addr} {n c : Nat} {l : List Int} (h : IR w A n c l) (hn : 0 < n) : ∃ b off, A = some ⟨b, off, none⟩ ∧ b < w.heap.size := by
  obtain ⟨b, off, e, hlt, hc⟩ := h.2.2 hn
  exact ⟨b, off, e, hlt⟩
theorem kind9_code {k : Int} (h : Kind9 k) : code9 k = 0 := if_pos h
theorem den9_i64 (k : Int) : I64 (den9 k) := by have := den9_bd k; unfold I64; omega
theorem num10_i64 (k : Int) (c : Nat) : I64 (num10 k c) := by have := num10_bd k c; unfold I64; omega
theorem len_prod {a b : Int} (ha : I64 a) (hb : I64 b) : (limbs (a * b).natAbs).length ≤ 2 := zlen_mul (len_one ha.abs) (len_one hb.abs)
theorem len_diff {a b : Int} {k : Nat} (ha : (limbs a.natAbs).length ≤ k) (hb : (limbs b.natAbs).length ≤ k) : (limbs (a - b).natAbs).length ≤ k + 1 := by rw [Int.sub_eq_add_neg]; exact zlen_add ha (by rw [Int.natAbs_neg]; exact hb)
theorem dst_len {k num den : Int} (hn : I64 num) (hd : I64 den) (c : Nat) : (limbs (dst k num den c).natAbs).length ≤ 3 := by
  unfold dst; rw [Int.natAbs_natCast]; exact len_diff (len_prod hn (den9_i64 k)) (len_prod (num10_i64 k c) hd)

theorem rzsub_N {w : World} {ba : Bool} {Aa : Option Addr} {na ca : Nat} {bb : Bool} {Ab : Option Addr} {nb cb : Nat} {x : Int} (ha : Zn w ba Aa na ca x) (sa : (limbs x.natAbs).length ≤ 100) {y : Int} (hb : Zn w bb Ab nb cb y) (sb : (limbs y.natAbs).length ≤ 100) :
    Calls Tryz.prog 70 #[.agg #[.bool ba, .slice Aa na ca], .agg #[.bool bb, .slice Ab nb cb]] w (GotZ w (x - y)) := by
  have cc := Below.refl w.heap.size w
  go_enter Tryz.func70, Tryz.ntmps70
  go_wp2_with fail
  generalize hv_ : ((w.alloc (.cells #[.bool ba, .slice Aa na ca] 81)).alloc (.cells #[.bool bb, .slice Ab nb cb] 81)).alloc (.cells #[.bool false, .slice none 0 0] 81) = v1
  obtain ⟨f0, f1⟩ : Fz2 v1 (w.heap.size + 1 + 1) := by simp [Fz2, ← hv_, go_sem]
  have bA : Below w.heap.size w v1 := by rw [← hv_]; exact ((((Below.refl _ w).alloc (by simp) _).alloc (by simp) _).alloc (by simp <;> omega) _)
  replace ha := ha.on bA
  replace hb := hb.on bA
  replace cc := bK cc bA
  clear bA
  obtain ⟨ka0, ka1⟩ : Cs2 v1 w.heap.size (.bool ba) (.slice Aa na ca) := by simp [Cs2, ← hv_, go_sem]
  have kal : w.heap.size < v1.heap.size := by simp [← hv_] <;> omega
  obtain ⟨kb0, kb1⟩ : Cs2 v1 (w.heap.size + 1) (.bool bb) (.slice Ab nb cb) := by simp [Cs2, ← hv_, go_sem]
  have kbl : w.heap.size + 1 < v1.heap.size := by simp [← hv_] <;> omega
  obtain ⟨g0, g1⟩ : Cs2 v1 (w.heap.size + 1 + 1) (.bool false) (.slice none 0 0) := by simp [Cs2, ← hv_, go_sem]
  have gl : w.heap.size + 1 + 1 < v1.heap.size := by simp [← hv_] <;> omega
  clear hv_
  have qq : Below v1.heap.size v1 v1.drew := below_drewN (Below.refl _ v1) 1
  have ha' := ha.on qq
  have hb' := hb.on qq
  go_region_held3 (fun w' => w'.cell? ⟨w.heap.size, 0, none⟩ = some (.bool ba) ∧ w'.cell? ⟨w.heap.size, 1, none⟩ = some (.slice Aa na ca) ∧ w'.cell? ⟨w.heap.size + 1, 0, none⟩ = some (.bool bb) ∧ w'.cell? ⟨w.heap.size + 1, 1, none⟩ = some (.slice Ab nb cb))
    (first | with_reducible exact ⟨cK qq ka0 kal, cK qq ka1 kal, cK qq kb0 kbl, cK qq kb1 kbl⟩ | with_reducible exact ⟨(cell_store (by omega)).trans (cK qq ka0 kal), (cell_store (by omega)).trans (cK qq ka1 kal), (cell_store (by omega)).trans (cK qq kb0 kbl), (cell_store (by omega)).trans (cK qq kb1 kbl)⟩ | go_keep)
    (first
      | (go_at_call 87; (with_reducible refine (rzneg_N hb' (Nat.le_trans sb (by omega))).mono ?_); rintro e wz ⟨bu, Au, nu, cu, rfl, hu, q⟩; replace qq := bK qq q; (try replace ha' := ha'.on q); (try replace hb' := hb'.on q); (try replace hm := hm.on q); clear q; have xa0 := cK qq g0 gl; have ya0 := fK qq f0 gl; have xa1 := cK qq g1 gl; have ya1 := fK qq f1 gl)
      | (go_at_call 86; (with_reducible refine (rzadd_N ha' hu (Nat.le_trans sa (by omega)) (by rw [Int.natAbs_neg]; omega)).mono ?_); rintro e wz ⟨bm, Am, nm, cm, rfl, hm, q⟩; replace qq := bK qq q; (try replace ha' := ha'.on q); (try replace hb' := hb'.on q); (try replace hu := hu.on q); clear q; have xa0 := cK qq g0 gl; have ya0 := fK qq f0 gl; have xa1 := cK qq g1 gl; have ya1 := fK qq f1 gl))
  replace cc := bK cc qq
  have hn : Zn wz bm Am nm cm (x - y) := by rw [Int.sub_eq_add_neg]; exact hm
  have eb : Box wz (w.heap.size + 1 + 1) false none 0 0 := ⟨xa0, xa1⟩
  have HZ : Hid (Zn ((wz.setCell ⟨w.heap.size + 1 + 1, 0, none⟩ (.bool bm)).setCell ⟨w.heap.size + 1 + 1, 1, none⟩ (.slice Am nm cm)) bm Am nm cm (x - y)) := Lib.hid (hn.put eb _ _)
  clear hn
  go_wp2_with fail
  refine bodyPost_ret (v := .agg #[.bool bm, .slice Am nm cm]) (by simp [results, Tryz.results70, go_sem, xa0, xa1]) rfl ⟨_, _, _, _, rfl, HZ.out, below_put cc (by omega) _ _⟩

theorem rshare_N (w : World) {k num : Int} (hn : I64 num) :
    Calls Tryz.prog 57 #[.int .i64 k, .int .i64 num] w (GotZ w (num * den9 k)) := by
  have hD := den9_i64 k
  have CD := fun W => rden9_N W k
  generalize den9 k = D at *
  have cc := Below.refl w.heap.size w
  go_enter Tryz.func57, Tryz.ntmps57
  go_wp2_with fail
  generalize hv_ : w.alloc (.cells #[.bool false, .slice none 0 0] 81) = v1
  obtain ⟨f0, f1⟩ : Fz2 v1 w.heap.size := by simp [Fz2, ← hv_, go_sem]
  have bA : Below w.heap.size w v1 := by rw [← hv_]; exact ((Below.refl _ w).alloc (by simp) _)
  replace cc := bK cc bA
  clear bA
  obtain ⟨g0, g1⟩ : Cs2 v1 w.heap.size (.bool false) (.slice none 0 0) := by simp [Cs2, ← hv_, go_sem]
  have gl : w.heap.size < v1.heap.size := by simp [← hv_] <;> omega
  clear hv_
  refine (rzof_N _ num hn).mono ?_
  rintro e w2 ⟨bu, Au, nu, cu, rfl, hu, b⟩
  rewrite [fR b gl] at f0 f1
  rewrite [cR b gl] at g0 g1
  replace gl := lK b gl
  replace cc := bK cc b
  clear b
  go_wp2_with fail
  refine (CD _).mono ?_
  rintro e w3 ⟨rfl, b⟩
  rewrite [fR b gl] at f0 f1
  replace hu := hu.on b
  rewrite [cR b gl] at g0 g1
  replace gl := lK b gl
  replace cc := bK cc b
  clear b
  go_wp2_with fail
  refine (rzof_N _ D hD).mono ?_
  rintro e w4 ⟨bv, Av, nv, cv, rfl, hv, b⟩
  rewrite [fR b gl] at f0 f1
  replace hu := hu.on b
  rewrite [cR b gl] at g0 g1
  replace gl := lK b gl
  replace cc := bK cc b
  clear b
  go_wp2_with fail
  refine (rzmul_N hu hv (Nat.le_trans (len_one hn.abs) (by omega)) (Nat.le_trans (len_one hD.abs) (by omega))).mono ?_
  rintro e w5 ⟨bm, Am, nm, cm, rfl, hm, b⟩
  rewrite [fR b gl] at f0 f1
  replace hu := hu.on b
  replace hv := hv.on b
  rewrite [cR b gl] at g0 g1
  replace gl := lK b gl
  replace cc := bK cc b
  clear b
  have hn : Zn w5 bm Am nm cm (num * D) := hm
  have eb : Box w5 (w.heap.size) false none 0 0 := ⟨g0, g1⟩
  have HZ : Hid (Zn ((w5.setCell ⟨w.heap.size, 0, none⟩ (.bool bm)).setCell ⟨w.heap.size, 1, none⟩ (.slice Am nm cm)) bm Am nm cm (num * D)) := Lib.hid (hn.put eb _ _)
  clear hn
  go_wp2_with fail
  refine bodyPost_ret (v := .agg #[.bool bm, .slice Am nm cm]) (by simp [results, Tryz.results57, go_sem, g0, g1]) rfl ⟨_, _, _, _, rfl, HZ.out, below_put cc (by omega) _ _⟩

theorem rShare_lo (w : World) {k num den : Int} (hd : I64 den) (q0 : k < 0) :
    Calls Tryz.prog 56 #[.int .i64 k, .int .i64 num, .int .i64 den] w (GotV w (.bool false)) := by
  have t0 : decide (k < 0) = true := decide_eq_true (by omega)
  clear q0
  have cc := Below.refl w.heap.size w
  go_enter Tryz.func56, Tryz.ntmps56
  go_wp2_with fail
  go_wp2_with fail
  go_ret
  exact ⟨rfl, cc⟩

theorem rShare_hi (w : World) {k num den : Int} (hd : I64 den) (q0 : 0 ≤ k) (q1 : 3 < k) :
    Calls Tryz.prog 56 #[.int .i64 k, .int .i64 num, .int .i64 den] w (GotV w (.bool false)) := by
  have t0 : decide (k < 0) = false := decide_eq_false (by omega)
  have t1 : decide (3 < k) = true := decide_eq_true (by omega)
  clear q0 q1
  have cc := Below.refl w.heap.size w
  go_enter Tryz.func56, Tryz.ntmps56
  go_wp2_with fail
  go_wp2_with fail
  go_ret
  exact ⟨rfl, cc⟩

theorem rShare_de (w : World) {k num den : Int} (hd : I64 den) (q0 : 0 ≤ k) (q1 : k ≤ 3) (q2 : den < 1) :
    Calls Tryz.prog 56 #[.int .i64 k, .int .i64 num, .int .i64 den] w (GotV w (.bool false)) := by
  have t0 : decide (k < 0) = false := decide_eq_false (by omega)
  have t1 : decide (3 < k) = false := decide_eq_false (by omega)
  have t2 : decide (den < 1) = true := decide_eq_true (by omega)
  clear q0 q1 q2
  have cc := Below.refl w.heap.size w
  go_enter Tryz.func56, Tryz.ntmps56
  go_wp2_with fail
  go_wp2_with fail
  go_ret
  exact ⟨rfl, cc⟩

theorem rShare_big (w : World) {k num den : Int} (hd : I64 den) (q0 : 0 ≤ k) (q1 : k ≤ 3) (q2 : 1 ≤ den) (q3 : den < num) :
    Calls Tryz.prog 56 #[.int .i64 k, .int .i64 num, .int .i64 den] w (GotV w (.bool false)) := by
  have t0 : decide (k < 0) = false := decide_eq_false (by omega)
  have t1 : decide (3 < k) = false := decide_eq_false (by omega)
  have t2 : decide (den < 1) = false := decide_eq_false (by omega)
  have t3 : decide (den < num) = true := decide_eq_true (by omega)
  clear q0 q1 q2 q3
  have cc := Below.refl w.heap.size w
  go_enter Tryz.func56, Tryz.ntmps56
  go_wp2_with fail
  go_wp2_with fail
  go_ret
  exact ⟨rfl, cc⟩

theorem rShare_low (w : World) {k num den : Int} (hd : I64 den) (q0 : 0 ≤ k) (q1 : k ≤ 3) (q2 : 1 ≤ den) (q3 : num ≤ den) (q4 : num < -den) :
    Calls Tryz.prog 56 #[.int .i64 k, .int .i64 num, .int .i64 den] w (GotV w (.bool false)) := by
  obtain ⟨m, hm⟩ : ∃ m, m = -den := ⟨_, rfl⟩
  have k1 : IntKind.i64.wrap (-den) = m := by rw [IntWalk.i64_in (-den) (by unfold I64 at hd; omega), hm]
  have t0 : decide (k < 0) = false := decide_eq_false (by omega)
  have t1 : decide (3 < k) = false := decide_eq_false (by omega)
  have t2 : decide (den < 1) = false := decide_eq_false (by omega)
  have t3 : decide (den < num) = false := decide_eq_false (by omega)
  have t4 : decide (num < m) = true := decide_eq_true (by omega)
  have HM := Lib.hid hm
  clear hm
  clear q0 q1 q2 q3 q4
  have cc := Below.refl w.heap.size w
  go_enter Tryz.func56, Tryz.ntmps56
  go_wp2_with fail
  go_wp2_with fail
  go_ret
  exact ⟨rfl, cc⟩

theorem rShare_yes (w : World) {k num den : Int} (hd : I64 den) (q0 : 0 ≤ k) (q1 : k ≤ 3) (q2 : 1 ≤ den) (q3 : num ≤ den) (q4 : -den ≤ num) (q5 : 0 ≤ num) :
    Calls Tryz.prog 56 #[.int .i64 k, .int .i64 num, .int .i64 den] w (GotV w (.bool true)) := by
  obtain ⟨m, hm⟩ : ∃ m, m = -den := ⟨_, rfl⟩
  have k1 : IntKind.i64.wrap (-den) = m := by rw [IntWalk.i64_in (-den) (by unfold I64 at hd; omega), hm]
  have t0 : decide (k < 0) = false := decide_eq_false (by omega)
  have t1 : decide (3 < k) = false := decide_eq_false (by omega)
  have t2 : decide (den < 1) = false := decide_eq_false (by omega)
  have t3 : decide (den < num) = false := decide_eq_false (by omega)
  have t4 : decide (num < m) = false := decide_eq_false (by omega)
  have t5 : decide (0 ≤ num) = true := decide_eq_true (by omega)
  have HM := Lib.hid hm
  clear hm
  clear q0 q1 q2 q3 q4 q5
  have cc := Below.refl w.heap.size w
  go_enter Tryz.func56, Tryz.ntmps56
  go_wp2_with fail
  go_wp2_with fail
  go_ret
  exact ⟨rfl, cc⟩

theorem rShare_sig (w : World) {k num den : Int} (hd : I64 den) (q0 : 0 ≤ k) (q1 : k ≤ 3) (q2 : 1 ≤ den) (q3 : num ≤ den) (q4 : -den ≤ num) (q5 : num < 0) :
    Calls Tryz.prog 56 #[.int .i64 k, .int .i64 num, .int .i64 den] w (GotV w (.bool (sig9 k))) := by
  obtain ⟨m, hm⟩ : ∃ m, m = -den := ⟨_, rfl⟩
  have k1 : IntKind.i64.wrap (-den) = m := by rw [IntWalk.i64_in (-den) (by unfold I64 at hd; omega), hm]
  have t0 : decide (k < 0) = false := decide_eq_false (by omega)
  have t1 : decide (3 < k) = false := decide_eq_false (by omega)
  have t2 : decide (den < 1) = false := decide_eq_false (by omega)
  have t3 : decide (den < num) = false := decide_eq_false (by omega)
  have t4 : decide (num < m) = false := decide_eq_false (by omega)
  have t5 : decide (0 ≤ num) = false := decide_eq_false (by omega)
  have CS := fun W => rsig9_N W k
  obtain ⟨s, hs⟩ : ∃ s, sig9 k = s := ⟨_, rfl⟩
  rw [hs] at CS ⊢
  clear hs
  have HM := Lib.hid hm
  clear hm
  clear q0 q1 q2 q3 q4 q5
  have cc := Below.refl w.heap.size w
  go_enter Tryz.func56, Tryz.ntmps56
  go_wp2_with fail
  refine (CS _).mono ?_
  rintro e w1 ⟨rfl, b⟩
  replace cc := bK cc b
  clear b
  go_wp2_with fail
  go_ret
  exact ⟨rfl, cc⟩

theorem rShare_N (w : World) {k num den : Int} (hd : I64 den) : Calls Tryz.prog 56 #[.int .i64 k, .int .i64 num, .int .i64 den] w (GotV w (.bool (decide (Shr k num den)))) := by
  have hk : Kind9 k ↔ 0 ≤ k ∧ k ≤ 3 := by unfold Kind9; omega
  by_cases a0 : k < 0
  · rw [decide_eq_false (fun h => by have := hk.1 h.1; omega)]; exact rShare_lo w hd a0
  by_cases a1 : 3 < k
  · rw [decide_eq_false (fun h => by have := hk.1 h.1; omega)]; exact rShare_hi w hd (by omega) a1
  by_cases a2 : den < 1
  · rw [decide_eq_false (fun h => by have := h.2.1; omega)]; exact rShare_de w hd (by omega) (by omega) a2
  by_cases a3 : den < num
  · rw [decide_eq_false (fun h => by have := h.2.2.1; omega)]; exact rShare_big w hd (by omega) (by omega) (by omega) a3
  by_cases a4 : num < -den
  · rw [decide_eq_false (fun h => by have := h.2.2.2.1; omega)]; exact rShare_low w hd (by omega) (by omega) (by omega) (by omega) a4
  by_cases a5 : 0 ≤ num
  · rw [decide_eq_true ⟨hk.2 ⟨by omega, by omega⟩, by omega, by omega, by omega, .inl a5⟩]; exact rShare_yes w hd (by omega) (by omega) (by omega) (by omega) (by omega) a5
  · have h := rShare_sig (k := k) (num := num) w hd (by omega) (by omega) (by omega) (by omega) (by omega) (by omega)
    have e : decide (Shr k num den) = sig9 k := by
      cases hs : sig9 k with
      | true => exact decide_eq_true ⟨hk.2 ⟨by omega, by omega⟩, by omega, by omega, by omega, .inr hs⟩
      | false => refine decide_eq_false (fun h => ?_); rcases h.2.2.2.2 with h | h; omega; rw [hs] at h; cases h
    rw [e]; exact h



theorem rfar_N {w : World} {ba : Bool} {Aa : Option Addr} {na ca : Nat} {s : Int} (ha : Zn w ba Aa na ca s) (sa : (limbs s.natAbs).length ≤ 90) {n den : Int} (hn : I64 n) (hden : I64 den) :
    Calls Tryz.prog 58 #[.agg #[.bool ba, .slice Aa na ca], .int .i64 n, .int .i64 den] w (GotZ w (((s - n * den).natAbs : Nat) : Int)) := by
  have l1 := len_prod hn hden
  have hz1 : I64 n := hn
  have cc := Below.refl w.heap.size w
  go_enter Tryz.func58, Tryz.ntmps58
  go_wp2_with fail
  generalize hv_ : (w.alloc (.cells #[.bool ba, .slice Aa na ca] 81)).alloc (.cells #[.bool false, .slice none 0 0] 81) = v1
  obtain ⟨f0, f1⟩ : Fz2 v1 (w.heap.size + 1) := by simp [Fz2, ← hv_, go_sem]
  have bA : Below w.heap.size w v1 := by rw [← hv_]; exact (((Below.refl _ w).alloc (by simp) _).alloc (by simp) _)
  replace ha := ha.on bA
  replace cc := bK cc bA
  clear bA
  obtain ⟨ka0, ka1⟩ : Cs2 v1 w.heap.size (.bool ba) (.slice Aa na ca) := by simp [Cs2, ← hv_, go_sem]
  have kal : w.heap.size < v1.heap.size := by simp [← hv_] <;> omega
  obtain ⟨g0, g1⟩ : Cs2 v1 (w.heap.size + 1) (.bool false) (.slice none 0 0) := by simp [Cs2, ← hv_, go_sem]
  have gl : w.heap.size + 1 < v1.heap.size := by simp [← hv_] <;> omega
  clear hv_
  go_upto_region 1 with fail
  go_cut [7] (fun u wx => ∃ (g_ : Nat) (b_ : Bool) (A_ : Option Addr) (n_ c_ : Nat), u = .pointer (some ⟨g_, 0, none⟩) ∧ LoneZ v1 wx g_ b_ A_ n_ c_ (s - n * den))
  case first =>
    have BB0 : Below v1.heap.size v1 v1.drew := below_drewN (Below.refl _ v1) 1
    have BB1 : Below v1.heap.size v1 (v1.alloc (.cells #[.bool false, .slice none 0 0] 81)).drew := below_drewN (below_one _ _) 1
    go_region_held3 (fun w' => w'.cell? ⟨w.heap.size, 0, none⟩ = some (.bool ba) ∧ w'.cell? ⟨w.heap.size, 1, none⟩ = some (.slice Aa na ca) ∧ w'.cell? ⟨w.heap.size + 1, 0, none⟩ = some (.bool false) ∧ w'.cell? ⟨w.heap.size + 1, 1, none⟩ = some (.slice none 0 0))
      (first | with_reducible exact ⟨ka0, ka1, g0, g1⟩ | with_reducible exact ⟨keep_alloc (ka0), keep_alloc (ka1), keep_alloc (g0), keep_alloc (g1)⟩ | with_reducible exact ⟨keep_alloc (keep_alloc (ka0)), keep_alloc (keep_alloc (ka1)), keep_alloc (keep_alloc (g0)), keep_alloc (keep_alloc (g1))⟩ | with_reducible exact ⟨(cK qq ka0 kal), (cK qq ka1 kal), (cK qq g0 gl), (cK qq g1 gl)⟩ | with_reducible exact ⟨keep_alloc ((cK qq ka0 kal)), keep_alloc ((cK qq ka1 kal)), keep_alloc ((cK qq g0 gl)), keep_alloc ((cK qq g1 gl))⟩ | with_reducible exact ⟨keep_alloc (keep_alloc ((cK qq ka0 kal))), keep_alloc (keep_alloc ((cK qq ka1 kal))), keep_alloc (keep_alloc ((cK qq g0 gl))), keep_alloc (keep_alloc ((cK qq g1 gl)))⟩ | with_reducible exact ⟨((cell_store (by omega)).trans (cK qq ka0 kal)), ((cell_store (by omega)).trans (cK qq ka1 kal)), ((cell_store (by omega)).trans (cK qq g0 gl)), ((cell_store (by omega)).trans (cK qq g1 gl))⟩ | with_reducible exact ⟨keep_alloc (((cell_store (by omega)).trans (cK qq ka0 kal))), keep_alloc (((cell_store (by omega)).trans (cK qq ka1 kal))), keep_alloc (((cell_store (by omega)).trans (cK qq g0 gl))), keep_alloc (((cell_store (by omega)).trans (cK qq g1 gl)))⟩ | with_reducible exact ⟨keep_alloc (keep_alloc (((cell_store (by omega)).trans (cK qq ka0 kal)))), keep_alloc (keep_alloc (((cell_store (by omega)).trans (cK qq ka1 kal)))), keep_alloc (keep_alloc (((cell_store (by omega)).trans (cK qq g0 gl)))), keep_alloc (keep_alloc (((cell_store (by omega)).trans (cK qq g1 gl))))⟩ | go_keep)
      (first
        | (go_at_call 65; (with_reducible refine (rzof_N _ n hn).mono ?_); rintro e y1 ⟨bu, Au, nu, cu, rfl, hu, q⟩; have qq := BB0.trans (q.mono BB0.size); have ha' := (ha.on BB0).on q; have qs1 := qq.size; clear q)
        | (go_at_call 65; (with_reducible refine (rzof_N _ n hn).mono ?_); rintro e y1 ⟨bu, Au, nu, cu, rfl, hu, q⟩; have qq := BB1.trans (q.mono BB1.size); have ha' := (ha.on BB1).on q; have qs1 := qq.size; obtain ⟨bo_0, fo_0, bo_1, fo_1, ol⟩ := zb2 (g := v1.heap.size) q (by simp) (by simp [Cs2, go_sem]) (by simp [Fz2, go_sem]); clear q)
        | (go_at_call 65; have up := Below.refl y1.heap.size y1; (with_reducible refine (rzof_N _ den hden).mono ?_); rintro e y2 ⟨bv, Av, nv, cv, rfl, hv, q⟩; replace qq := uK qq up q; replace ha' := (ha'.on up).on q; replace hu := (hu.on up).on q; (try (rewrite [cR up ol, cR q (lK up ol)] at bo_0 bo_1; rewrite [fR up ol, fR q (lK up ol)] at fo_0 fo_1; replace ol := lK q (lK up ol))); have qs2 := qq.size; clear q up)
        | (go_at_call 65; have up := below_one y1 (.cells #[.bool false, .slice none 0 0] 81); (with_reducible refine (rzof_N _ den hden).mono ?_); rintro e y2 ⟨bv, Av, nv, cv, rfl, hv, q⟩; replace qq := uK qq up q; replace ha' := (ha'.on up).on q; replace hu := (hu.on up).on q; (try (rewrite [cR up ol, cR q (lK up ol)] at bo_0 bo_1; rewrite [fR up ol, fR q (lK up ol)] at fo_0 fo_1; replace ol := lK q (lK up ol))); have qs2 := qq.size; obtain ⟨bo_0, fo_0, bo_1, fo_1, ol⟩ := zb2 (g := y1.heap.size) q (by simp) (by simp [Cs2, go_sem]) (by simp [Fz2, go_sem]); clear q up)
        | (go_at_call 63; have up := Below.refl y2.heap.size y2; (with_reducible refine (rzmul_N (hu.on up) (hv.on up) (Nat.le_trans (len_one hn.abs) (by omega)) (Nat.le_trans (len_one hden.abs) (by omega))).mono ?_); rintro e y3 ⟨bp, Ap, np, cp, rfl, hp, q⟩; replace qq := uK qq up q; replace ha' := (ha'.on up).on q; replace hu := (hu.on up).on q; replace hv := (hv.on up).on q; (try (rewrite [cR up ol, cR q (lK up ol)] at bo_0 bo_1; rewrite [fR up ol, fR q (lK up ol)] at fo_0 fo_1; replace ol := lK q (lK up ol))); have qs3 := qq.size; clear q up)
        | (go_at_call 63; have up := below_one y2 (.cells #[.bool false, .slice none 0 0] 81); (with_reducible refine (rzmul_N (hu.on up) (hv.on up) (Nat.le_trans (len_one hn.abs) (by omega)) (Nat.le_trans (len_one hden.abs) (by omega))).mono ?_); rintro e y3 ⟨bp, Ap, np, cp, rfl, hp, q⟩; replace qq := uK qq up q; replace ha' := (ha'.on up).on q; replace hu := (hu.on up).on q; replace hv := (hv.on up).on q; (try (rewrite [cR up ol, cR q (lK up ol)] at bo_0 bo_1; rewrite [fR up ol, fR q (lK up ol)] at fo_0 fo_1; replace ol := lK q (lK up ol))); have qs3 := qq.size; obtain ⟨bo_0, fo_0, bo_1, fo_1, ol⟩ := zb2 (g := y2.heap.size) q (by simp) (by simp [Cs2, go_sem]) (by simp [Fz2, go_sem]); clear q up)
        | (go_at_call 70; have up := Below.refl y3.heap.size y3; (with_reducible refine (rzsub_N (ha'.on up) (Nat.le_trans sa (by omega)) (hp.on up) (Nat.le_trans l1 (by omega))).mono ?_); rintro e y4 ⟨bm, Am, nm, cm, rfl, hm, q⟩; replace qq := uK qq up q; replace ha' := (ha'.on up).on q; replace hu := (hu.on up).on q; replace hv := (hv.on up).on q; replace hp := (hp.on up).on q; (try (rewrite [cR up ol, cR q (lK up ol)] at bo_0 bo_1; rewrite [fR up ol, fR q (lK up ol)] at fo_0 fo_1; replace ol := lK q (lK up ol))); have qs4 := qq.size; clear q up)
        | (go_at_call 70; have up := below_one y3 (.cells #[.bool false, .slice none 0 0] 81); (with_reducible refine (rzsub_N (ha'.on up) (Nat.le_trans sa (by omega)) (hp.on up) (Nat.le_trans l1 (by omega))).mono ?_); rintro e y4 ⟨bm, Am, nm, cm, rfl, hm, q⟩; replace qq := uK qq up q; replace ha' := (ha'.on up).on q; replace hu := (hu.on up).on q; replace hv := (hv.on up).on q; replace hp := (hp.on up).on q; (try (rewrite [cR up ol, cR q (lK up ol)] at bo_0 bo_1; rewrite [fR up ol, fR q (lK up ol)] at fo_0 fo_1; replace ol := lK q (lK up ol))); have qs4 := qq.size; obtain ⟨bo_0, fo_0, bo_1, fo_1, ol⟩ := zb2 (g := y3.heap.size) q (by simp) (by simp [Cs2, go_sem]) (by simp [Fz2, go_sem]); clear q up))
    all_goals (go_wp2_with fail; go_meet)
    all_goals refine ⟨_, bm, Am, nm, cm, rfl, ?_⟩
    all_goals first
      | with_reducible exact loneZA hm qq _
      | with_reducible exact loneZB bo_0 bo_1 hm qq (by omega)
  case rest =>
    obtain ⟨gd, bd, Ad, nd, cd, rfl, ⟨d0, d1⟩, hd, b, dge⟩ := hcut
    have dl := cell_lt d0
    simp only at dl
    have dqka : w.heap.size < gd := Nat.lt_of_lt_of_le kal dge
    have dqg : w.heap.size + 1 < gd := Nat.lt_of_lt_of_le gl dge
    rewrite [fR b gl] at f0 f1
    replace ha := ha.on b
    rewrite [cR b kal] at ka0 ka1
    replace kal := lK b kal
    rewrite [cR b gl] at g0 g1
    replace gl := lK b gl
    replace cc := bK cc b
    clear b
    have hn : Zn wc false Ad nd cd ((((s - n * den).natAbs : Nat) : Int)) := zn_size hd
    have eb : Box wc (w.heap.size + 1) false none 0 0 := ⟨g0, g1⟩
    have HZ : Hid (Zn ((wc.setCell ⟨w.heap.size + 1, 0, none⟩ (.bool false)).setCell ⟨w.heap.size + 1, 1, none⟩ (.slice Ad nd cd)) false Ad nd cd ((((s - n * den).natAbs : Nat) : Int))) := Lib.hid (hn.put eb _ _)
    clear hn
    go_wp2_with fail
    refine bodyPost_ret (v := .agg #[.bool false, .slice Ad nd cd]) (by simp [results, Tryz.results58, go_sem, g0, g1]) rfl ⟨_, _, _, _, rfl, HZ.out, below_put cc (by omega) _ _⟩


end Go.Proofs.YtpidpebgeblenaaGreat

/-
  The contract of the tenth reference: Near.
-/
namespace Go.Proofs.YtpidpebgeblenaaGreat
set_option maxRecDepth 100000
set_option maxHeartbeats 8000000
open Go.RowKit
set_option linter.unusedVariables false
set_option linter.unusedSimpArgs false

theorem rzcmp_w {w : World} {b b' : Bool} {A B : Option Addr} {n c m d : Nat} {z z' : Int} (r : Int) (ha : Zn w b A n c z) (hb : Zn w b' B m d z') (hx : (limbs z.natAbs).length ≤ 300) (hy : (limbs z'.natAbs).length ≤ 300) (h : cmpZ z z' = r) : Calls Tryz.prog 59 #[.agg #[.bool b, .slice A n c], .agg #[.bool b', .slice B m d]] w (GotV w (.int .i64 r)) := by
  subst h
  exact rzcmp_N ha hb (by omega) (by omega)
theorem cmpZ_lt {a b : Int} : cmpZ a b < 0 ↔ a < b := by unfold cmpZ; split <;> (try split) <;> omega
theorem cmpZ_ngt {a b : Int} : cmpZ a b ≤ 0 ↔ a ≤ b := by unfold cmpZ; split <;> (try split) <;> omega
/-- As LoneZ; the box may be written. -/
def LoneF (V U : World) (g : Nat) (b : Bool) (A : Option Addr) (n k : Nat) (z : Int) : Prop := LoneZ V U g b A n k z ∧ U.frozen? ⟨g, 0, none⟩ = false ∧ U.frozen? ⟨g, 1, none⟩ = false
section
variable {V wz : World} {g : Nat} {b : Bool} {A : Option Addr} {n k : Nat} {z : Int}
theorem loneFA (h : Zn wz b A n k z) (qq : Below V.heap.size V wz) (T : TypeId) : LoneF V (wz.alloc (.cells #[.bool b, .slice A n k] T)) wz.heap.size b A n k z := ⟨loneZA h qq T, by simp [go_sem], by simp [go_sem]⟩
theorem loneFB (o0 : wz.cell? ⟨g, 0, none⟩ = some (.bool false)) (o1 : wz.cell? ⟨g, 1, none⟩ = some (.slice none 0 0)) (f0 : wz.frozen? ⟨g, 0, none⟩ = false) (f1 : wz.frozen? ⟨g, 1, none⟩ = false) (h : Zn wz b A n k z) (qq : Below V.heap.size V wz) (l : V.heap.size ≤ g) : LoneF V ((wz.setCell ⟨g, 0, none⟩ (.bool b)).setCell ⟨g, 1, none⟩ (.slice A n k)) g b A n k z := ⟨loneZB o0 o1 h qq l, by simpa [go_sem] using f0, by simpa [go_sem] using f1⟩
end

theorem rNear_no (w : World) {k num den : Int} (hn : I64 num) (hd : I64 den) (hS : ¬ Shr k num den) :
    Calls Tryz.prog 48 #[.int .i64 k, .int .i64 num, .int .i64 den] w (GotV w (.tuple #[.int .u8 0, .int .i64 1])) := by
  have CS : ∀ W : World, Calls Tryz.prog 56 #[.int .i64 k, .int .i64 num, .int .i64 den] W (GotV W (.bool false)) := fun W => by have h := rShare_N (k := k) (num := num) W hd; rw [decide_eq_false hS] at h; exact h
  clear hS
  have cc := Below.refl w.heap.size w
  go_enter Tryz.func48, Tryz.ntmps48
  go_wp2_with fail
  refine (CS _).mono ?_
  rintro e w1 ⟨rfl, b⟩
  replace cc := bK cc b
  clear b
  go_wp2_with fail
  go_ret2
  exact ⟨rfl, cc⟩

theorem rNear_yes (w : World) {k num den : Int} (hn : I64 num) (hd : I64 den) (hS : Shr k num den) :
    Calls Tryz.prog 48 #[.int .i64 k, .int .i64 num, .int .i64 den] w (GotV w (.tuple #[.int .u8 ((near10 k num den : Nat) : Int), .int .i64 0])) := by
  have hk := hS.1
  have CS : ∀ W : World, Calls Tryz.prog 56 #[.int .i64 k, .int .i64 num, .int .i64 den] W (GotV W (.bool true)) := fun W => by have h := rShare_N (k := k) (num := num) W hd; rw [decide_eq_true hS] at h; exact h
  have CB : ∀ W : World, Calls Tryz.prog 43 #[.int .i64 k] W (GotIp W (book9 k) 0) := fun W => by have h := rbook9_N W k; rw [kind9_code hk] at h; exact h
  have CO := fun W => rshare_N (k := k) W hn
  have ls := len_prod hn (den9_i64 k)
  have CF : ∀ {W : World} {b : Bool} {A : Option Addr} {n c : Nat} (j : Nat), Zn W b A n c (num * den9 k) → Calls Tryz.prog 58 #[.agg #[.bool b, .slice A n c], .int .i64 (num10 k j), .int .i64 den] W (GotZ W (dst k num den j)) := fun j h => rfar_N h (Nat.le_trans ls (by omega)) (num10_i64 k j) hd
  have hlen := (facts10 hk).1
  have ld : ∀ c, (limbs (dst k num den c).natAbs).length ≤ 300 := fun c => Nat.le_trans (dst_len hn hd c) (by omega)
  have hnum : ∀ j, (book9 k)[j]?.getD 0 = num10 k j := fun _ => rfl
  have hle : near10 k num den ≤ 255 := near10_le k num den
  unfold near10 at hle ⊢
  clear hS hk ls
  generalize dst k num den = d at *
  generalize num10 k = y at *
  generalize book9 k = L at *
  generalize num * den9 k = s at *
  have cc := Below.refl w.heap.size w
  go_enter Tryz.func48, Tryz.ntmps48
  go_wp2_with fail
  refine (CS _).mono ?_
  rintro e w1 ⟨rfl, b⟩
  replace cc := bK cc b
  clear b
  go_wp2_with fail
  refine (CB _).mono ?_
  rintro e w2 ⟨Al, nl, cl, rfl, hl, b⟩
  replace cc := bK cc b
  clear b
  go_wp2_with fail
  refine (CO _).mono ?_
  rintro e w3 ⟨bu, Au, nu, cu, rfl, hu, b⟩
  replace hl := hl.on b
  replace cc := bK cc b
  clear b
  go_wp2_with fail
  generalize hv_ : w3.alloc (.cells #[.bool bu, .slice Au nu cu] 81) = v4
  have bA : Below w3.heap.size w3 v4 := by rw [← hv_]; exact below_one _ _
  replace hl := hl.on bA
  replace hu := hu.on bA
  replace cc := bK cc bA
  clear bA
  obtain ⟨ow0, ow1⟩ : Cs2 v4 w3.heap.size (.bool bu) (.slice Au nu cu) := by simp [Cs2, ← hv_, go_sem]
  have owl : w3.heap.size < v4.heap.size := by simp [← hv_]
  clear hv_
  have hn_ : nl = 256 := by rw [hl.1, hlen]
  subst hn_
  obtain ⟨bb, off, rfl, hb⟩ := hl.some (by omega)
  have e0 : v4.cell? ⟨bb, off, none⟩ = some (.int .i64 (y 0)) := by have h := hl.cell (j := 0) (by omega); rw [hnum 0] at h; exact h
  have HUV := Lib.hid hu
  have HLV := Lib.hid hl
  have O0 := Lib.hid ow0
  have O1 := Lib.hid ow1
  have OL := Lib.hid owl
  have HBV := Lib.hid hb
  have CCV := Lib.hid cc
  go_upto_region 6 with fail
  go_cut [12] (fun u wx => ∃ (g_ : Nat) (b_ : Bool) (A_ : Option Addr) (n_ c_ : Nat), u = .pointer (some ⟨g_, 0, none⟩) ∧ LoneF v4 wx g_ b_ A_ n_ c_ (d 0))
  case first =>
    have BB0 : Below v4.heap.size v4 v4.drew := below_drewN (Below.refl _ v4) 1
    have BB1 : Below v4.heap.size v4 (v4.alloc (.cells #[.bool false, .slice none 0 0] 81)).drew := below_drewN (below_one _ _) 1
    go_region_held3 (fun w' => w'.cell? ⟨bb, off, none⟩ = some (.int .i64 (y 0)) ∧ w'.cell? ⟨w3.heap.size, 0, none⟩ = some (.bool bu) ∧ w'.cell? ⟨w3.heap.size, 1, none⟩ = some (.slice Au nu cu))
      (first | with_reducible exact ⟨e0, ow0, ow1⟩ | with_reducible exact ⟨keep_alloc (e0), keep_alloc (ow0), keep_alloc (ow1)⟩ | with_reducible exact ⟨keep_alloc (keep_alloc (e0)), keep_alloc (keep_alloc (ow0)), keep_alloc (keep_alloc (ow1))⟩ | with_reducible exact ⟨(cK qq e0 hb), (cK qq ow0 owl), (cK qq ow1 owl)⟩ | with_reducible exact ⟨keep_alloc ((cK qq e0 hb)), keep_alloc ((cK qq ow0 owl)), keep_alloc ((cK qq ow1 owl))⟩ | with_reducible exact ⟨keep_alloc (keep_alloc ((cK qq e0 hb))), keep_alloc (keep_alloc ((cK qq ow0 owl))), keep_alloc (keep_alloc ((cK qq ow1 owl)))⟩ | with_reducible exact ⟨((cell_store (by omega)).trans (cK qq e0 hb)), ((cell_store (by omega)).trans (cK qq ow0 owl)), ((cell_store (by omega)).trans (cK qq ow1 owl))⟩ | with_reducible exact ⟨keep_alloc (((cell_store (by omega)).trans (cK qq e0 hb))), keep_alloc (((cell_store (by omega)).trans (cK qq ow0 owl))), keep_alloc (((cell_store (by omega)).trans (cK qq ow1 owl)))⟩ | with_reducible exact ⟨keep_alloc (keep_alloc (((cell_store (by omega)).trans (cK qq e0 hb)))), keep_alloc (keep_alloc (((cell_store (by omega)).trans (cK qq ow0 owl)))), keep_alloc (keep_alloc (((cell_store (by omega)).trans (cK qq ow1 owl))))⟩ | go_keep)
      (first
        | (go_at_call 58; (with_reducible refine (CF 0 (hu.on BB0)).mono ?_); rintro e y1 ⟨bm, Am, nm, cm, rfl, hm, q⟩; have qq := BB0.trans (q.mono BB0.size); have hl' := (hl.on BB0).on q; have hu' := (hu.on BB0).on q; have qs1 := qq.size; clear q)
        | (go_at_call 58; (with_reducible refine (CF 0 (hu.on BB1)).mono ?_); rintro e y1 ⟨bm, Am, nm, cm, rfl, hm, q⟩; have qq := BB1.trans (q.mono BB1.size); have hl' := (hl.on BB1).on q; have hu' := (hu.on BB1).on q; have qs1 := qq.size; obtain ⟨bo_0, fo_0, bo_1, fo_1, ol⟩ := zb2 (g := v4.heap.size) q (by simp) (by simp [Cs2, go_sem]) (by simp [Fz2, go_sem]); clear q))
    all_goals (go_wp2_with fail; go_meet)
    all_goals refine ⟨_, bm, Am, nm, cm, rfl, ?_⟩
    all_goals first
      | with_reducible exact loneFA hm qq _
      | with_reducible exact loneFB bo_0 bo_1 fo_0 fo_1 hm qq (by omega)
  case rest =>
    obtain ⟨gt, bt, At, nt, ct, rfl, ⟨⟨t0, t1⟩, ht, b, tge⟩, tf0, tf1⟩ := hcut
    have hB0 := b
    have tl := cell_lt t0
    simp only at tl
    have tqow : w3.heap.size < gt := Nat.lt_of_lt_of_le owl tge
    replace e0 := cK b e0 hb
    replace hb := lK b hb
    replace hl := hl.on b
    replace hu := hu.on b
    rewrite [cR b owl] at ow0 ow1
    replace owl := lK b owl
    replace cc := bK cc b
    clear b
    clear hu hl ow0 ow1 owl hb e0 tl cc
    have HGE := Lib.hid tge
    clear tge tqow
    go_wp2_with fail
    go_loopw [10, 13] (fun bv cv wr => ∃ (p c : Nat) (b : Bool) (A : Option Addr) (n q : Nat), c = p + 1 ∧ c ≤ 256 ∧ cv = .int .i64 (c : Int) ∧ bv = .int .i64 ((lpl d p : Nat) : Int) ∧ Box wr gt b A n q ∧ wr.frozen? ⟨gt, 0, none⟩ = false ∧ wr.frozen? ⟨gt, 1, none⟩ = false ∧ Zn wr b A n q (d (lpl d p)) ∧ Below v4.heap.size v4 wr) (fun _ cv _ => 256 - (intOf cv).toNat)
    case atStart => exact ⟨0, 1, _, _, _, _, rfl, by omega, rfl, rfl, ⟨t0, t1⟩, tf0, tf1, ht, hB0⟩
    case round =>
      clear t0 t1 tf0 tf1 ht hB0
      obtain ⟨p, c, bt, At, nt, ct, hpc, hc6, rfl, rfl, ⟨t0, t1⟩, tf0, tf1, ht, hB0⟩ := hrel
      by_cases hlt : c < 256
      · skip
        have tl := cell_lt t0
        simp only at tl
        have hu := HUV.out.on hB0
        have hl := HLV.out.on hB0
        have ow0 := (hB0.cell (p := ⟨w3.heap.size, 0, none⟩) OL.out).trans O0.out
        have ow1 := (hB0.cell (p := ⟨w3.heap.size, 1, none⟩) OL.out).trans O1.out
        have owl := Nat.lt_of_lt_of_le OL.out hB0.size
        have hb := Nat.lt_of_lt_of_le HBV.out hB0.size
        have cc := CCV.out.trans (hB0.mono CCV.out.size)
        have e0 : wr.cell? ⟨bb, off + c, none⟩ = some (.int .i64 (y c)) := by have h := hl.cell (j := c) (by omega); rw [hnum c] at h; exact h
        have CFc := fun {W} {b} {A} {n c_} (h : Zn W b A n c_ s) => CF c h
        have lc := ld c
        have lp := ld (lpl d p)
        have hN : lpl d c = if d c < d (lpl d p) then c else lpl d p := by rw [hpc]; rfl
        obtain ⟨x_, hx_⟩ : ∃ x, d c = x := ⟨_, rfl⟩
        obtain ⟨z_, hz_⟩ : ∃ z, d (lpl d p) = z := ⟨_, rfl⟩
        obtain ⟨yc, hyc⟩ : ∃ v, y c = v := ⟨_, rfl⟩
        rw [hx_] at CFc lc hN
        rw [hz_] at lp hN ht
        rw [hyc] at CFc e0
        have HX := Lib.hid hx_
        have HZZ := Lib.hid hz_
        have HN := Lib.hid hN
        have HP := Lib.hid hpc
        have c256 : (c : Int) < 256 := by omega
        have tgo : gt ≠ w3.heap.size := by have := OL.out; have := HGE.out; omega
        clear hN hx_ hz_ hyc hl hpc CF hnum hlen ld CO CB CS
        go_upto_region 10 with fail
        go_cut [14] (fun u wx => ∃ (g_ : Nat) (b_ : Bool) (A_ : Option Addr) (n_ c_ : Nat), u = .pointer (some ⟨g_, 0, none⟩) ∧ LoneZ wr wx g_ b_ A_ n_ c_ (x_))
        case first =>
          have BB0 : Below wr.heap.size wr wr.drew := below_drewN (Below.refl _ wr) 1
          have BB1 : Below wr.heap.size wr (wr.alloc (.cells #[.bool false, .slice none 0 0] 81)).drew := below_drewN (below_one _ _) 1
          go_region_held3 (fun w' => w'.cell? ⟨bb, off + c, none⟩ = some (.int .i64 yc) ∧ w'.cell? ⟨w3.heap.size, 0, none⟩ = some (.bool bu) ∧ w'.cell? ⟨w3.heap.size, 1, none⟩ = some (.slice Au nu cu) ∧ w'.cell? ⟨gt, 0, none⟩ = some (.bool bt) ∧ w'.cell? ⟨gt, 1, none⟩ = some (.slice At nt ct))
            (first | with_reducible exact ⟨e0, ow0, ow1, t0, t1⟩ | with_reducible exact ⟨keep_alloc (e0), keep_alloc (ow0), keep_alloc (ow1), keep_alloc (t0), keep_alloc (t1)⟩ | with_reducible exact ⟨keep_alloc (keep_alloc (e0)), keep_alloc (keep_alloc (ow0)), keep_alloc (keep_alloc (ow1)), keep_alloc (keep_alloc (t0)), keep_alloc (keep_alloc (t1))⟩ | with_reducible exact ⟨(cK qq e0 hb), (cK qq ow0 owl), (cK qq ow1 owl), (cK qq t0 tl), (cK qq t1 tl)⟩ | with_reducible exact ⟨keep_alloc ((cK qq e0 hb)), keep_alloc ((cK qq ow0 owl)), keep_alloc ((cK qq ow1 owl)), keep_alloc ((cK qq t0 tl)), keep_alloc ((cK qq t1 tl))⟩ | with_reducible exact ⟨keep_alloc (keep_alloc ((cK qq e0 hb))), keep_alloc (keep_alloc ((cK qq ow0 owl))), keep_alloc (keep_alloc ((cK qq ow1 owl))), keep_alloc (keep_alloc ((cK qq t0 tl))), keep_alloc (keep_alloc ((cK qq t1 tl)))⟩ | with_reducible exact ⟨((cell_store (by omega)).trans (cK qq e0 hb)), ((cell_store (by omega)).trans (cK qq ow0 owl)), ((cell_store (by omega)).trans (cK qq ow1 owl)), ((cell_store (by omega)).trans (cK qq t0 tl)), ((cell_store (by omega)).trans (cK qq t1 tl))⟩ | with_reducible exact ⟨keep_alloc (((cell_store (by omega)).trans (cK qq e0 hb))), keep_alloc (((cell_store (by omega)).trans (cK qq ow0 owl))), keep_alloc (((cell_store (by omega)).trans (cK qq ow1 owl))), keep_alloc (((cell_store (by omega)).trans (cK qq t0 tl))), keep_alloc (((cell_store (by omega)).trans (cK qq t1 tl)))⟩ | with_reducible exact ⟨keep_alloc (keep_alloc (((cell_store (by omega)).trans (cK qq e0 hb)))), keep_alloc (keep_alloc (((cell_store (by omega)).trans (cK qq ow0 owl)))), keep_alloc (keep_alloc (((cell_store (by omega)).trans (cK qq ow1 owl)))), keep_alloc (keep_alloc (((cell_store (by omega)).trans (cK qq t0 tl)))), keep_alloc (keep_alloc (((cell_store (by omega)).trans (cK qq t1 tl))))⟩ | go_keep)
            (first
              | (go_at_call 58; (with_reducible refine (CFc (hu.on BB0)).mono ?_); rintro e y1 ⟨bm, Am, nm, cm, rfl, hm, q⟩; have qq := BB0.trans (q.mono BB0.size); have hu' := (hu.on BB0).on q; have ht' := (ht.on BB0).on q; have qs1 := qq.size; clear q)
              | (go_at_call 58; (with_reducible refine (CFc (hu.on BB1)).mono ?_); rintro e y1 ⟨bm, Am, nm, cm, rfl, hm, q⟩; have qq := BB1.trans (q.mono BB1.size); have hu' := (hu.on BB1).on q; have ht' := (ht.on BB1).on q; have qs1 := qq.size; obtain ⟨bo_0, fo_0, bo_1, fo_1, ol⟩ := zb2 (g := wr.heap.size) q (by simp) (by simp [Cs2, go_sem]) (by simp [Fz2, go_sem]); clear q))
          all_goals (go_wp2_with fail; go_meet)
          all_goals refine ⟨_, bm, Am, nm, cm, rfl, ?_⟩
          all_goals first
            | with_reducible exact loneZA hm qq _
            | with_reducible exact loneZB bo_0 bo_1 hm qq (by omega)
        case rest =>
          obtain ⟨gx, bx, Ax, nx, cx, rfl, ⟨x0, x1⟩, hx, b, xge⟩ := hcut
          replace hB0 := bK hB0 b
          have xl := cell_lt x0
          simp only at xl
          have xqow : w3.heap.size < gx := Nat.lt_of_lt_of_le owl xge
          have xqt : gt < gx := Nat.lt_of_lt_of_le tl xge
          replace e0 := cK b e0 hb
          replace hb := lK b hb
          replace hu := hu.on b
          replace ht := ht.on b
          rewrite [fR b tl] at tf0 tf1
          rewrite [cR b owl] at ow0 ow1
          replace owl := lK b owl
          rewrite [cR b tl] at t0 t1
          replace tl := lK b tl
          replace cc := bK cc b
          clear b
          obtain ⟨r_, hr_⟩ : ∃ r, cmpZ x_ z_ = r := ⟨_, rfl⟩
          have HR := Lib.hid hr_
          have hxt : gt ≠ gx := by omega
          by_cases hq : x_ < z_
          · have t1_ : decide (r_ < 0) = true := decide_eq_true (by rw [← HR.out]; exact cmpZ_lt.2 hq)
            have HN2 : Hid (lpl d c = c) := Lib.hid (by rw [HN.out, if_pos hq])
            clear hq hr_
            go_wp2_with fail
            refine (rzcmp_w r_ hx ht lc lp HR.out).mono ?_
            rintro e w41 ⟨rfl, b⟩
            replace hB0 := bK hB0 b
            replace e0 := cK b e0 hb
            replace hb := lK b hb
            replace hu := hu.on b
            replace ht := ht.on b
            replace hx := hx.on b
            rewrite [fR b tl] at tf0 tf1
            rewrite [cR b owl] at ow0 ow1
            replace owl := lK b owl
            rewrite [cR b tl] at t0 t1
            replace tl := lK b tl
            rewrite [cR b xl] at x0 x1
            replace xl := lK b xl
            replace cc := bK cc b
            clear b
            have bt_ : Box w41 gt bt At nt ct := ⟨t0, t1⟩
            have BX := Lib.hid (bt_.put bx Ax nx cx)
            have ZX : Hid (Zn ((w41.setCell ⟨gt, 0, none⟩ (.bool bx)).setCell ⟨gt, 1, none⟩ (.slice Ax nx cx)) bx Ax nx cx x_) := Lib.hid (hx.put bt_ _ _)
            have F0 : Hid (((w41.setCell ⟨gt, 0, none⟩ (.bool bx)).setCell ⟨gt, 1, none⟩ (.slice Ax nx cx)).frozen? ⟨gt, 0, none⟩ = false) := Lib.hid (by simpa [go_sem] using tf0)
            have F1 : Hid (((w41.setCell ⟨gt, 0, none⟩ (.bool bx)).setCell ⟨gt, 1, none⟩ (.slice Ax nx cx)).frozen? ⟨gt, 1, none⟩ = false) := Lib.hid (by simpa [go_sem] using tf1)
            have HBN := Lib.hid (below_put hB0 HGE.out (.bool bx) (.slice Ax nx cx))
            go_wp2_with fail
            go_roundw
            case rel => exact ⟨c, c + 1, bx, Ax, nx, cx, rfl, by omega, by go_num, by rw [HN2.out], BX.out, F0.out, F1.out, by rw [HN2.out, HX.out]; exact ZX.out, HBN.out⟩
            case measure => simp [intOf] <;> omega
          · have t1_ : decide (r_ < 0) = false := decide_eq_false (by rw [← HR.out, cmpZ_lt]; exact hq)
            have HN2 : Hid (lpl d c = lpl d p) := Lib.hid (by rw [HN.out, if_neg hq])
            clear hq hr_
            go_wp2_with fail
            refine (rzcmp_w r_ hx ht lc lp HR.out).mono ?_
            rintro e w41 ⟨rfl, b⟩
            replace hB0 := bK hB0 b
            replace e0 := cK b e0 hb
            replace hb := lK b hb
            replace hu := hu.on b
            replace ht := ht.on b
            replace hx := hx.on b
            rewrite [fR b tl] at tf0 tf1
            rewrite [cR b owl] at ow0 ow1
            replace owl := lK b owl
            rewrite [cR b tl] at t0 t1
            replace tl := lK b tl
            rewrite [cR b xl] at x0 x1
            replace xl := lK b xl
            replace cc := bK cc b
            clear b
            go_wp2_with fail
            go_roundw
            case rel => exact ⟨c, c + 1, bt, At, nt, ct, rfl, by omega, by go_num, by rw [HN2.out], ⟨t0, t1⟩, tf0, tf1, by rw [HN2.out, HZZ.out]; exact ht, hB0⟩
            case measure => simp [intOf] <;> omega
      · obtain rfl : p = 255 := by omega
        obtain rfl : c = 256 := by omega
        obtain ⟨r, hr⟩ : ∃ r, lpl d 255 = r := ⟨_, rfl⟩
        rw [hr] at hle ⊢
        have kw : IntKind.u8.wrap (r : Int) = (r : Int) := by rw [IntKind.wrap_u8]; omega
        have cc := CCV.out.trans (hB0.mono CCV.out.size)
        go_wp2_with fail
        go_ret2
        exact ⟨rfl, cc⟩

end Go.Proofs.YtpidpebgeblenaaGreat

/-
  Rows of bytes, blocks: what a slice value reads as, what keeps it, what is answered.
-/
namespace Go.Proofs.YtpidpebgeblenaaGreat
open Go.RowKit
set_option linter.unusedVariables false

/-- A block, and a code, are answered. -/
def GotBp (w : World) (k s : Int) (C : List Nat) (W : List Int) (r : Int) (e : Ending) (w' : World) : Prop :=
  ∃ A n c B m d, e = .returned (.tuple #[.agg #[.int .i64 k, .int .i64 s, .slice A n c, .slice B m d], .int .i64 r]) ∧ BR w' A n c C ∧ IR w' B m d W ∧ Below w.heap.size w w'
/-- What the first i are, one by one. -/
def anyK {α : Type} (P : α → Bool) (l : List α) (i : Nat) : Bool := (l.take i).any P
def allK {α : Type} (P : α → Bool) (l : List α) (i : Nat) : Bool := (l.take i).all P
theorem anyK_zero {α : Type} (P : α → Bool) (l : List α) : anyK P l 0 = false := by simp [anyK]
theorem allK_zero {α : Type} (P : α → Bool) (l : List α) : allK P l 0 = true := by simp [allK]
theorem take_at {α : Type} {l : List α} (d : α) {i : Nat} (h : i < l.length) : l.take (i + 1) = l.take i ++ [l[i]?.getD d] := by
  rw [List.take_add_one, List.getElem?_eq_getElem h]; rfl
theorem anyK_succ {α : Type} (P : α → Bool) {l : List α} (d : α) {i : Nat} (h : i < l.length) : anyK P l (i + 1) = (anyK P l i || P (l[i]?.getD d)) := by
  unfold anyK; rw [take_at d h, List.any_append]; simp
theorem allK_succ {α : Type} (P : α → Bool) {l : List α} (d : α) {i : Nat} (h : i < l.length) : allK P l (i + 1) = (allK P l i && P (l[i]?.getD d)) := by
  unfold allK; rw [take_at d h, List.all_append]; simp
theorem anyK_end {α : Type} (P : α → Bool) (l : List α) : anyK P l l.length = l.any P := by unfold anyK; rw [List.take_length]
theorem allK_end {α : Type} (P : α → Bool) (l : List α) : allK P l l.length = l.all P := by unfold allK; rw [List.take_length]
/-- A code of the greatest, told by what the tenth reference says of 1, and of -1. -/
def endP (top low : Nat) (sg : Bool) (c : Nat) : Bool := c == top || (sg && c == low)
theorem okC_eq {k s : Int} {C : List Nat} {sg : Bool} (hs : sg = decide (Shr k (-1) 1)) : decide (OkC k s C) = (if s = 0 then C.all (fun c => c == near10 k 0 1) else decide (0 < s) && C.any (endP (near10 k 1 1) (near10 k (-1) 1) sg)) := by
  have e : ∀ c, endP (near10 k 1 1) (near10 k (-1) 1) sg c = decide (EndC k c) := by
    intro c
    unfold endP
    rw [Bool.eq_iff_iff, Bool.or_eq_true, beq_iff_eq, Bool.and_eq_true, beq_iff_eq, hs, decide_eq_true_eq, decide_eq_true_eq]
    exact Iff.rfl
  split
  · rename_i h
    rw [Bool.eq_iff_iff, decide_eq_true_eq, List.all_eq_true]
    constructor
    · rintro (⟨_, g⟩ | ⟨g, _⟩)
      · intro c hc; rw [beq_iff_eq]; exact g c hc
      · omega
    · intro g; exact .inl ⟨h, fun c hc => beq_iff_eq.1 (g c hc)⟩
  · rename_i h
    rw [Bool.eq_iff_iff, decide_eq_true_eq, Bool.and_eq_true, decide_eq_true_eq, List.any_eq_true]
    constructor
    · rintro (⟨g, _⟩ | ⟨g, c, hc, g2⟩)
      · exact absurd g h
      · exact ⟨g, c, hc, by rw [e]; exact decide_eq_true g2⟩
    · rintro ⟨g, c, hc, g2⟩; exact .inr ⟨g, c, hc, by rw [e] at g2; exact of_decide_eq_true g2⟩
end Go.Proofs.YtpidpebgeblenaaGreat

/-
  Rows of integers and of bytes, blocks, two small integers that came in.
-/
namespace Go.Proofs.YtpidpebgeblenaaGreat
set_option maxRecDepth 100000
open Go.ChangeShapes Go.WideShapes Go.ChangeAt Go.RowKit Go.Joins

theorem ir_row {w : World} {a : Option Addr} {len cap : Nat} {zs : List Int}
    (h : (a = none ∧ len = 0 ∧ cap = 0 ∧ zs = []) ∨ ∃ x, a = some x ∧ len ≤ cap ∧ cap ≤ maxLen ∧ zs.length = cap ∧ (∀ i, i < zs.length → w.cell? (x.add i) = some (.int .i64 (zs.getD i 0))) ∧ ∀ n ∈ zs, (Lit.int .i64 n).wf = true) :
    ∃ l, IR w a len cap l ∧ len ≤ 9223372036854775807 ∧ ∀ x ∈ l, I64 x := by
  rcases h with ⟨rfl, rfl, rfl, rfl⟩ | ⟨x, rfl, hl, hm, hz, hc, hw⟩
  · exact ⟨[], IR.nil _ _ _, by omega, fun x hx => by simp at hx⟩
  · refine ⟨zs.take len, ⟨by simp; omega, hl, fun h0 => ?_⟩, by unfold maxLen at hm; omega, fun y hy => bounds_i64 (hw y (List.mem_of_mem_take hy))⟩
    obtain ⟨b, off, rfl, hcell⟩ := ints_at hc (by omega)
    refine ⟨b, off, rfl, block_lt (hcell 0 (by omega)), fun j hj => ?_⟩
    rw [hcell j (by omega), List.getElem?_take_of_lt hj]
    simp [List.getD_eq_getElem?_getD]
section
variable {H : Type} {enc : TypeId × Value → H} {W : World} {base : Nat} {held : Bool} {v : Value} {y : DataW H × List MemPlace} {n : Nat}
theorem trod_i64s (h : DataW.trod enc Tryz.prog W base (fun _ => true) held n 34 [v] = some y) :
    ∃ (a : Option Addr) (len cap : Nat) (l : List Int), v = .slice a len cap ∧ IR W a len cap l ∧ len ≤ 9223372036854775807 ∧ ∀ x ∈ l, I64 x := by
  rcases open_ints Tryz.underlying34 Tryz.underlying2 (by kernel_rfl) h with ⟨hcs, _⟩ | ⟨x, l, c, zs, hcs, _, hl, hm, hz, _, hcell, hwz⟩
  · injection hcs with hcs _
    subst hcs
    obtain ⟨l, hl⟩ := ir_row (w := W) (a := none) (len := 0) (cap := 0) (zs := []) (.inl ⟨rfl, rfl, rfl, rfl⟩)
    exact ⟨none, 0, 0, l, rfl, hl⟩
  · injection hcs with hcs _
    subst hcs
    obtain ⟨l', hl'⟩ := ir_row (w := W) (a := some x) (len := l) (cap := c) (zs := zs) (.inr ⟨x, rfl, hl, hm, by simpa using hz, hcell, hwz⟩)
    exact ⟨some x, l, c, l', rfl, hl'⟩
end
end Go.Proofs.YtpidpebgeblenaaGreat

/-
  Rows of blocks: what a slice value reads as, what keeps it.
-/
namespace Go.Proofs.YtpidpebgeblenaaGreat
open Go.RowKit
set_option linter.unusedVariables false

/-- A block: its kind, its scale, its codes, its wide ones. -/
abbrev Bk := Int × Int × List Nat × List Int
def bk0 : Bk := (0, 0, [], [])
/-- The four cells of a block, and what its rows read as. -/
def BlkAt (w : World) (b o : Nat) (x : Bk) : Prop :=
  ∃ A n c B m d, w.cell? ⟨b, o, none⟩ = some (.int .i64 x.1) ∧ w.cell? ⟨b, o + 1, none⟩ = some (.int .i64 x.2.1) ∧ w.cell? ⟨b, o + 2, none⟩ = some (.slice A n c) ∧ w.cell? ⟨b, o + 3, none⟩ = some (.slice B m d) ∧ BR w A n c x.2.2.1 ∧ IR w B m d x.2.2.2 ∧ n ≤ 9223372036854775807 ∧ m ≤ 9223372036854775807 ∧ I64 x.2.1 ∧ ∀ z ∈ x.2.2.2, I64 z
theorem BlkAt.on {w w' : World} {b o : Nat} {x : Bk} (h : BlkAt w b o x) (hb : Below w.heap.size w w') : BlkAt w' b o x := by
  obtain ⟨A, n, c, B, m, d, h0, h1, h2, h3, hC, hW, hn, hm⟩ := h
  have hl : b < w.heap.size := by
    rcases Nat.lt_or_ge b w.heap.size with h4 | h4
    · exact h4
    · simp [World.cell?, Array.getElem?_eq_none h4] at h0
  exact ⟨A, n, c, B, m, d, cK hb h0 hl, cK hb h1 hl, cK hb h2 hl, cK hb h3 hl, hC.on hb, hW.on hb, hn, hm⟩
/-- The slice value '.slice A n c' holds the blocks L. -/
def KR (w : World) (A : Option Addr) (n c : Nat) (L : List Bk) : Prop :=
  n = L.length ∧ n ≤ c ∧ (0 < n → ∃ b off, A = some ⟨b, off, none⟩ ∧ b < w.heap.size ∧ ∀ j, j < n → BlkAt w b (off + j * 4) (L[j]?.getD bk0))
theorem KR.on {w w' : World} {A : Option Addr} {n c : Nat} {L : List Bk} (h : KR w A n c L) (hb : Below w.heap.size w w') : KR w' A n c L :=
  ⟨h.1, h.2.1, fun hn => by
    obtain ⟨b, off, e, hlt, hc⟩ := h.2.2 hn
    exact ⟨b, off, e, Nat.lt_of_lt_of_le hlt hb.size, fun j hj => (hc j hj).on hb⟩⟩
theorem KR.nil (w : World) (A : Option Addr) (c : Nat) : KR w A 0 c [] := ⟨rfl, Nat.zero_le _, fun h => absurd h (by omega)⟩
theorem KR.some {w : World} {A : Option Addr} {n c : Nat} {L : List Bk} (h : KR w A n c L) (hn : 0 < n) : ∃ b off, A = Option.some ⟨b, off, none⟩ ∧ b < w.heap.size := by
  obtain ⟨b, off, e, hlt, hc⟩ := h.2.2 hn
  exact ⟨b, off, e, hlt⟩
theorem kr_at {w : World} {b off n c j : Nat} {L : List Bk} (h : KR w (some ⟨b, off, none⟩) n c L) (hj : j < n) : BlkAt w b (off + j * 4) (L[j]?.getD bk0) := by
  obtain ⟨b', off', e, hlt, hc⟩ := h.2.2 (by omega)
  injection e with e
  injection e with e1 e2
  subst e1 e2
  exact hc j hj
end Go.Proofs.YtpidpebgeblenaaGreat

/-
  Keeps and Stores that came in.
-/
namespace Go.Proofs.YtpidpebgeblenaaGreat
set_option maxRecDepth 100000
open Go.ChangeShapes Go.WideShapes Go.ChangeAt Go.RowKit Go.Joins Go.Deep
set_option linter.unusedVariables false

section
variable {H : Type} {enc : TypeId × Value → H} {W : World} {base : Nat} {held : Bool} {y : DataW H × List MemPlace} {n : Nat}
theorem trod_blk {cs : List Value} (h : DataW.trod enc Tryz.prog W base (fun _ => true) held n 43 cs = some y) :
    ∃ (k s : Int) (a : Option Addr) (n c : Nat) (C : List Nat) (b : Option Addr) (m e : Nat) (L : List Int), cs = [.int .i64 k, .int .i64 s, .slice a n c, .slice b m e] ∧ BR W a n c C ∧ IR W b m e L ∧ n ≤ 9223372036854775807 ∧ m ≤ 9223372036854775807 ∧ I64 s ∧ ∀ z ∈ L, I64 z := by
  obtain ⟨y0, y1, y2, y3, n, _, hl, h0, h1, h2, h3⟩ := trod_struct4 Tryz.underlying43 h
  have k4 : Tryz.prog.cellsOf 43 = 4 := by kernel_rfl
  have ki : Tryz.prog.cellsOf 3 = 1 := by kernel_rfl
  have kj : Tryz.prog.cellsOf 2 = 1 := by kernel_rfl
  have kb : Tryz.prog.cellsOf 41 = 1 := by kernel_rfl
  have kl : Tryz.prog.cellsOf 34 = 1 := by kernel_rfl
  rw [k4] at hl
  match cs, hl with
  | [v0, v1, v2, v3], _ =>
    simp only [ki, kj, kb, kl] at h0 h1 h2 h3
    obtain ⟨k, hk, _, _⟩ := DataW.trod_int Tryz.underlying3 h0
    obtain ⟨s, hs, _, ws⟩ := DataW.trod_int Tryz.underlying2 h1
    obtain ⟨a, n, c, C, e2, hC, hn, _⟩ := trod_u8s (v := v2) h2
    obtain ⟨b, m, e, L, e3, hL, hm, hi⟩ := trod_i64s (v := v3) h3
    have hk2 : v0 = .int .i64 k := by injection hk
    have hs2 : v1 = .int .i64 s := by injection hs
    subst hk2 hs2 e2 e3
    exact ⟨k, s, a, n, c, C, b, m, e, L, rfl, hC, hL, hn, hm, bounds_i64 ws, hi⟩
theorem trod_blks {v : Value} (h : DataW.trod enc Tryz.prog W base (fun _ => true) held n 24 [v] = some y) :
    ∃ (A : Option Addr) (n c : Nat) (L : List Bk), v = .slice A n c ∧ KR W A n c L ∧ n ≤ 9223372036854775807 := by
  have k4 : Tryz.prog.cellsOf 43 = 4 := by kernel_rfl
  rcases open_slice Tryz.underlying24 h with ⟨hcs, _⟩ | ⟨a, len, cap, m, n, D, Pl, hcs, _, hl, hm, hmm, _, hx⟩
  · injection hcs with hcs _
    exact ⟨none, 0, 0, [], hcs, KR.nil _ _ _, by omega⟩
  · injection hcs with hcs _
    have hm2 : m = cap := by simpa using hmm
    rw [k4] at hx
    refine ⟨some a, len, cap, ?_⟩
    rcases Nat.eq_zero_or_pos len with h0 | h0
    · subst h0
      exact ⟨[], hcs, KR.nil _ _ _, by omega⟩
    · have hsp : a.spot = none := by
        obtain ⟨cs', h1, h2⟩ := hx 0 (by omega)
        obtain ⟨_, hlen, hc⟩ := World.cells?_some h1
        obtain ⟨k, s, A, n, c, C, B, m, e, L, rfl, _⟩ := trod_blk h2
        simpa [Addr.add] using World.cell?_spot (hc 0 (by omega))
      obtain ⟨b, off, spot⟩ := a
      have hsp2 : spot = none := hsp
      subst hsp2
      have cell : ∀ i, i < len → ∃ x : Bk, BlkAt W b (off + i * 4) x := fun i hi => by
        obtain ⟨cs', h1, h2⟩ := hx i (by omega)
        obtain ⟨_, hlen, hc⟩ := World.cells?_some h1
        obtain ⟨k, s, A, n, c, C, B, m, e, L, rfl, hC, hL, hn, hm3, hs, hz⟩ := trod_blk h2
        refine ⟨(k, s, C, L), A, n, c, B, m, e, ?_, ?_, ?_, ?_, hC, hL, hn, hm3, hs, hz⟩
        · have := hc 0 (by omega); rw [addr_add, addr_add] at this; exact this
        · have := hc 1 (by omega); rw [addr_add, addr_add] at this; exact this
        · have := hc 2 (by omega); rw [addr_add, addr_add] at this; exact this
        · have := hc 3 (by omega); rw [addr_add, addr_add] at this; exact this
      let f : Nat → Bk := fun i => if h : i < len then (cell i h).choose else bk0
      have hf : ∀ i, (h : i < len) → BlkAt W b (off + i * 4) (f i) := fun i h => by
        show BlkAt W b (off + i * 4) (if h : i < len then (cell i h).choose else bk0)
        rw [dif_pos h]
        exact (cell i h).choose_spec
      refine ⟨(List.range len).map f, hcs, ⟨by simp, hl, fun _ => ⟨b, off, rfl, ?_, fun j hj => ?_⟩⟩, by unfold maxLen at hm; omega⟩
      · obtain ⟨A, n, c, B, m, d, h0, _⟩ := hf 0 h0
        exact cell_blockB h0
      · rw [List.getElem?_map, List.getElem?_range hj]
        exact hf j hj
theorem trod_keep {cs : List Value} (h : DataW.trod enc Tryz.prog W base (fun _ => true) held n 23 cs = some y) :
    ∃ kk ks km ko : Int, cs = [.int .i64 kk, .int .i64 ks, .int .i64 km, .int .i64 ko] ∧ I64 kk ∧ I64 ks ∧ I64 km ∧ I64 ko := by
  obtain ⟨y0, y1, y2, y3, n, _, hl, h0, h1, h2, h3⟩ := trod_struct4 Tryz.underlying23 h
  have k4 : Tryz.prog.cellsOf 23 = 4 := by kernel_rfl
  have ki : Tryz.prog.cellsOf 3 = 1 := by kernel_rfl
  have kj : Tryz.prog.cellsOf 2 = 1 := by kernel_rfl
  rw [k4] at hl
  match cs, hl with
  | [v0, v1, v2, v3], _ =>
    simp only [ki, kj] at h0 h1 h2 h3
    obtain ⟨a, ha, _, wa⟩ := DataW.trod_int Tryz.underlying3 h0
    obtain ⟨b, hb, _, wb⟩ := DataW.trod_int Tryz.underlying3 h1
    obtain ⟨c, hc, _, wc⟩ := DataW.trod_int Tryz.underlying3 h2
    obtain ⟨d, hd, _, wd⟩ := DataW.trod_int Tryz.underlying2 h3
    have ha2 : v0 = .int .i64 a := by injection ha
    have hb2 : v1 = .int .i64 b := by injection hb
    have hc2 : v2 = .int .i64 c := by injection hc
    have hd2 : v3 = .int .i64 d := by injection hd
    subst ha2 hb2 hc2 hd2
    exact ⟨a, b, c, d, rfl, bounds_i64 wa, bounds_i64 wb, bounds_i64 wc, bounds_i64 wd⟩
end
theorem list_six {α : Type} {l : List α} (h : l.length = 6) : ∃ a b c d e f, l = [a, b, c, d, e, f] := by
  match l, h with
  | [a, b, c, d, e, f], _ => exact ⟨a, b, c, d, e, f, rfl⟩
theorem open_store {H : Type} {enc : TypeId × Value → H} {W : World} {base b0 : Nat} {held : Bool} {r : Reach} {v : Value} {d : DataW H} {p : List MemPlace} (hv : Value.okWide Tryz.prog W r b0 26 v) (h : DataW.Trod enc Tryz.prog W base (fun _ => true) held 26 v d p) :
    ∃ (kk ks km ko lg : Int) (A : Option Addr) (n c : Nat) (L : List Bk), v = .agg #[.int .i64 kk, .int .i64 ks, .int .i64 km, .int .i64 ko, .int .i64 lg, .slice A n c] ∧ KR W A n c L ∧ n ≤ 9223372036854775807 ∧ (I64 kk ∧ I64 ks ∧ I64 km ∧ I64 ko ∧ I64 lg) := by
  obtain ⟨cs, rfl, hsz⟩ := okWide_struct Tryz.underlying26 hv
  obtain ⟨fuel, hf⟩ := h
  have k6 : Tryz.prog.cellsOf 26 = 6 := by kernel_rfl
  have k4 : Tryz.prog.cellsOf 23 = 4 := by kernel_rfl
  have ki : Tryz.prog.cellsOf 3 = 1 := by kernel_rfl
  have kb : Tryz.prog.cellsOf 24 = 1 := by kernel_rfl
  obtain ⟨l⟩ := cs
  obtain ⟨c0, c1, c2, c3, c4, c5, rfl⟩ := list_six (hsz.trans k6)
  obtain ⟨y0, y1, y2, n, _, _, h0, h1, h2⟩ := trod_struct3 Tryz.underlying26 hf
  simp only [Value.cells, k4, ki, kb] at h0 h1 h2
  obtain ⟨kk, ks, km, ko, e, w0, w1, w2, w3⟩ := trod_keep h0
  obtain ⟨lg, hlg, _, w4⟩ := DataW.trod_int Tryz.underlying3 h1
  obtain ⟨A, n, c, L, e5, hK, hn⟩ := trod_blks (v := c5) h2
  have e' : [c0, c1, c2, c3] = [.int .i64 kk, .int .i64 ks, .int .i64 km, .int .i64 ko] := e
  have hlg2 : [c4] = [.int .i64 lg] := hlg
  injection e' with a0 e'
  injection e' with a1 e'
  injection e' with a2 e'
  injection e' with a3 _
  injection hlg2 with a4 _
  subst a0 a1 a2 a3 a4 e5
  exact ⟨kk, ks, km, ko, lg, A, n, c, L, rfl, hK, hn, w0, w1, w2, w3, bounds_i64 w4⟩
end Go.Proofs.YtpidpebgeblenaaGreat

/-
  Spans: values, boxes, what is answered.
-/
namespace Go.Proofs.YtpidpebgeblenaaGreat
open Go.RowKit
set_option linter.unusedVariables false
set_option linter.unusedSimpArgs false

/-- A span: both ends. -/
def St (w : World) (b : Bool) (A : Option Addr) (n c : Nat) (B : Option Addr) (m d : Nat) (v : Bool) (V : Option Addr) (r k : Nat) (U : Option Addr) (o q : Nat) (x y : Rat) : Prop := Rt w b A n c B m d x ∧ Rt w v V r k U o q y
/-- A call has answered a span; and one with a code. -/
def GotSt (w : World) (x y : Rat) (e : Ending) (w' : World) : Prop := ∃ b A n c B m d v V r k U o q, e = .returned (.agg #[.bool b, .slice A n c, .slice B m d, .bool v, .slice V r k, .slice U o q]) ∧ St w' b A n c B m d v V r k U o q x y ∧ Below w.heap.size w w'
def GotSp (w : World) (x y : Rat) (z : Int) (e : Ending) (w' : World) : Prop := ∃ b A n c B m d v V r k U o q, e = .returned (.tuple #[.agg #[.bool b, .slice A n c, .slice B m d, .bool v, .slice V r k, .slice U o q], .int .i64 z]) ∧ St w' b A n c B m d v V r k U o q x y ∧ Below w.heap.size w w'
/-- A box of six cells, none of which is a digit. -/
def Held (W : World) (g : Nat) : Prop := ∀ i, i < 6 → ∃ u, W.cell? ⟨g, i, none⟩ = some u ∧ ∀ k n, u ≠ .int k n
theorem Held.set {W : World} {g j : Nat} {v : Value} (h : Held W g) (hj : j < 6) (hv : ∀ k n, v ≠ .int k n) : Held (W.setCell ⟨g, j, none⟩ v) g := by
  intro i hi
  obtain ⟨u, h1, h2⟩ := h i hi
  by_cases e : j = i
  · subst e
    exact ⟨v, World.cell?_setCell_same _ _ _ h1, hv⟩
  · exact ⟨u, (World.cell?_setCell_other _ _ _ _ (addr_ne e)).trans h1, h2⟩
theorem Num.held {W : World} {g j : Nat} {v : Value} {A : Option Addr} {n c x : Nat} (hn : Num W A n c x) (h : Held W g) (hj : j < 6) : Num (W.setCell ⟨g, j, none⟩ v) A n c x := by
  obtain ⟨u, h1, h2⟩ := h j hj
  exact hn.set_other h1 h2
/-- All six cells are written. -/
@[reducible] def putS (W : World) (g : Nat) (a b c d e f : Value) : World := (((((W.setCell ⟨g, 0, none⟩ a).setCell ⟨g, 1, none⟩ b).setCell ⟨g, 2, none⟩ c).setCell ⟨g, 3, none⟩ d).setCell ⟨g, 4, none⟩ e).setCell ⟨g, 5, none⟩ f
section
variable {W : World} {g : Nat}
theorem Num.putS {A : Option Addr} {n c x : Nat} (hn : Num W A n c x) (h : Held W g) (b v : Bool) (u1 u2 u4 u5 : Option Addr × Nat × Nat) : Num (putS W g (.bool b) (.slice u1.1 u1.2.1 u1.2.2) (.slice u2.1 u2.2.1 u2.2.2) (.bool v) (.slice u4.1 u4.2.1 u4.2.2) (.slice u5.1 u5.2.1 u5.2.2)) A n c x := by
  have k0 := h.set (j := 0) (v := .bool b) (by omega) (fun _ _ e => by cases e)
  have k1 := k0.set (j := 1) (v := .slice u1.1 u1.2.1 u1.2.2) (by omega) (fun _ _ e => by cases e)
  have k2 := k1.set (j := 2) (v := .slice u2.1 u2.2.1 u2.2.2) (by omega) (fun _ _ e => by cases e)
  have k3 := k2.set (j := 3) (v := .bool v) (by omega) (fun _ _ e => by cases e)
  have k4 := k3.set (j := 4) (v := .slice u4.1 u4.2.1 u4.2.2) (by omega) (fun _ _ e => by cases e)
  exact (((((hn.held h (by omega)).held k0 (by omega)).held k1 (by omega)).held k2 (by omega)).held k3 (by omega)).held k4 (by omega)
theorem Rt.putS {b0 : Bool} {A0 B0 : Option Addr} {n0 c0 m0 d0 : Nat} {x : Rat} (hr : Rt W b0 A0 n0 c0 B0 m0 d0 x) (h : Held W g) (b v : Bool) {A1 A2 A4 A5 : Option Addr} {n1 c1 n2 c2 n4 c4 n5 c5 : Nat} : Rt (putS W g (.bool b) (.slice A1 n1 c1) (.slice A2 n2 c2) (.bool v) (.slice A4 n4 c4) (.slice A5 n5 c5)) b0 A0 n0 c0 B0 m0 d0 x :=
  ⟨⟨hr.1.1.putS h b v (A1, n1, c1) (A2, n2, c2) (A4, n4, c4) (A5, n5, c5), hr.1.2⟩, hr.2.putS h b v (A1, n1, c1) (A2, n2, c2) (A4, n4, c4) (A5, n5, c5)⟩
end

end Go.Proofs.YtpidpebgeblenaaGreat

/-
  The contracts of the seventh reference: Same, Has, In.
-/
namespace Go.Proofs.YtpidpebgeblenaaGreat
open Go.RowKit
set_option linter.unusedVariables false
set_option linter.unusedSimpArgs false






end Go.Proofs.YtpidpebgeblenaaGreat

/-
  The contracts of the seventh reference: Add.
-/
namespace Go.Proofs.YtpidpebgeblenaaGreat
open Go.RowKit
set_option linter.unusedVariables false
set_option linter.unusedSimpArgs false


end Go.Proofs.YtpidpebgeblenaaGreat

/-
  The contracts of the eighth reference: Add, Sub, Mul, Div, Scale.
-/
namespace Go.Proofs.YtpidpebgeblenaaGreat
set_option maxRecDepth 100000
open Go.RowKit
set_option linter.unusedVariables false
set_option linter.unusedSimpArgs false

set_option maxHeartbeats 8000000 in
theorem rscale8_N {w : World} {a b d : Int} (ha : I64 a) (hb : I64 b) (hd : I64 d) (h1 : 1 ≤ d) :
    Calls Tryz.prog 44 #[.int .i64 a, .int .i64 b, .int .i64 d] w (GotV w (.tuple #[.int .i64 (nI (rn (a * b) d.natAbs)), .int .i64 (nE (rn (a * b) d.natAbs))])) := by
  obtain ⟨q, rfl⟩ : ∃ q : Nat, d = (q : Int) := ⟨d.toNat, by omega⟩
  have sa : Sz ((a : Int) : Rat) 1 := sz_of (len_one ha.abs)
  have sb : Sz ((b : Int) : Rat) 1 := sz_of (len_one hb.abs)
  have sd : Sz (((q : Int) : Int) : Rat) 1 := sz_of (len_one hd.abs)
  have hn : (((q : Int) : Int) : Rat).num ≠ 0 := by show (q : Int) ≠ 0; omega
  have sm := sa.mul sb
  have sv := sm.div sd hn
  obtain ⟨m_, em⟩ : ∃ v, ((a : Int) : Rat) * ((b : Int) : Rat) = v := ⟨_, rfl⟩
  rw [em] at sm sv
  obtain ⟨v, e⟩ : ∃ v, m_ / (((q : Int) : Int) : Rat) = v := ⟨_, rfl⟩
  have eq := nea_scale a b q (by omega)
  rw [em, e] at eq
  rw [e] at sv
  obtain ⟨z, ez⟩ : ∃ z, rn (a * b) q = z := ⟨_, rfl⟩
  rw [ez] at eq
  have t1_ : decide ((q : Int) < 1) = false := decide_eq_false (by omega)
  have hq_ : ((q : Int)).natAbs = q := by omega
  have CN : ∀ {W : World} {b : Bool} {A B : Option Addr} {n c m d : Nat}, Rt W b A n c B m d v → Calls Tryz.prog 54 #[.agg #[.bool b, .slice A n c, .slice B m d], .int .i64 0] W (GotV W (.tuple #[.int .i64 (nI (z)), .int .i64 (nE (z))])) := fun h => by have k := near_N h (sv.le (by omega)) (j := 0) (by omega) (by omega); rw [show (0 : Int).toNat = 0 from rfl, eq] at k; exact k
  have CM : ∀ {W : World} {b0 : Bool} {A0 B0 : Option Addr} {n0 c0 m0 d0 : Nat} {b1 : Bool} {A1 B1 : Option Addr} {n1 c1 m1 d1 : Nat}, Rt W b0 A0 n0 c0 B0 m0 d0 ((a : Int) : Rat) → Rt W b1 A1 n1 c1 B1 m1 d1 ((b : Int) : Rat) → Calls Tryz.prog 52 #[.agg #[.bool b0, .slice A0 n0 c0, .slice B0 m0 d0], .agg #[.bool b1, .slice A1 n1 c1, .slice B1 m1 d1]] W (GotRt W m_) := fun h k => by rw [← em]; exact rtmul_N h (sa.le (by omega)) k (sb.le (by omega))
  obtain ⟨rq, eqq⟩ : ∃ r, (((q : Int) : Int) : Rat) = r := ⟨_, rfl⟩
  have CQ : ∀ W : World, Calls Tryz.prog 53 #[.int .i64 (q : Int)] W (GotRt W rq) := fun W => by rw [← eqq]; exact rtof_N W _ hd
  rw [eqq] at sd hn e
  have CO : ∀ {W : World} {b0 : Bool} {A0 B0 : Option Addr} {n0 c0 m0 d0 : Nat} {b1 : Bool} {A1 B1 : Option Addr} {n1 c1 m1 d1 : Nat}, Rt W b0 A0 n0 c0 B0 m0 d0 m_ → Rt W b1 A1 n1 c1 B1 m1 d1 rq → Calls Tryz.prog 51 #[.agg #[.bool b0, .slice A0 n0 c0, .slice B0 m0 d0], .agg #[.bool b1, .slice A1 n1 c1, .slice B1 m1 d1]] W (GotRp W v 0) := fun h k => by rw [← e]; exact rtdiv_N h (sm.le (by omega)) k (sd.le (by omega)) hn
  rw [hq_, ez]
  clear e em ez eq hn eqq hq_
  have cc := Below.refl w.heap.size w
  go_enter Tryz.func44, Tryz.ntmps44
  go_wp2_with fail
  refine (rtof_N _ a ha).mono ?_
  rintro e w1 ⟨bx, Ax, nx, cx, Bx, mx, dx, rfl, hx, b⟩
  replace cc := bK cc b
  clear b
  go_wp2_with fail
  refine (rtof_N _ b hb).mono ?_
  rintro e w2 ⟨bz, Az, nz, cz, Bz, mz, dz, rfl, hz, b⟩
  replace hx := hx.on b
  replace cc := bK cc b
  clear b
  go_wp2_with fail
  refine (CM hx hz).mono ?_
  rintro e w3 ⟨bu, Au, nu, cu, Bu, mu, du, rfl, hu, b⟩
  replace hx := hx.on b
  replace hz := hz.on b
  replace cc := bK cc b
  clear b
  go_wp2_with fail
  refine (CQ _).mono ?_
  rintro e w4 ⟨be, Ae, ne, ce, Be, me, de, rfl, he, b⟩
  replace hx := hx.on b
  replace hz := hz.on b
  replace hu := hu.on b
  replace cc := bK cc b
  clear b
  go_wp2_with fail
  refine (CO hu he).mono ?_
  rintro e w5 ⟨bk, Ak, nk, ck, Bk, mk, dk, rfl, hk, b⟩
  replace hx := hx.on b
  replace hz := hz.on b
  replace hu := hu.on b
  replace he := he.on b
  replace cc := bK cc b
  clear b
  go_wp2_with fail
  generalize hv_ : w5.alloc (.cells #[.bool bk, .slice Ak nk ck, .slice Bk mk dk] 83) = v6
  have bA : Below w5.heap.size w5 v6 := by rw [← hv_]; exact below_one _ _
  replace hx := hx.on bA
  replace hz := hz.on bA
  replace hu := hu.on bA
  replace he := he.on bA
  replace hk := hk.on bA
  replace cc := bK cc bA
  clear bA
  obtain ⟨xq0, xq1, xq2⟩ : Cs3 v6 w5.heap.size (.bool bk) (.slice Ak nk ck) (.slice Bk mk dk) := by simp [Cs3, ← hv_, go_sem]
  have xql : w5.heap.size < v6.heap.size := by simp [← hv_]
  clear hv_
  go_wp2_with fail
  refine (CN hk).mono ?_
  rintro e w7 ⟨rfl, b⟩
  replace hx := hx.on b
  replace hz := hz.on b
  replace hu := hu.on b
  replace he := he.on b
  replace hk := hk.on b
  rewrite [cR b xql] at xq0 xq1 xq2
  replace xql := lK b xql
  replace cc := bK cc b
  clear b
  go_wp2_with fail
  go_ret2
  exact ⟨rfl, cc⟩

end Go.Proofs.YtpidpebgeblenaaGreat

/-
  The contracts of the eleventh reference: Few, Len; Same of rows.
-/
namespace Go.Proofs.YtpidpebgeblenaaGreat
set_option maxRecDepth 100000
set_option maxHeartbeats 8000000
open Go.RowKit
set_option linter.unusedVariables false
set_option linter.unusedSimpArgs false


theorem rLen_N (w : World) {k s : Int} {A B : Option Addr} {n c m d : Nat} :
    Calls Tryz.prog 22 #[.agg #[.int .i64 k, .int .i64 s, .slice A n c, .slice B m d]] w (GotV w (.int .i64 (IntKind.i64.wrap ((n : Int) + (m : Int))))) := by
  obtain ⟨q, hq⟩ : ∃ q, IntKind.i64.wrap ((n : Int) + (m : Int)) = q := ⟨_, rfl⟩
  rw [hq]
  have cc := Below.refl w.heap.size w
  go_enter Tryz.func22, Tryz.ntmps22
  go_wp2_with fail
  generalize hv_ : w.alloc (.cells #[.int .i64 k, .int .i64 s, .slice A n c, .slice B m d] 43) = v1
  have bA : Below w.heap.size w v1 := by rw [← hv_]; exact ((Below.refl _ w).alloc (by simp) _)
  replace cc := bK cc bA
  clear bA
  have ka0 : v1.cell? ⟨w.heap.size, 0, none⟩ = some (.int .i64 k) := by simp [← hv_, go_sem]
  have ka1 : v1.cell? ⟨w.heap.size, 1, none⟩ = some (.int .i64 s) := by simp [← hv_, go_sem]
  have ka2 : v1.cell? ⟨w.heap.size, 2, none⟩ = some (.slice A n c) := by simp [← hv_, go_sem]
  have ka3 : v1.cell? ⟨w.heap.size, 3, none⟩ = some (.slice B m d) := by simp [← hv_, go_sem]
  have kal : w.heap.size < v1.heap.size := by simp [← hv_] <;> omega
  clear hv_
  go_wp2_with fail
  go_ret
  exact ⟨rfl, cc⟩

theorem rsame9_len (w : World) {A B : Option Addr} {n c m d : Nat} (h : n ≠ m) :
    Calls Tryz.prog 16 #[.slice A n c, .slice B m d] w (GotV w (.bool false)) := by
  have e1 : ((n : Int) == (m : Int)) = false := beq_eq_false_iff_ne.2 (by omega)
  have e2 : ((n : Int) != (m : Int)) = true := by simp; omega
  have e3 : (n == m) = false := beq_eq_false_iff_ne.2 h
  have e4 : (n != m) = true := by simp; omega
  clear h
  have cc := Below.refl w.heap.size w
  go_enter Tryz.func16, Tryz.ntmps16
  go_wp2_with fail
  go_wp2_with fail
  go_ret
  exact ⟨rfl, cc⟩

theorem rsame9_eq {w : World} {A B : Option Addr} {n c d : Nat} {L K : List Int} (hA : IR w A n c L) (hB : IR w B n d K) (hn : n ≤ 9223372036854775807) :
    Calls Tryz.prog 16 #[.slice A n c, .slice B n d] w (GotV w (.bool (decide (L = K)))) := by
  have hl : n = L.length := hA.1
  have hl2 : n = K.length := hB.1
  obtain ⟨r, hr⟩ : ∃ r, decide (L = K) = r := ⟨_, rfl⟩
  rw [hr]
  have cc := Below.refl w.heap.size w
  go_enter Tryz.func16, Tryz.ntmps16
  go_wp2_with fail
  go_wp2_with fail
  go_loopw [5] (fun iv wr => ∃ i : Nat, i ≤ n ∧ iv = .int .i64 (i : Int) ∧ (∀ j, j < i → L[j]?.getD 0 = K[j]?.getD 0) ∧ Below w.heap.size w wr) (fun iv _ => n - (intOf iv).toNat)
  case atStart => exact ⟨0, by omega, rfl, fun j h => absurd h (by omega), Below.refl _ _⟩
  case round =>
    obtain ⟨i, hi, rfl, hj, hbl⟩ := hrel
    by_cases hlt : i < n
    · obtain ⟨b1, o1, rfl, hb1, hc1⟩ := (hA.on hbl).2.2 (by omega)
      obtain ⟨b2, o2, rfl, hb2, hc2⟩ := (hB.on hbl).2.2 (by omega)
      have h1 := hc1 i hlt
      have h2 := hc2 i hlt
      have k3 : IntKind.i64.wrap ((i : Int) + 1) = ((i + 1 : Nat) : Int) := by rw [IntWalk.i64_in _ (by omega)]; omega
      clear hc1 hc2
      obtain ⟨x, hx⟩ : ∃ x, L[i]?.getD 0 = x := ⟨_, rfl⟩
      obtain ⟨y, hy⟩ : ∃ y, K[i]?.getD 0 = y := ⟨_, rfl⟩
      rw [hx] at h1
      rw [hy] at h2
      by_cases hxy : x = y
      · have t1 : (x == y) = true := beq_iff_eq.2 hxy
        have t2 : (x != y) = false := by simp; exact hxy
        have HJ : Hid (∀ j, j < i + 1 → L[j]?.getD 0 = K[j]?.getD 0) := Lib.hid (fun j h => by
          rcases Nat.lt_or_ge j i with e | e
          · exact hj j e
          · have e2 : j = i := by omega
            rw [e2, hx, hy]; exact hxy)
        clear hj hx hy hl hl2 hr hxy
        go_wp2_with fail
        go_region_held3 (fun w' => w'.cell? ⟨b1, o1 + i, none⟩ = some (.int .i64 x) ∧ w'.cell? ⟨b2, o2 + i, none⟩ = some (.int .i64 y)) (exact ⟨h1, h2⟩) (fail)
        go_wp2_with fail
        go_roundw
        case rel => exact ⟨i + 1, by omega, rfl, HJ.out, below_drewN hbl 1⟩
        case measure => simp [intOf] <;> omega
      · have t1 : (x == y) = false := beq_eq_false_iff_ne.2 hxy
        have t2 : (x != y) = true := by simp; exact hxy
        have hF : r = false := by rw [← hr]; exact decide_eq_false (fun h => hxy (by rw [← hx, ← hy, h]))
        subst hF
        clear hj hx hy hl hl2 hr hxy
        go_wp2_with fail
        go_region_held3 (fun w' => w'.cell? ⟨b1, o1 + i, none⟩ = some (.int .i64 x) ∧ w'.cell? ⟨b2, o2 + i, none⟩ = some (.int .i64 y)) (exact ⟨h1, h2⟩) (fail)
        go_wp2_with fail
        go_ret
        exact ⟨rfl, below_drewN hbl 1⟩
    · obtain rfl : i = n := by omega
      have hT : r = true := by
        rw [← hr]; refine decide_eq_true (List.ext_getElem (by omega) fun j h1 h2 => ?_)
        have := hj j (by omega)
        rwa [List.getElem?_eq_getElem h1, List.getElem?_eq_getElem h2] at this
      subst hT
      clear hj hl hl2 hr
      go_wp2_with fail
      go_ret
      exact ⟨rfl, hbl⟩

theorem rsame9_any {w : World} {A B : Option Addr} {n c m d : Nat} {L K : List Int} (hA : IR w A n c L) (hB : IR w B m d K) (hn : n ≤ 9223372036854775807) : Calls Tryz.prog 16 #[.slice A n c, .slice B m d] w (GotV w (.bool (decide (L = K)))) := by
  by_cases h : n = m
  · subst h; exact rsame9_eq hA hB hn
  · rw [decide_eq_false (fun e => h (by rw [hA.1, hB.1, e]))]; exact rsame9_len w h

end Go.Proofs.YtpidpebgeblenaaGreat
