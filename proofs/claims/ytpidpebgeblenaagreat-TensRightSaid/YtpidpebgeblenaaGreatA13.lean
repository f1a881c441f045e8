/-
  Several texts in one: C14f, JTa, KG, GA, GB.
-/
import Derived.Test.YtpidpebgeblenaaGreatA9
import Derived.Test.YtpidpebgeblenaaGreatA5
import Derived.Test.YtpidpebgeblenaaGreatA7
import Derived.Test.YtpidpebgeblenaaGreatA8
import Derived.Test.YtpidpebgeblenaaGreatA3
import Derived.Test.YtpidpebgeblenaaGreatA11

/-
  The contracts of the eleventh reference: Pack.
-/
namespace Go.Proofs.YtpidpebgeblenaaGreat
set_option maxRecDepth 100000
set_option maxHeartbeats 8000000
open Go.RowKit
set_option linter.unusedVariables false
set_option linter.unusedSimpArgs false

/-- A block is answered, with a code; its rows are new. -/
def GotBq (w : World) (k s : Int) (C : List Nat) (W : List Int) (r : Int) (e : Ending) (w' : World) : Prop :=
  ∃ A n c B m d, e = .returned (.tuple #[.agg #[.int .i64 k, .int .i64 s, .slice A n c, .slice B m d], .int .i64 r]) ∧ BR w' A n c C ∧ IR w' B m d W ∧ Below w.heap.size w w' ∧ (∀ p, A = some p → w.heap.size ≤ p.block) ∧ ∀ p, B = some p → w.heap.size ≤ p.block
theorem GotBq.old {w w' : World} {k s r : Int} {C : List Nat} {W : List Int} {e : Ending} (h : GotBq w k s C W r e w') : GotBp w k s C W r e w' := by obtain ⟨A, n, c, B, m, d, h1, h2, h3, h4, _⟩ := h; exact ⟨A, n, c, B, m, d, h1, h2, h3, h4⟩
/-- May a number be packed? -/
def Gd (k x : Int) : Prop := x ≠ -9223372036854775808 ∧ (k = 1 ∨ k = 3 → 0 ≤ x)
instance (k x : Int) : Decidable (Gd k x) := by unfold Gd; infer_instance
/-- A row elsewhere keeps what it is where a cell is written. -/
theorem own_other {t n cap g gg j size : Nat} {w : World} {e : TypeId} {xs : List Value} {u : Value} (hO : w.ownsRow t e size (.slice (some ⟨g, 0, none⟩) n cap) n xs) (hne : g ≠ gg) : (w.setCell ⟨gg, j, none⟩ u).ownsRow t e size (.slice (some ⟨g, 0, none⟩) n cap) n xs := by
  obtain ⟨h1, h2⟩ := hO
  refine ⟨h1, ?_⟩
  rcases h2 with h2 | ⟨g', cap', cur, hv, hg, hh, r⟩
  · exact Or.inl h2
  · refine Or.inr ⟨g', cap', cur, hv, hg, ?_, r⟩
    have : g' = g := by injection hv with e; injection e with e2; injection e2 with e3; exact e3.symm
    subst this
    rw [heap_setCell_other w ⟨gg, j, none⟩ g' u hne]; exact hh
theorem own_any {t n : Nat} {w w' : World} {e : TypeId} {size : Nat} {v : Value} {xs : List Value} (hO : w.ownsRow t e size v n xs) (b : Below w.heap.size w w') : w'.ownsRow t e size v n xs := by
  obtain ⟨h1, h2⟩ := hO
  refine ⟨h1, ?_⟩
  rcases h2 with h2 | ⟨g', cap', cur, hv, hg, hh, r⟩
  · exact Or.inl h2
  · refine Or.inr ⟨g', cap', cur, hv, hg, ?_, r⟩
    have hl : g' < w.heap.size := by
      rcases Nat.lt_or_ge g' w.heap.size with h | h
      · exact h
      · rw [Array.getElem?_eq_none h] at hh; cases hh
    rw [b.block g' hl]; exact hh
attribute [local go_sem ↓] mx1_run

theorem rPack_no {w : World} {k : Int} {A : Option Addr} {n c : Nat} {L : List Int} (hk : 0 ≤ k ∧ k ≤ 4) (hA : IR w A n c L) (hn : n ≤ 4096) (ht : ∃ x ∈ L, ¬ Gd k x) :
    Calls Tryz.prog 36 #[.int .i64 k, .slice A n c] w (GotV w (.tuple #[.agg #[.int .i64 0, .int .i64 0, .slice none 0 0, .slice none 0 0], .int .i64 1])) := by
  have t0 : decide (k < 0) = false := decide_eq_false (by omega)
  have t1 : decide (4 < k) = false := decide_eq_false (by omega)
  have HK := Lib.hid hk
  have HL := Lib.hid hA.1
  have HT := Lib.hid ht
  clear hk ht
  have cc := Below.refl w.heap.size w
  go_enter Tryz.func36, Tryz.ntmps36
  go_wp2_with fail
  generalize hv_ : w.alloc (.cells #[.int .i64 0, .int .i64 0, .slice none 0 0, .slice none 0 0] 43) = v1
  have f0 : v1.frozen? ⟨w.heap.size, 0, none⟩ = false := by simp [← hv_, go_sem]
  have f1 : v1.frozen? ⟨w.heap.size, 1, none⟩ = false := by simp [← hv_, go_sem]
  have f2 : v1.frozen? ⟨w.heap.size, 2, none⟩ = false := by simp [← hv_, go_sem]
  have f3 : v1.frozen? ⟨w.heap.size, 3, none⟩ = false := by simp [← hv_, go_sem]
  have bA : Below w.heap.size w v1 := by rw [← hv_]; exact ((Below.refl _ w).alloc (by simp) _)
  replace hA := hA.on bA
  replace cc := bK cc bA
  clear bA
  have g0 : v1.cell? ⟨w.heap.size, 0, none⟩ = some (.int .i64 0) := by simp [← hv_, go_sem]
  have g1 : v1.cell? ⟨w.heap.size, 1, none⟩ = some (.int .i64 0) := by simp [← hv_, go_sem]
  have g2 : v1.cell? ⟨w.heap.size, 2, none⟩ = some (.slice none 0 0) := by simp [← hv_, go_sem]
  have g3 : v1.cell? ⟨w.heap.size, 3, none⟩ = some (.slice none 0 0) := by simp [← hv_, go_sem]
  have gl : w.heap.size < v1.heap.size := by simp [← hv_] <;> omega
  clear hv_
  go_wp2_with fail
  go_loopw [6] (fun iv wr => ∃ i : Nat, i ≤ n ∧ iv = .int .i64 (i : Int) ∧ (∀ j, j < i → Gd k (L[j]?.getD 0)) ∧ wr = v1) (fun iv _ => n - (intOf iv).toNat)
  case atStart => exact ⟨0, by omega, rfl, fun j h => absurd h (by omega), rfl⟩
  case round =>
    obtain ⟨i, hi, rfl, hj, hwr⟩ := hrel
    subst hwr
    by_cases hlt : i < n
    · obtain ⟨b2, o2, rfl, hb2_, hc2⟩ := hA.2.2 (by omega)
      have e1 := hA.cell hlt
      obtain ⟨x, hx⟩ : ∃ x, L[i]?.getD 0 = x := ⟨_, rfl⟩
      rw [hx] at e1
      have k3 : IntKind.i64.wrap ((i : Int) + 1) = ((i + 1 : Nat) : Int) := by rw [IntWalk.i64_in _ (by omega)]; omega
      by_cases hG : Gd k x
      · have hxl := hG.1
        by_cases hx0 : x < 0
        · have hk1 : k ≠ 1 := fun e => by have := hG.2 (.inl e); omega
          have hk3 : k ≠ 3 := fun e => by have := hG.2 (.inr e); omega
          have HJ : Hid (∀ j, j < i + 1 → Gd k (L[j]?.getD 0)) := Lib.hid (fun j h => by
            rcases Nat.lt_or_ge j i with e | e
            · exact hj j e
            · have e2 : j = i := by omega
              rw [e2, hx]; exact hG)
          have tl : (x == -9223372036854775808) = false := beq_eq_false_iff_ne.2 hxl
          have tn : decide (x < 0) = true := decide_eq_true (by omega)
          have tk1 : (k == 1) = false := beq_eq_false_iff_ne.2 hk1
          have tk3 : (k == 3) = false := beq_eq_false_iff_ne.2 hk3
          clear hxl hk1 hk3
          clear hj hx hc2 hb2_ hG
          go_wp2_with fail
          go_roundw
          case rel => exact ⟨i + 1, by omega, by go_num, HJ.out, by trivial⟩
          case measure => simp [intOf] <;> omega
        · skip
          have HJ : Hid (∀ j, j < i + 1 → Gd k (L[j]?.getD 0)) := Lib.hid (fun j h => by
            rcases Nat.lt_or_ge j i with e | e
            · exact hj j e
            · have e2 : j = i := by omega
              rw [e2, hx]; exact hG)
          have tl : (x == -9223372036854775808) = false := beq_eq_false_iff_ne.2 hxl
          have tn : decide (x < 0) = false := decide_eq_false (by omega)
          clear hxl
          clear hj hx hc2 hb2_ hG
          go_wp2_with fail
          go_roundw
          case rel => exact ⟨i + 1, by omega, by go_num, HJ.out, by trivial⟩
          case measure => simp [intOf] <;> omega
      · by_cases hxl : x = -9223372036854775808
        · skip
          have tl : (x == -9223372036854775808) = true := beq_iff_eq.2 hxl
          clear hxl
          clear hj hx hc2 hb2_ hG
          have HBF := Lib.hid (below_putK cc (Nat.le_refl _) (.int .i64 0) (.int .i64 0) (.slice none 0 0) (.slice none 0 0))
          clear cc
          go_wp2_with fail
          refine bodyPost_ret (v := .tuple #[.agg #[.int .i64 0, .int .i64 0, .slice none 0 0, .slice none 0 0], .int .i64 1]) (by simp [results, Tryz.results36, go_sem, g0, g1, g2, g3]) rfl ⟨rfl, HBF.out⟩
        · have hx0 : x < 0 := Classical.byContradiction fun e => hG ⟨hxl, fun _ => by omega⟩
          by_cases hk1 : k = 1
          · skip
            have tl : (x == -9223372036854775808) = false := beq_eq_false_iff_ne.2 hxl
            have tn : decide (x < 0) = true := decide_eq_true (by omega)
            have tk1 : (k == 1) = true := beq_iff_eq.2 hk1
            clear hxl hk1
            clear hj hx hc2 hb2_ hG
            have HBF := Lib.hid (below_putK cc (Nat.le_refl _) (.int .i64 0) (.int .i64 0) (.slice none 0 0) (.slice none 0 0))
            clear cc
            go_wp2_with fail
            refine bodyPost_ret (v := .tuple #[.agg #[.int .i64 0, .int .i64 0, .slice none 0 0, .slice none 0 0], .int .i64 1]) (by simp [results, Tryz.results36, go_sem, g0, g1, g2, g3]) rfl ⟨rfl, HBF.out⟩
          · have hk3 : k = 3 := Classical.byContradiction fun e => hG ⟨hxl, fun e2 => (by rcases e2 with e2 | e2; exact absurd e2 hk1; exact absurd e2 e)⟩
            have tl : (x == -9223372036854775808) = false := beq_eq_false_iff_ne.2 hxl
            have tn : decide (x < 0) = true := decide_eq_true (by omega)
            have tk1 : (k == 1) = false := beq_eq_false_iff_ne.2 hk1
            have tk3 : (k == 3) = true := beq_iff_eq.2 hk3
            clear hxl hk1 hk3
            clear hj hx hc2 hb2_ hG
            have HBF := Lib.hid (below_putK cc (Nat.le_refl _) (.int .i64 0) (.int .i64 0) (.slice none 0 0) (.slice none 0 0))
            clear cc
            go_wp2_with fail
            refine bodyPost_ret (v := .tuple #[.agg #[.int .i64 0, .int .i64 0, .slice none 0 0, .slice none 0 0], .int .i64 1]) (by simp [results, Tryz.results36, go_sem, g0, g1, g2, g3]) rfl ⟨rfl, HBF.out⟩
    · obtain rfl : i = n := by omega
      exfalso
      obtain ⟨x, hx, hxf⟩ := HT.out
      obtain ⟨j, hj2, rfl⟩ := at_mem 0 hx
      exact hxf (hj j (by rw [HL.out]; exact hj2))

theorem rPack_wn {w : World} {k : Int} {n c : Nat} {L : List Int} (hk : 0 ≤ k ∧ k ≤ 4) (hA : IR w none n c L) (hn : n ≤ 4096) (ht : ∀ x ∈ L, Gd k x) (hk4 : k = 4) (hz : n = 0) :
    Calls Tryz.prog 36 #[.int .i64 k, .slice none n c] w (GotBq w k 0 [] L 0) := by
  obtain rfl : L = [] := List.eq_nil_of_length_eq_zero (by rw [← hA.1]; exact hz)
  subst hz
  have HK4 := Lib.hid hk4
  clear hk4
  have t0 : decide (k < 0) = false := decide_eq_false (by omega)
  have t1 : decide (4 < k) = false := decide_eq_false (by omega)
  have HK := Lib.hid hk
  have HL := Lib.hid hA.1
  have HT := Lib.hid ht
  clear hk ht
  have cc := Below.refl w.heap.size w
  go_enter Tryz.func36, Tryz.ntmps36
  go_wp2_with fail
  generalize hv_ : w.alloc (.cells #[.int .i64 0, .int .i64 0, .slice none 0 0, .slice none 0 0] 43) = v1
  have f0 : v1.frozen? ⟨w.heap.size, 0, none⟩ = false := by simp [← hv_, go_sem]
  have f1 : v1.frozen? ⟨w.heap.size, 1, none⟩ = false := by simp [← hv_, go_sem]
  have f2 : v1.frozen? ⟨w.heap.size, 2, none⟩ = false := by simp [← hv_, go_sem]
  have f3 : v1.frozen? ⟨w.heap.size, 3, none⟩ = false := by simp [← hv_, go_sem]
  have bA : Below w.heap.size w v1 := by rw [← hv_]; exact ((Below.refl _ w).alloc (by simp) _)
  replace hA := hA.on bA
  replace cc := bK cc bA
  clear bA
  have g0 : v1.cell? ⟨w.heap.size, 0, none⟩ = some (.int .i64 0) := by simp [← hv_, go_sem]
  have g1 : v1.cell? ⟨w.heap.size, 1, none⟩ = some (.int .i64 0) := by simp [← hv_, go_sem]
  have g2 : v1.cell? ⟨w.heap.size, 2, none⟩ = some (.slice none 0 0) := by simp [← hv_, go_sem]
  have g3 : v1.cell? ⟨w.heap.size, 3, none⟩ = some (.slice none 0 0) := by simp [← hv_, go_sem]
  have gl : w.heap.size < v1.heap.size := by simp [← hv_] <;> omega
  clear hv_
  go_wp2_with fail
  go_loopw [6] (fun iv wr => ∃ i : Nat, i ≤ 0 ∧ iv = .int .i64 (i : Int) ∧ (∀ j, j < i → Gd k (([] : List Int)[j]?.getD 0)) ∧ wr = v1) (fun iv _ => 0 - (intOf iv).toNat)
  case atStart => exact ⟨0, by omega, rfl, fun j h => absurd h (by omega), rfl⟩
  case round =>
    obtain ⟨i, hi, rfl, hj, hwr⟩ := hrel
    subst hwr
    by_cases hlt : i < 0
    · exfalso; omega
    · obtain rfl : i = 0 := by omega
      clear hj
      have tk4 : (k == 4) = true := beq_iff_eq.2 HK4.out
      have hgl := gl
      have bA := one_up wr (.cells #[] 2)
      replace cc := bK cc bA
      have hws : w.heap.size ≤ wr.heap.size := by omega
      rewrite [cR bA hgl] at g0 g1 g2 g3
      rewrite [fR bA hgl] at f0 f1 f2 f3
      have HBF := Lib.hid (below_putK cc (Nat.le_refl _) (.int .i64 k) (.int .i64 0) (.slice none 0 0) (.slice (some ⟨wr.heap.size, 0, none⟩) 0 0))
      clear bA cc hA
      obtain ⟨i0, hi0, hz0, hz1, hz2⟩ := info_parts infoI
      go_wp2_with (at_builtin; refine wpList_append_zero _ rfl _ _ 34 rfl 2 i0 Tryz.underlying34 hi0 _ _ 0 0 _ rfl rfl (Nat.le_refl _) ?_; generalize wr.alloc (.cells #[] 2) = wz at *)
      refine bodyPost_ret (v := .tuple #[.agg #[.int .i64 k, .int .i64 0, .slice none 0 0, .slice (some ⟨wr.heap.size, 0, none⟩) 0 0], .int .i64 0]) (by simp [results, Tryz.results36, go_sem, g0, g1, g2, g3]) rfl ⟨_, _, _, _, _, _, rfl, BR.nil _ _ _, IR.nil _ _ _, HBF.out, ⟨fun p e => (by cases e), fun p e => (by injection e with e; subst e; exact hws)⟩⟩

theorem rPack_wz {w : World} {k : Int} {a : Addr} {n c : Nat} {L : List Int} (hk : 0 ≤ k ∧ k ≤ 4) (hA : IR w (some a) n c L) (hn : n ≤ 4096) (ht : ∀ x ∈ L, Gd k x) (hk4 : k = 4) (hz : n = 0) :
    Calls Tryz.prog 36 #[.int .i64 k, .slice (some a) n c] w (GotBq w k 0 [] L 0) := by
  obtain rfl : L = [] := List.eq_nil_of_length_eq_zero (by rw [← hA.1]; exact hz)
  subst hz
  have HK4 := Lib.hid hk4
  clear hk4
  have t0 : decide (k < 0) = false := decide_eq_false (by omega)
  have t1 : decide (4 < k) = false := decide_eq_false (by omega)
  have HK := Lib.hid hk
  have HL := Lib.hid hA.1
  have HT := Lib.hid ht
  clear hk ht
  have cc := Below.refl w.heap.size w
  go_enter Tryz.func36, Tryz.ntmps36
  go_wp2_with fail
  generalize hv_ : w.alloc (.cells #[.int .i64 0, .int .i64 0, .slice none 0 0, .slice none 0 0] 43) = v1
  have f0 : v1.frozen? ⟨w.heap.size, 0, none⟩ = false := by simp [← hv_, go_sem]
  have f1 : v1.frozen? ⟨w.heap.size, 1, none⟩ = false := by simp [← hv_, go_sem]
  have f2 : v1.frozen? ⟨w.heap.size, 2, none⟩ = false := by simp [← hv_, go_sem]
  have f3 : v1.frozen? ⟨w.heap.size, 3, none⟩ = false := by simp [← hv_, go_sem]
  have bA : Below w.heap.size w v1 := by rw [← hv_]; exact ((Below.refl _ w).alloc (by simp) _)
  replace hA := hA.on bA
  replace cc := bK cc bA
  clear bA
  have g0 : v1.cell? ⟨w.heap.size, 0, none⟩ = some (.int .i64 0) := by simp [← hv_, go_sem]
  have g1 : v1.cell? ⟨w.heap.size, 1, none⟩ = some (.int .i64 0) := by simp [← hv_, go_sem]
  have g2 : v1.cell? ⟨w.heap.size, 2, none⟩ = some (.slice none 0 0) := by simp [← hv_, go_sem]
  have g3 : v1.cell? ⟨w.heap.size, 3, none⟩ = some (.slice none 0 0) := by simp [← hv_, go_sem]
  have gl : w.heap.size < v1.heap.size := by simp [← hv_] <;> omega
  clear hv_
  go_wp2_with fail
  go_loopw [6] (fun iv wr => ∃ i : Nat, i ≤ 0 ∧ iv = .int .i64 (i : Int) ∧ (∀ j, j < i → Gd k (([] : List Int)[j]?.getD 0)) ∧ wr = v1) (fun iv _ => 0 - (intOf iv).toNat)
  case atStart => exact ⟨0, by omega, rfl, fun j h => absurd h (by omega), rfl⟩
  case round =>
    obtain ⟨i, hi, rfl, hj, hwr⟩ := hrel
    subst hwr
    by_cases hlt : i < 0
    · exfalso; omega
    · obtain rfl : i = 0 := by omega
      clear hj
      have tk4 : (k == 4) = true := beq_iff_eq.2 HK4.out
      have hgl := gl
      have bA := one_up wr (.cells #[] 2)
      replace cc := bK cc bA
      have hws : w.heap.size ≤ wr.heap.size := by omega
      rewrite [cR bA hgl] at g0 g1 g2 g3
      rewrite [fR bA hgl] at f0 f1 f2 f3
      have HBF := Lib.hid (below_putK cc (Nat.le_refl _) (.int .i64 k) (.int .i64 0) (.slice none 0 0) (.slice (some ⟨wr.heap.size, 0, none⟩) 0 0))
      clear bA cc hA
      obtain ⟨i0, hi0, hz0, hz1, hz2⟩ := info_parts infoI
      go_wp2_with (at_builtin; refine wpList_append_zero _ rfl _ _ 34 rfl 2 i0 Tryz.underlying34 hi0 _ _ 0 0 _ rfl rfl (Nat.le_refl _) ?_; generalize wr.alloc (.cells #[] 2) = wz at *)
      refine bodyPost_ret (v := .tuple #[.agg #[.int .i64 k, .int .i64 0, .slice none 0 0, .slice (some ⟨wr.heap.size, 0, none⟩) 0 0], .int .i64 0]) (by simp [results, Tryz.results36, go_sem, g0, g1, g2, g3]) rfl ⟨_, _, _, _, _, _, rfl, BR.nil _ _ _, IR.nil _ _ _, HBF.out, ⟨fun p e => (by cases e), fun p e => (by injection e with e; subst e; exact hws)⟩⟩

theorem rPack_ws {w : World} {k : Int} {A : Option Addr} {n c : Nat} {L : List Int} (hk : 0 ≤ k ∧ k ≤ 4) (hA : IR w A n c L) (hn : n ≤ 4096) (ht : ∀ x ∈ L, Gd k x) (hk4 : k = 4) (hpos : 0 < n) :
    Calls Tryz.prog 36 #[.int .i64 k, .slice A n c] w (GotBq w k 0 [] L 0) := by
  have HK4 := Lib.hid hk4
  clear hk4
  have t0 : decide (k < 0) = false := decide_eq_false (by omega)
  have t1 : decide (4 < k) = false := decide_eq_false (by omega)
  have HK := Lib.hid hk
  have HL := Lib.hid hA.1
  have HT := Lib.hid ht
  clear hk ht
  have cc := Below.refl w.heap.size w
  go_enter Tryz.func36, Tryz.ntmps36
  go_wp2_with fail
  generalize hv_ : w.alloc (.cells #[.int .i64 0, .int .i64 0, .slice none 0 0, .slice none 0 0] 43) = v1
  have f0 : v1.frozen? ⟨w.heap.size, 0, none⟩ = false := by simp [← hv_, go_sem]
  have f1 : v1.frozen? ⟨w.heap.size, 1, none⟩ = false := by simp [← hv_, go_sem]
  have f2 : v1.frozen? ⟨w.heap.size, 2, none⟩ = false := by simp [← hv_, go_sem]
  have f3 : v1.frozen? ⟨w.heap.size, 3, none⟩ = false := by simp [← hv_, go_sem]
  have bA : Below w.heap.size w v1 := by rw [← hv_]; exact ((Below.refl _ w).alloc (by simp) _)
  replace hA := hA.on bA
  replace cc := bK cc bA
  clear bA
  have g0 : v1.cell? ⟨w.heap.size, 0, none⟩ = some (.int .i64 0) := by simp [← hv_, go_sem]
  have g1 : v1.cell? ⟨w.heap.size, 1, none⟩ = some (.int .i64 0) := by simp [← hv_, go_sem]
  have g2 : v1.cell? ⟨w.heap.size, 2, none⟩ = some (.slice none 0 0) := by simp [← hv_, go_sem]
  have g3 : v1.cell? ⟨w.heap.size, 3, none⟩ = some (.slice none 0 0) := by simp [← hv_, go_sem]
  have gl : w.heap.size < v1.heap.size := by simp [← hv_] <;> omega
  clear hv_
  go_wp2_with fail
  go_loopw [6] (fun iv wr => ∃ i : Nat, i ≤ n ∧ iv = .int .i64 (i : Int) ∧ (∀ j, j < i → Gd k (L[j]?.getD 0)) ∧ wr = v1) (fun iv _ => n - (intOf iv).toNat)
  case atStart => exact ⟨0, by omega, rfl, fun j h => absurd h (by omega), rfl⟩
  case round =>
    obtain ⟨i, hi, rfl, hj, hwr⟩ := hrel
    subst hwr
    by_cases hlt : i < n
    · obtain ⟨b2, o2, rfl, hb2_, hc2⟩ := hA.2.2 (by omega)
      have e1 := hA.cell hlt
      obtain ⟨x, hx⟩ : ∃ x, L[i]?.getD 0 = x := ⟨_, rfl⟩
      rw [hx] at e1
      have k3 : IntKind.i64.wrap ((i : Int) + 1) = ((i + 1 : Nat) : Int) := by rw [IntWalk.i64_in _ (by omega)]; omega
      have hG : Gd k x := by rw [← hx]; exact HT.out _ (mem_at (by rw [← HL.out]; exact hlt))
      have hxl := hG.1
      by_cases hx0 : x < 0
      · have hk1 : k ≠ 1 := fun e => by have := hG.2 (.inl e); omega
        have hk3 : k ≠ 3 := fun e => by have := hG.2 (.inr e); omega
        have HJ : Hid (∀ j, j < i + 1 → Gd k (L[j]?.getD 0)) := Lib.hid (fun j h => by
          rcases Nat.lt_or_ge j i with e | e
          · exact hj j e
          · have e2 : j = i := by omega
            rw [e2, hx]; exact hG)
        have tl : (x == -9223372036854775808) = false := beq_eq_false_iff_ne.2 hxl
        have tn : decide (x < 0) = true := decide_eq_true (by omega)
        have tk1 : (k == 1) = false := beq_eq_false_iff_ne.2 hk1
        have tk3 : (k == 3) = false := beq_eq_false_iff_ne.2 hk3
        clear hxl hk1 hk3
        clear hj hx hc2 hb2_ hG
        go_wp2_with fail
        go_roundw
        case rel => exact ⟨i + 1, by omega, by go_num, HJ.out, by trivial⟩
        case measure => simp [intOf] <;> omega
      · skip
        have HJ : Hid (∀ j, j < i + 1 → Gd k (L[j]?.getD 0)) := Lib.hid (fun j h => by
          rcases Nat.lt_or_ge j i with e | e
          · exact hj j e
          · have e2 : j = i := by omega
            rw [e2, hx]; exact hG)
        have tl : (x == -9223372036854775808) = false := beq_eq_false_iff_ne.2 hxl
        have tn : decide (x < 0) = false := decide_eq_false (by omega)
        clear hxl
        clear hj hx hc2 hb2_ hG
        go_wp2_with fail
        go_roundw
        case rel => exact ⟨i + 1, by omega, by go_num, HJ.out, by trivial⟩
        case measure => simp [intOf] <;> omega
    · obtain rfl : i = n := by omega
      clear hj
      have t4 : decide (4096 < i) = false := decide_eq_false (by omega)
      have t5 : decide ((4096 : Int) < (i : Int)) = false := decide_eq_false (by omega)
      have tk4 : (k == 4) = true := beq_iff_eq.2 HK4.out
      obtain ⟨bb, off, rfl, hb⟩ := hA.some hpos
      obtain ⟨i0, hi0, hz0, hz1, hz2⟩ := info_parts infoI
      obtain ⟨t, ht⟩ : ∃ t, wr.heap.size = t := ⟨_, rfl⟩
      have HTT := Lib.hid ht
      have hwt : w.heap.size < t := by rw [← ht]; exact gl
      have HNV : Hid (∀ j u, (L.map encI)[j]? = some u → (wr.alloc (.cells #[] 2)).cell? ((⟨bb, off, none⟩ : Addr).add j) = some u) := Lib.hid (ir_news hA (one_up _ _))
      have HO : Hid ((wr.alloc (.cells #[] 2)).ownsRow t 2 1 (.slice (some ⟨wr.heap.size, 0, none⟩) 0 0) 0 ([] : List Value)) := Lib.hid (World.ownsRow_lit wr #[] 0 (by omega) (by unfold maxLen; omega) rfl)
      have HB : Hid (Below t wr (wr.alloc (.cells #[] 2))) := Lib.hid ((Below.refl t wr).alloc (by omega) _)
      have t_le : t ≤ wr.heap.size + 1 := by omega
      have HGL := Lib.hid gl
      have G0 := Lib.hid g0
      have G1 := Lib.hid g1
      have G2 := Lib.hid g2
      have G3 := Lib.hid g3
      have F0 := Lib.hid f0
      have F1 := Lib.hid f1
      have F2 := Lib.hid f2
      have F3 := Lib.hid f3
      have CCV := Lib.hid cc
      have HWT := Lib.hid hwt
      clear ht hA hb cc hwt gl g0 f0 g1 f1 g2 f2 g3 f3
      go_wp2_with (at_builtin; refine wpList_append_lies _ rfl _ _ 34 rfl t 2 i0 (.int .i64 0) 1 8 Tryz.underlying34 hi0 hz0 hz1 hz2 rfl (by decide) _ 0 [] rfl HO.out ⟨bb, off, none⟩ i c (L.map encI) rfl (by rw [List.length_map, ← HL.out]; simp) HNV.out (by simp [encI, Value.oneCell']) hpos (by unfold maxLen; omega) (by omega) (by simp; omega) _ rfl ?_; intro gq cq w3 hown1 hgrow1 hat hlt1; rw [List.nil_append] at hown1; rw [Nat.zero_add] at hown1; have h1 : Below t wr w3 := HB.out.grown hgrow1 (by simp; omega) (fun q e => by injection (show some wr.heap.size = some q from e) with e1; have := HTT.out; omega); have hgt := (hown1.lt gq rfl).1; rw [← HTT.out] at h1; have hgl := HGL.out; have g0 := (h1.cell (p := ⟨w.heap.size, 0, none⟩) hgl).trans G0.out; have f0 := (h1.frozen (p := ⟨w.heap.size, 0, none⟩) hgl).trans F0.out; have g1 := (h1.cell (p := ⟨w.heap.size, 1, none⟩) hgl).trans G1.out; have f1 := (h1.frozen (p := ⟨w.heap.size, 1, none⟩) hgl).trans F1.out; have g2 := (h1.cell (p := ⟨w.heap.size, 2, none⟩) hgl).trans G2.out; have f2 := (h1.frozen (p := ⟨w.heap.size, 2, none⟩) hgl).trans F2.out; have g3 := (h1.cell (p := ⟨w.heap.size, 3, none⟩) hgl).trans G3.out; have f3 := (h1.frozen (p := ⟨w.heap.size, 3, none⟩) hgl).trans F3.out; have hm := HWT.out; have HR := Lib.hid (ir_putK (IR.of_own hown1) (fun p e => (by injection e with e; subst e; show gq ≠ w.heap.size; omega)) (.int .i64 k) (.int .i64 0) (.slice none 0 0) (.slice (some ⟨gq, 0, none⟩) i cq)); have HBF := Lib.hid (below_putK (CCV.out.trans (h1.mono CCV.out.size)) (Nat.le_refl _) (.int .i64 k) (.int .i64 0) (.slice none 0 0) (.slice (some ⟨gq, 0, none⟩) i cq)); have hnw : ∀ p, some (⟨gq, 0, none⟩ : Addr) = some p → w.heap.size ≤ p.block := (fun p e => (by injection e with e; subst e; show _ ≤ gq; omega)); clear h1 hown1 hgrow1 hat hlt1)
      refine bodyPost_ret (v := .tuple #[.agg #[.int .i64 k, .int .i64 0, .slice none 0 0, .slice (some ⟨gq, 0, none⟩) i cq], .int .i64 0]) (by simp [results, Tryz.results36, go_sem, g0, g1, g2, g3]) rfl ⟨_, _, _, _, _, _, rfl, BR.nil _ _ _, HR.out, HBF.out, ⟨fun p e => (by cases e), hnw⟩⟩

theorem rPack_c {w : World} {k : Int} {A : Option Addr} {n c : Nat} {L : List Int} (hk : 0 ≤ k ∧ k ≤ 4) (hA : IR w A n c L) (hn : n ≤ 4096) (hi6 : ∀ x ∈ L, I64 x) (ht : ∀ x ∈ L, Gd k x) (hk9 : Kind9 k) :
    Calls Tryz.prog 36 #[.int .i64 k, .slice A n c] w (GotBq w k (gr L) (L.map (pk k (gr L))) [] 0) := by
  have h9 := hk9
  have hLg : ∀ j : Nat, I64 (L[j]?.getD 0) ∧ L[j]?.getD 0 ≠ -9223372036854775808 := fun j => (by
    rcases Nat.lt_or_ge j L.length with h | h
    · exact ⟨hi6 _ (mem_at h), (ht _ (mem_at h)).1⟩
    · rw [List.getElem?_eq_none h]; exact ⟨i64_z, by show (0 : Int) ≠ _; omega⟩)
  have hO : ∀ x ∈ L, -gr L ≤ x ∧ x ≤ gr L ∧ (0 ≤ x ∨ sig9 k = true) := fun x hx => okP_at (k := k) ⟨hk, ht⟩ h9 hx
  have hgi : I64 (gr L) := grk_i64 hLg _
  have hg0 := gr_pos L
  have CG := fun {V : World} (h : IR V A n c L) => rgreat_N h (by omega) hLg
  have CN : Hid (∀ (V : World) (i : Nat), i < L.length → Calls Tryz.prog 48 #[.int .i64 k, .int .i64 (L[i]?.getD 0), .int .i64 (mx1 (gr L))] V (GotV V (.tuple #[.int .u8 ((pk k (gr L) (L[i]?.getD 0) : Nat) : Int), .int .i64 0]))) := Lib.hid (fun V i hi => by
    have ho := hO _ (mem_at (d := 0) hi)
    exact rNear_yes V (hLg i).1 (by unfold I64 mx1 at *; omega) (pk_shr h9 ho.1 ho.2.1 ho.2.2))
  have HP6 : Hid (∀ x, pk k (gr L) x ≤ 255) := Lib.hid (fun x => pk_le _ _ _)
  have tk4 : (k == 4) = false := beq_eq_false_iff_ne.2 (by unfold Kind9 at h9; omega)
  have HM : Hid (∀ i, i < L.length → (L.take (i + 1)).map (pk k (gr L)) = (L.take i).map (pk k (gr L)) ++ [pk k (gr L) (L[i]?.getD 0)]) := Lib.hid (fun i h => by rw [take_at 0 h, List.map_append]; rfl)
  clear hgi hg0 hO hLg hi6 h9 hk9
  generalize pk k (gr L) = F at *
  generalize gr L = S at *
  have t0 : decide (k < 0) = false := decide_eq_false (by omega)
  have t1 : decide (4 < k) = false := decide_eq_false (by omega)
  have HK := Lib.hid hk
  have HL := Lib.hid hA.1
  have HT := Lib.hid ht
  clear hk ht
  have cc := Below.refl w.heap.size w
  go_enter Tryz.func36, Tryz.ntmps36
  go_wp2_with fail
  generalize hv_ : w.alloc (.cells #[.int .i64 0, .int .i64 0, .slice none 0 0, .slice none 0 0] 43) = v1
  have f0 : v1.frozen? ⟨w.heap.size, 0, none⟩ = false := by simp [← hv_, go_sem]
  have f1 : v1.frozen? ⟨w.heap.size, 1, none⟩ = false := by simp [← hv_, go_sem]
  have f2 : v1.frozen? ⟨w.heap.size, 2, none⟩ = false := by simp [← hv_, go_sem]
  have f3 : v1.frozen? ⟨w.heap.size, 3, none⟩ = false := by simp [← hv_, go_sem]
  have bA : Below w.heap.size w v1 := by rw [← hv_]; exact ((Below.refl _ w).alloc (by simp) _)
  replace hA := hA.on bA
  replace cc := bK cc bA
  clear bA
  have g0 : v1.cell? ⟨w.heap.size, 0, none⟩ = some (.int .i64 0) := by simp [← hv_, go_sem]
  have g1 : v1.cell? ⟨w.heap.size, 1, none⟩ = some (.int .i64 0) := by simp [← hv_, go_sem]
  have g2 : v1.cell? ⟨w.heap.size, 2, none⟩ = some (.slice none 0 0) := by simp [← hv_, go_sem]
  have g3 : v1.cell? ⟨w.heap.size, 3, none⟩ = some (.slice none 0 0) := by simp [← hv_, go_sem]
  have gl : w.heap.size < v1.heap.size := by simp [← hv_] <;> omega
  clear hv_
  go_wp2_with fail
  go_loopw [6] (fun iv wr => ∃ i : Nat, i ≤ n ∧ iv = .int .i64 (i : Int) ∧ (∀ j, j < i → Gd k (L[j]?.getD 0)) ∧ wr = v1) (fun iv _ => n - (intOf iv).toNat)
  case atStart => exact ⟨0, by omega, rfl, fun j h => absurd h (by omega), rfl⟩
  case round =>
    obtain ⟨i, hi, rfl, hj, hwr⟩ := hrel
    subst hwr
    by_cases hlt : i < n
    · obtain ⟨b2, o2, rfl, hb2_, hc2⟩ := hA.2.2 (by omega)
      have e1 := hA.cell hlt
      obtain ⟨x, hx⟩ : ∃ x, L[i]?.getD 0 = x := ⟨_, rfl⟩
      rw [hx] at e1
      have k3 : IntKind.i64.wrap ((i : Int) + 1) = ((i + 1 : Nat) : Int) := by rw [IntWalk.i64_in _ (by omega)]; omega
      have hG : Gd k x := by rw [← hx]; exact HT.out _ (mem_at (by rw [← HL.out]; exact hlt))
      have hxl := hG.1
      by_cases hx0 : x < 0
      · have hk1 : k ≠ 1 := fun e => by have := hG.2 (.inl e); omega
        have hk3 : k ≠ 3 := fun e => by have := hG.2 (.inr e); omega
        have HJ : Hid (∀ j, j < i + 1 → Gd k (L[j]?.getD 0)) := Lib.hid (fun j h => by
          rcases Nat.lt_or_ge j i with e | e
          · exact hj j e
          · have e2 : j = i := by omega
            rw [e2, hx]; exact hG)
        have tl : (x == -9223372036854775808) = false := beq_eq_false_iff_ne.2 hxl
        have tn : decide (x < 0) = true := decide_eq_true (by omega)
        have tk1 : (k == 1) = false := beq_eq_false_iff_ne.2 hk1
        have tk3 : (k == 3) = false := beq_eq_false_iff_ne.2 hk3
        clear hxl hk1 hk3
        clear hj hx hc2 hb2_ hG
        go_wp2_with fail
        go_roundw
        case rel => exact ⟨i + 1, by omega, by go_num, HJ.out, by trivial⟩
        case measure => simp [intOf] <;> omega
      · skip
        have HJ : Hid (∀ j, j < i + 1 → Gd k (L[j]?.getD 0)) := Lib.hid (fun j h => by
          rcases Nat.lt_or_ge j i with e | e
          · exact hj j e
          · have e2 : j = i := by omega
            rw [e2, hx]; exact hG)
        have tl : (x == -9223372036854775808) = false := beq_eq_false_iff_ne.2 hxl
        have tn : decide (x < 0) = false := decide_eq_false (by omega)
        clear hxl
        clear hj hx hc2 hb2_ hG
        go_wp2_with fail
        go_roundw
        case rel => exact ⟨i + 1, by omega, by go_num, HJ.out, by trivial⟩
        case measure => simp [intOf] <;> omega
    · obtain rfl : i = n := by omega
      have t4 : decide (4096 < i) = false := decide_eq_false (by omega)
      have t5 : decide ((4096 : Int) < (i : Int)) = false := decide_eq_false (by omega)
      clear hj
      go_wp2_with fail
      refine (CG hA).mono ?_
      rintro e w2 ⟨rfl, b⟩
      rewrite [fR b gl] at f0 f1 f2 f3
      replace hA := hA.on b
      rewrite [cR b gl] at g0 g1 g2 g3
      replace gl := lK b gl
      replace cc := bK cc b
      clear b
      have HA2 := Lib.hid hA
      go_upto_region 13 with fail
      have oqg : w.heap.size < w2.heap.size := gl
      generalize hv_ : w2.alloc (.cells #[.int .i64 k, .int .i64 S, .slice none 0 0, .slice none 0 0] 43) = v3
      have bA : Below w2.heap.size w2 v3 := by rw [← hv_]; exact below_one _ _
      rewrite [fR bA gl] at f0 f1 f2 f3
      replace hA := hA.on bA
      rewrite [cR bA gl] at g0 g1 g2 g3
      replace gl := lK bA gl
      replace cc := bK cc bA
      clear bA
      have o0 : v3.cell? ⟨w2.heap.size, 0, none⟩ = some (.int .i64 k) := by simp [← hv_, go_sem]
      have o1 : v3.cell? ⟨w2.heap.size, 1, none⟩ = some (.int .i64 S) := by simp [← hv_, go_sem]
      have o2 : v3.cell? ⟨w2.heap.size, 2, none⟩ = some (.slice none 0 0) := by simp [← hv_, go_sem]
      have o3 : v3.cell? ⟨w2.heap.size, 3, none⟩ = some (.slice none 0 0) := by simp [← hv_, go_sem]
      have or0 : v3.frozen? ⟨w2.heap.size, 0, none⟩ = false := by simp [← hv_, go_sem]
      have or1 : v3.frozen? ⟨w2.heap.size, 1, none⟩ = false := by simp [← hv_, go_sem]
      have or2 : v3.frozen? ⟨w2.heap.size, 2, none⟩ = false := by simp [← hv_, go_sem]
      have or3 : v3.frozen? ⟨w2.heap.size, 3, none⟩ = false := by simp [← hv_, go_sem]
      have ol : w2.heap.size < v3.heap.size := by simp [← hv_]
      clear hv_
      obtain ⟨i0, hi0, hz0, hz1, hz2⟩ := info_parts infoB
      have HOL : Hid (w2.heap.size < v3.heap.size) := Lib.hid ol
      have HGL : Hid (w.heap.size < w2.heap.size) := Lib.hid oqg
      have G0 := Lib.hid g0
      have G1 := Lib.hid g1
      have G2 := Lib.hid g2
      have G3 := Lib.hid g3
      have F0 := Lib.hid f0
      have F1 := Lib.hid f1
      have F2 := Lib.hid f2
      have F3 := Lib.hid f3
      have P0 := Lib.hid o0
      have P1 := Lib.hid o1
      have P2 := Lib.hid o2
      have P3 := Lib.hid o3
      have FP := Lib.hid or2
      have HAV := Lib.hid hA
      have CCV := Lib.hid cc
      skip
      clear hA cc ol oqg gl or0 or1 or2 or3 g0 f0 o0 g1 f1 o1 g2 f2 o2 g3 f3 o3
      go_wp2_with fail
      go_loopw [8] (fun jv wr => ∃ (j : Nat) (p : Option Addr) (cq : Nat), j ≤ i ∧ jv = .int .i64 (j : Int) ∧ (wr.cell? ⟨w2.heap.size, 0, none⟩ = some (.int .i64 k) ∧ wr.cell? ⟨w2.heap.size, 1, none⟩ = some (.int .i64 S) ∧ wr.cell? ⟨w2.heap.size, 2, none⟩ = some (.slice p j cq) ∧ wr.cell? ⟨w2.heap.size, 3, none⟩ = some (.slice none 0 0)) ∧ wr.frozen? ⟨w2.heap.size, 2, none⟩ = false ∧ wr.ownsRow v3.heap.size 5 1 (.slice p j cq) j (((L.take j).map F).map encB) ∧ Below w2.heap.size v3 wr) (fun jv _ => i - (intOf jv).toNat)
      case atStart => exact ⟨0, none, 0, by omega, rfl, ⟨P0.out, P1.out, P2.out, P3.out⟩, FP.out, ⟨by simp, Or.inl ⟨rfl, rfl⟩⟩, Below.refl _ _⟩
      case round =>
        obtain ⟨j, p, cq, hji, rfl, ⟨p0, p1, p2, p3⟩, fp, hO, hbl⟩ := hrel
        have hgo : w2.heap.size < wr.heap.size := by have h := cell_lt p0; simpa using h
        by_cases hlt2 : j < i
        · obtain ⟨b2, o2, hAe, hb2, _⟩ := HA2.out.2.2 (by omega)
          subst hAe
          have hc2 := HAV.out.cell hlt2
          have e1 := cK hbl hc2 hb2
          have hb2u : b2 < wr.heap.size := Nat.lt_of_lt_of_le hb2 (Nat.le_of_lt hgo)
          have hjL : j < L.length := by rw [← HL.out]; exact hlt2
          have CNx := fun V => CN.out V j hjL
          have hM := HM.out j hjL
          obtain ⟨x, hx⟩ : ∃ x, L[j]?.getD 0 = x := ⟨_, rfl⟩
          rw [hx] at e1 CNx hM
          have h6 := HP6.out x
          obtain ⟨z, hz⟩ : ∃ z, F x = z := ⟨_, rfl⟩
          rw [hz] at CNx hM h6
          have HE := Lib.hid hM
          have HO := Lib.hid hO
          have z6 : (z : Int) < 256 := by omega
          have k4_ : IntKind.i64.wrap ((j : Int) + 1) = ((j + 1 : Nat) : Int) := by rw [IntWalk.i64_in _ (by omega)]; omega
          clear hM hO hc2 hx hz hjL
          go_wp2_with fail
          have qq : Below wr.heap.size wr wr.drew := below_drewN (Below.refl _ wr) 1
          go_region_held3 (fun w' => w'.cell? ⟨b2, o2 + j, none⟩ = some (.int .i64 x) ∧ w'.cell? ⟨w2.heap.size, 1, none⟩ = some (.int .i64 S))
            (first | with_reducible exact ⟨cK qq e1 hb2u, cK qq p1 hgo⟩ | go_keep)
            ((go_at_call 48; (with_reducible refine (CNx _).mono ?_); rintro e wz ⟨rfl, q⟩; replace qq := bK qq q; clear q))
          rewrite [cR qq hgo] at p0 p1 p2 p3
          replace fp := fK qq fp hgo
          have HOz := Lib.hid (own_any HO.out qq)
          have hblz := hbl.trans (qq.mono (Nat.le_of_lt hgo))
          have hgz := Nat.lt_of_lt_of_le hgo qq.size
          have hTz : v3.heap.size ≤ wz.heap.size := Nat.le_trans hbl.size qq.size
          clear qq e1 hbl hgo hb2u HO
          go_wp2_with (at_builtin; refine wpList_append_lies _ rfl _ _ 41 rfl v3.heap.size 5 i0 (.int .u8 0) 1 1 Tryz.underlying41 hi0 hz0 hz1 hz2 rfl (by decide) _ _ _ rfl (HOz.out.alloc _) ⟨wz.heap.size, 0, none⟩ 1 1 [.int .u8 (z : Int)] rfl rfl (cell_one_new _ _ _) (by simp [Value.oneCell']) (by omega) (by unfold maxLen; omega) (by omega) (by simp; omega) _ rfl ?_; intro gq cr w3 hown1 hgrow1 hat hlt1; have h1 : Below v3.heap.size wz w3 := ((Below.refl v3.heap.size wz).alloc hTz _).grown hgrow1 (by simp; omega) (fun q e => (HOz.out.lt q e).1); have hgT := HOL.out; have p0' := cK h1 p0 hgT; have p1' := cK h1 p1 hgT; have p2' := cK h1 p2 hgT; have p3' := cK h1 p3 hgT; have fp' := fK h1 fp hgT; have hgq := (hown1.lt gq rfl).1; have hne : gq ≠ w2.heap.size := (by omega); have HO3 := Lib.hid (own_other (j := 2) (u := .slice (some ⟨gq, 0, none⟩) (j + 1) cr) hown1 hne); have HB3 := Lib.hid ((hblz.trans (h1.mono (Nat.le_of_lt hgT))).setCell (p := ⟨w2.heap.size, 2, none⟩) (Nat.le_refl _) (.slice (some ⟨gq, 0, none⟩) (j + 1) cr)); clear h1 hown1 hgrow1 hat hlt1 p0 p1 p2 p3 fp hblz hTz)
          go_roundw
          case rel => exact ⟨j + 1, some ⟨gq, 0, none⟩, cr, by omega, by go_num, ⟨(World.cell?_setCell_other _ _ _ _ (addr_ne (by omega))).trans p0', (World.cell?_setCell_other _ _ _ _ (addr_ne (by omega))).trans p1', World.cell?_setCell_same _ _ _ p2', (World.cell?_setCell_other _ _ _ _ (addr_ne (by omega))).trans p3'⟩, by simpa [go_sem] using fp', by rw [HE.out, List.map_append]; exact HO3.out, HB3.out⟩
          case measure => simp [intOf] <;> omega
        · obtain rfl : j = i := by omega
          have hE : L.take j = L := List.take_of_length_le (by rw [← HL.out]; exact Nat.le_refl _)
          rw [hE] at hO
          have hR : BR wr p j cq (L.map F) := BR.of_own hO (fun x hx => by obtain ⟨y, _, rfl⟩ := List.mem_map.1 hx; have := HP6.out y; omega)
          have hnew : ∀ q, p = some q → v3.heap.size ≤ q.block := fun q e => (hO.lt q.block (by rw [e]; rfl)).1
          have hgl := HGL.out
          have hgT := HOL.out
          have g0 := (hbl.cell (p := ⟨w.heap.size, 0, none⟩) hgl).trans G0.out
          have g1 := (hbl.cell (p := ⟨w.heap.size, 1, none⟩) hgl).trans G1.out
          have g2 := (hbl.cell (p := ⟨w.heap.size, 2, none⟩) hgl).trans G2.out
          have g3 := (hbl.cell (p := ⟨w.heap.size, 3, none⟩) hgl).trans G3.out
          have f0 := (hbl.frozen (p := ⟨w.heap.size, 0, none⟩) hgl).trans F0.out
          have f1 := (hbl.frozen (p := ⟨w.heap.size, 1, none⟩) hgl).trans F1.out
          have f2 := (hbl.frozen (p := ⟨w.heap.size, 2, none⟩) hgl).trans F2.out
          have f3 := (hbl.frozen (p := ⟨w.heap.size, 3, none⟩) hgl).trans F3.out
          have cc : Below w.heap.size w wr := CCV.out.trans (hbl.mono (Nat.le_of_lt hgl))
          have m1 : ∀ q, p = some q → q.block ≠ w.heap.size := fun q e => by have := hnew q e; omega
          have m2 : ∀ q, p = some q → w.heap.size ≤ q.block := fun q e => by have := hnew q e; omega
          have HR := Lib.hid (br_putK hR m1 (.int .i64 k) (.int .i64 S) (.slice p j cq) (.slice none 0 0))
          have HBF := Lib.hid (below_putK cc (Nat.le_refl _) (.int .i64 k) (.int .i64 S) (.slice p j cq) (.slice none 0 0))
          clear hR m1 hnew cc hO hbl hgl hgT
          go_wp2_with fail
          refine bodyPost_ret (v := .tuple #[.agg #[.int .i64 k, .int .i64 S, .slice p j cq, .slice none 0 0], .int .i64 0]) (by simp [results, Tryz.results36, go_sem, g0, g1, g2, g3]) rfl ⟨_, _, _, _, _, _, rfl, HR.out, IR.nil _ _ _, HBF.out, ⟨m2, fun p e => (by cases e)⟩⟩

theorem rPack_yes {w : World} {k : Int} {A : Option Addr} {n c : Nat} {L : List Int} (hk : 0 ≤ k ∧ k ≤ 4) (hA : IR w A n c L) (hn : n ≤ 4096) (hi6 : ∀ x ∈ L, I64 x) (ho : OkP k L) : Calls Tryz.prog 36 #[.int .i64 k, .slice A n c] w (GotBq w k (pkS k L) (pkC k L) (pkW k L) 0) := by
  unfold pkS pkC pkW
  rcases kind_or.1 hk with h | h
  · have h4 : k ≠ 4 := by unfold Kind9 at h; omega
    rw [if_neg h4, if_neg h4, if_neg h4]
    exact rPack_c hk hA hn hi6 ho.2 h
  · rw [if_pos h, if_pos h, if_pos h]
    rcases Nat.eq_zero_or_pos n with h0 | h0
    · rcases A with _ | a
      · exact rPack_wn hk hA hn ho.2 h h0
      · exact rPack_wz hk hA hn ho.2 h h0
    · exact rPack_ws hk hA hn ho.2 h h0
theorem rPack_not {w : World} {k : Int} {A : Option Addr} {n c : Nat} {L : List Int} (hk : 0 ≤ k ∧ k ≤ 4) (hA : IR w A n c L) (hn : n ≤ 4096) (ho : ¬ OkP k L) : Calls Tryz.prog 36 #[.int .i64 k, .slice A n c] w (GotV w (.tuple #[.agg #[.int .i64 0, .int .i64 0, .slice none 0 0, .slice none 0 0], .int .i64 1])) := by
  refine rPack_no hk hA hn (Classical.byContradiction fun hno => ho ⟨hk, fun x hx => ?_⟩)
  by_cases h : Gd k x
  · exact h
  · exact absurd ⟨x, hx, h⟩ hno

end Go.Proofs.YtpidpebgeblenaaGreat

/-
  The contracts of the landed block: Pack, of up to 4096 numbers; its rows are new.
-/
namespace Go.Proofs.YtpidpebgeblenaaGreat
set_option maxRecDepth 100000
set_option maxHeartbeats 8000000
open Go.RowKit
set_option linter.unusedVariables false
set_option linter.unusedSimpArgs false

theorem bqPack_kind (w : World) {k : Int} {A : Option Addr} {n c : Nat} (h : ¬ (0 ≤ k ∧ k ≤ 4)) :
    Calls Tryz.prog 35 #[.int .i64 k, .slice A n c] w (GotBq w 0 0 [] [] 1) := by
  have CM := fun V => bkman_no V h
  clear h
  have cc := Below.refl w.heap.size w
  go_enter Tryz.func35, Tryz.ntmps35
  go_wp2_with fail
  generalize hv_ : w.alloc (.cells #[.int .i64 0, .int .i64 0, .slice none 0 0, .slice none 0 0] 43) = v1
  have f0 : v1.frozen? ⟨w.heap.size, 0, none⟩ = false := by simp [← hv_, go_sem]
  have f1 : v1.frozen? ⟨w.heap.size, 1, none⟩ = false := by simp [← hv_, go_sem]
  have f2 : v1.frozen? ⟨w.heap.size, 2, none⟩ = false := by simp [← hv_, go_sem]
  have f3 : v1.frozen? ⟨w.heap.size, 3, none⟩ = false := by simp [← hv_, go_sem]
  have bA : Below w.heap.size w v1 := by rw [← hv_]; exact ((Below.refl _ w).alloc (by simp) _)
  replace cc := bK cc bA
  clear bA
  have g0 : v1.cell? ⟨w.heap.size, 0, none⟩ = some (.int .i64 0) := by simp [← hv_, go_sem]
  have g1 : v1.cell? ⟨w.heap.size, 1, none⟩ = some (.int .i64 0) := by simp [← hv_, go_sem]
  have g2 : v1.cell? ⟨w.heap.size, 2, none⟩ = some (.slice none 0 0) := by simp [← hv_, go_sem]
  have g3 : v1.cell? ⟨w.heap.size, 3, none⟩ = some (.slice none 0 0) := by simp [← hv_, go_sem]
  have gl : w.heap.size < v1.heap.size := by simp [← hv_] <;> omega
  clear hv_
  go_wp2_with fail
  refine (CM _).mono ?_
  rintro e w2 ⟨rfl, b⟩
  rewrite [fR b gl] at f0 f1 f2 f3
  rewrite [cR b gl] at g0 g1 g2 g3
  replace gl := lK b gl
  replace cc := bK cc b
  clear b
  have HBF := Lib.hid (below_putK cc (Nat.le_refl _) (.int .i64 0) (.int .i64 0) (.slice none 0 0) (.slice none 0 0))
  clear cc
  go_wp2_with fail
  refine bodyPost_ret (v := .tuple #[.agg #[.int .i64 0, .int .i64 0, .slice none 0 0, .slice none 0 0], .int .i64 1]) (by simp [results, Tryz.results35, go_sem, g0, g1, g2, g3]) rfl ⟨_, _, _, _, _, _, rfl, BR.nil _ _ _, IR.nil _ _ _, HBF.out, fun _ e => (by cases e), fun _ e => (by cases e)⟩

theorem bqPack_wn {w : World} {k : Int} {A : Option Addr} {n c : Nat} {L : List Int} (hk : k = 4) (hA : IR w A n c L) (hn : n ≤ 4096) (ht : ∃ x ∈ L, tkW x = false) :
    Calls Tryz.prog 35 #[.int .i64 k, .slice A n c] w (GotBq w 0 0 [] [] 1) := by
  have CM := fun V => bkman_w V hk
  subst hk
  have CT := fun (V : World) (x : Int) => bktkw_N V (x := x)
  have hmt1 : ∀ V : World, (method 61 75 (.agg #[]) "ratchet/block.takes").run Tryz.prog V = .ok (117, .agg #[]) V := fun _ => by kernel_rfl
  have hmt2 : ∀ V : World, (method 61 75 (.agg #[]) "ratchet/block.pack").run Tryz.prog V = .ok (115, .agg #[]) V := fun _ => by kernel_rfl
  have HT := Lib.hid ht
  clear ht
  have HL := Lib.hid hA.1
  generalize tkW = T at *
  have cc := Below.refl w.heap.size w
  go_enter Tryz.func35, Tryz.ntmps35
  go_wp2_with fail
  generalize hv_ : w.alloc (.cells #[.int .i64 0, .int .i64 0, .slice none 0 0, .slice none 0 0] 43) = v1
  have f0 : v1.frozen? ⟨w.heap.size, 0, none⟩ = false := by simp [← hv_, go_sem]
  have f1 : v1.frozen? ⟨w.heap.size, 1, none⟩ = false := by simp [← hv_, go_sem]
  have f2 : v1.frozen? ⟨w.heap.size, 2, none⟩ = false := by simp [← hv_, go_sem]
  have f3 : v1.frozen? ⟨w.heap.size, 3, none⟩ = false := by simp [← hv_, go_sem]
  have bA : Below w.heap.size w v1 := by rw [← hv_]; exact ((Below.refl _ w).alloc (by simp) _)
  replace hA := hA.on bA
  replace cc := bK cc bA
  clear bA
  have g0 : v1.cell? ⟨w.heap.size, 0, none⟩ = some (.int .i64 0) := by simp [← hv_, go_sem]
  have g1 : v1.cell? ⟨w.heap.size, 1, none⟩ = some (.int .i64 0) := by simp [← hv_, go_sem]
  have g2 : v1.cell? ⟨w.heap.size, 2, none⟩ = some (.slice none 0 0) := by simp [← hv_, go_sem]
  have g3 : v1.cell? ⟨w.heap.size, 3, none⟩ = some (.slice none 0 0) := by simp [← hv_, go_sem]
  have gl : w.heap.size < v1.heap.size := by simp [← hv_] <;> omega
  clear hv_
  go_wp2_with fail
  refine (CM _).mono ?_
  rintro e w2 ⟨rfl, b⟩
  rewrite [fR b gl] at f0 f1 f2 f3
  replace hA := hA.on b
  rewrite [cR b gl] at g0 g1 g2 g3
  replace gl := lK b gl
  replace cc := bK cc b
  clear b
  have HAV := Lib.hid hA
  have CCV := Lib.hid cc
  have HGL := Lib.hid gl
  have G0 := Lib.hid g0
  have G1 := Lib.hid g1
  have G2 := Lib.hid g2
  have G3 := Lib.hid g3
  have F0 := Lib.hid f0
  have F1 := Lib.hid f1
  have F2 := Lib.hid f2
  have F3 := Lib.hid f3
  clear hA cc gl g0 f0 g1 f1 g2 f2 g3 f3
  go_wp2_with fail
  go_loopw [21] (fun iv wr => ∃ i : Nat, i ≤ n ∧ iv = .int .i64 (i : Int) ∧ (∀ j, j < i → T (L[j]?.getD 0) = true) ∧ Below w2.heap.size w2 wr) (fun iv _ => n - (intOf iv).toNat)
  case atStart => exact ⟨0, by omega, rfl, fun j h => absurd h (by omega), Below.refl _ _⟩
  case round =>
    obtain ⟨i, hi, rfl, hj, hbl⟩ := hrel
    by_cases hlt : i < n
    · have hA := HAV.out.on hbl
      obtain ⟨b2, o2, rfl, hb2_, hc2⟩ := HAV.out.2.2 (by omega)
      have e1 := hA.cell hlt
      obtain ⟨x, hx⟩ : ∃ x, L[i]?.getD 0 = x := ⟨_, rfl⟩
      rw [hx] at e1
      have CTx := fun V => CT V x
      have k3 : IntKind.i64.wrap ((i : Int) + 1) = ((i + 1 : Nat) : Int) := by rw [IntWalk.i64_in _ (by omega)]; omega
      cases tx : T x with
      | true =>
        have HJ : Hid (∀ j, j < i + 1 → T (L[j]?.getD 0) = true) := Lib.hid (fun j h => by
          rcases Nat.lt_or_ge j i with e | e
          · exact hj j e
          · have e2 : j = i := by omega
            rw [e2, hx]; exact tx)
        rw [tx] at CTx
        clear hj hx hA hc2 CT hb2_ tx
        go_wp2_with fail
        refine (CTx _).mono ?_
        rintro e wz ⟨rfl, b⟩
        replace hbl := bK hbl b
        clear b
        go_wp2_with fail
        go_roundw
        case rel => exact ⟨i + 1, by omega, by go_num, HJ.out, hbl⟩
        case measure => simp [intOf] <;> omega
      | false =>
        have hgl := HGL.out
        have cc := CCV.out.trans (hbl.mono CCV.out.size)
        have g0 := (hbl.cell (p := ⟨w.heap.size, 0, none⟩) hgl).trans G0.out
        have g1 := (hbl.cell (p := ⟨w.heap.size, 1, none⟩) hgl).trans G1.out
        have g2 := (hbl.cell (p := ⟨w.heap.size, 2, none⟩) hgl).trans G2.out
        have g3 := (hbl.cell (p := ⟨w.heap.size, 3, none⟩) hgl).trans G3.out
        have f0 := (hbl.frozen (p := ⟨w.heap.size, 0, none⟩) hgl).trans F0.out
        have f1 := (hbl.frozen (p := ⟨w.heap.size, 1, none⟩) hgl).trans F1.out
        have f2 := (hbl.frozen (p := ⟨w.heap.size, 2, none⟩) hgl).trans F2.out
        have f3 := (hbl.frozen (p := ⟨w.heap.size, 3, none⟩) hgl).trans F3.out
        replace hgl := lK hbl hgl
        rw [tx] at CTx
        clear hj hx hA hc2 CT hb2_ tx hbl
        go_wp2_with fail
        refine (CTx _).mono ?_
        rintro e wz ⟨rfl, b⟩
        rewrite [cR b hgl] at g0 g1 g2 g3
        rewrite [fR b hgl] at f0 f1 f2 f3
        replace cc := bK cc b
        have HBF := Lib.hid (below_putK cc (Nat.le_refl _) (.int .i64 0) (.int .i64 0) (.slice none 0 0) (.slice none 0 0))
        clear cc b hgl
        go_wp2_with fail
        refine bodyPost_ret (v := .tuple #[.agg #[.int .i64 0, .int .i64 0, .slice none 0 0, .slice none 0 0], .int .i64 1]) (by simp [results, Tryz.results35, go_sem, g0, g1, g2, g3]) rfl ⟨_, _, _, _, _, _, rfl, BR.nil _ _ _, IR.nil _ _ _, HBF.out, fun _ e => (by cases e), fun _ e => (by cases e)⟩
    · exfalso
      obtain rfl : i = n := by omega
      obtain ⟨x, hx, hxf⟩ := HT.out
      obtain ⟨j, hj2, rfl⟩ := at_mem 0 hx
      have h1 := hj j (by rw [HL.out]; exact hj2)
      rw [hxf] at h1
      cases h1

theorem bqPack_wy {w : World} {k : Int} {A : Option Addr} {n c : Nat} {L : List Int} (hk : k = 4) (hA : IR w A n c L) (hn : n ≤ 4096) (ht : ∀ x ∈ L, tkW x = true) :
    Calls Tryz.prog 35 #[.int .i64 k, .slice A n c] w (GotBq w 4 0 [] L 0) := by
  have CM := fun V => bkman_w V hk
  subst hk
  have CT := fun (V : World) (x : Int) => bktkw_N V (x := x)
  have hmt1 : ∀ V : World, (method 61 75 (.agg #[]) "ratchet/block.takes").run Tryz.prog V = .ok (117, .agg #[]) V := fun _ => by kernel_rfl
  have hmt2 : ∀ V : World, (method 61 75 (.agg #[]) "ratchet/block.pack").run Tryz.prog V = .ok (115, .agg #[]) V := fun _ => by kernel_rfl
  have CP := fun {V : World} (h : IR V A n c L) => bkwpack_N h (by omega)
  have HT := Lib.hid ht
  clear ht
  have HL := Lib.hid hA.1
  generalize tkW = T at *
  have cc := Below.refl w.heap.size w
  go_enter Tryz.func35, Tryz.ntmps35
  go_wp2_with fail
  generalize hv_ : w.alloc (.cells #[.int .i64 0, .int .i64 0, .slice none 0 0, .slice none 0 0] 43) = v1
  have f0 : v1.frozen? ⟨w.heap.size, 0, none⟩ = false := by simp [← hv_, go_sem]
  have f1 : v1.frozen? ⟨w.heap.size, 1, none⟩ = false := by simp [← hv_, go_sem]
  have f2 : v1.frozen? ⟨w.heap.size, 2, none⟩ = false := by simp [← hv_, go_sem]
  have f3 : v1.frozen? ⟨w.heap.size, 3, none⟩ = false := by simp [← hv_, go_sem]
  have bA : Below w.heap.size w v1 := by rw [← hv_]; exact ((Below.refl _ w).alloc (by simp) _)
  replace hA := hA.on bA
  replace cc := bK cc bA
  clear bA
  have g0 : v1.cell? ⟨w.heap.size, 0, none⟩ = some (.int .i64 0) := by simp [← hv_, go_sem]
  have g1 : v1.cell? ⟨w.heap.size, 1, none⟩ = some (.int .i64 0) := by simp [← hv_, go_sem]
  have g2 : v1.cell? ⟨w.heap.size, 2, none⟩ = some (.slice none 0 0) := by simp [← hv_, go_sem]
  have g3 : v1.cell? ⟨w.heap.size, 3, none⟩ = some (.slice none 0 0) := by simp [← hv_, go_sem]
  have gl : w.heap.size < v1.heap.size := by simp [← hv_] <;> omega
  clear hv_
  go_wp2_with fail
  refine (CM _).mono ?_
  rintro e w2 ⟨rfl, b⟩
  rewrite [fR b gl] at f0 f1 f2 f3
  replace hA := hA.on b
  rewrite [cR b gl] at g0 g1 g2 g3
  replace gl := lK b gl
  replace cc := bK cc b
  clear b
  have HAV := Lib.hid hA
  have CCV := Lib.hid cc
  have HGL := Lib.hid gl
  have G0 := Lib.hid g0
  have G1 := Lib.hid g1
  have G2 := Lib.hid g2
  have G3 := Lib.hid g3
  have F0 := Lib.hid f0
  have F1 := Lib.hid f1
  have F2 := Lib.hid f2
  have F3 := Lib.hid f3
  clear hA cc gl g0 f0 g1 f1 g2 f2 g3 f3
  go_wp2_with fail
  go_loopw [21] (fun iv wr => ∃ i : Nat, i ≤ n ∧ iv = .int .i64 (i : Int) ∧ (∀ j, j < i → T (L[j]?.getD 0) = true) ∧ Below w2.heap.size w2 wr) (fun iv _ => n - (intOf iv).toNat)
  case atStart => exact ⟨0, by omega, rfl, fun j h => absurd h (by omega), Below.refl _ _⟩
  case round =>
    obtain ⟨i, hi, rfl, hj, hbl⟩ := hrel
    by_cases hlt : i < n
    · have hA := HAV.out.on hbl
      obtain ⟨b2, o2, rfl, hb2_, hc2⟩ := HAV.out.2.2 (by omega)
      have e1 := hA.cell hlt
      obtain ⟨x, hx⟩ : ∃ x, L[i]?.getD 0 = x := ⟨_, rfl⟩
      rw [hx] at e1
      have CTx := fun V => CT V x
      have k3 : IntKind.i64.wrap ((i : Int) + 1) = ((i + 1 : Nat) : Int) := by rw [IntWalk.i64_in _ (by omega)]; omega
      have tx : T x = true := by rw [← hx]; exact HT.out _ (mem_at (by rw [← HL.out]; exact hlt))
      have HJ : Hid (∀ j, j < i + 1 → T (L[j]?.getD 0) = true) := Lib.hid (fun j h => by
        rcases Nat.lt_or_ge j i with e | e
        · exact hj j e
        · have e2 : j = i := by omega
          rw [e2, hx]; exact tx)
      rw [tx] at CTx
      clear hj hx hA hc2 CT hb2_ tx
      go_wp2_with fail
      refine (CTx _).mono ?_
      rintro e wz ⟨rfl, b⟩
      replace hbl := bK hbl b
      clear b
      go_wp2_with fail
      go_roundw
      case rel => exact ⟨i + 1, by omega, by go_num, HJ.out, hbl⟩
      case measure => simp [intOf] <;> omega
    · obtain rfl : i = n := by omega
      have hgl := HGL.out
      have cc := CCV.out.trans (hbl.mono CCV.out.size)
      have g0 := (hbl.cell (p := ⟨w.heap.size, 0, none⟩) hgl).trans G0.out
      have g1 := (hbl.cell (p := ⟨w.heap.size, 1, none⟩) hgl).trans G1.out
      have g2 := (hbl.cell (p := ⟨w.heap.size, 2, none⟩) hgl).trans G2.out
      have g3 := (hbl.cell (p := ⟨w.heap.size, 3, none⟩) hgl).trans G3.out
      have f0 := (hbl.frozen (p := ⟨w.heap.size, 0, none⟩) hgl).trans F0.out
      have f1 := (hbl.frozen (p := ⟨w.heap.size, 1, none⟩) hgl).trans F1.out
      have f2 := (hbl.frozen (p := ⟨w.heap.size, 2, none⟩) hgl).trans F2.out
      have f3 := (hbl.frozen (p := ⟨w.heap.size, 3, none⟩) hgl).trans F3.out
      replace hgl := lK hbl hgl
      have hA := HAV.out.on hbl
      clear hj hbl
      have t4 : decide (4096 < i) = false := decide_eq_false (by omega)
      have t5 : decide ((4096 : Int) < (i : Int)) = false := decide_eq_false (by omega)
      go_wp2_with fail
      refine (CP hA).mono ?_
      rintro e wz ⟨Ax, nx, cx, Bx, mx, dx, rfl, hC, hW, b, hn1, hn2⟩
      rewrite [cR b hgl] at g0 g1 g2 g3
      rewrite [fR b hgl] at f0 f1 f2 f3
      replace cc := bK cc b
      have m1 : ∀ p, Ax = some p → p.block ≠ w.heap.size := fun p e => by have := hn1 p e; omega
      have m2 : ∀ p, Bx = some p → p.block ≠ w.heap.size := fun p e => by have := hn2 p e; omega
      have HM1 : Hid (∀ p, Ax = some p → w.heap.size ≤ p.block) := Lib.hid (fun p e => by have := hn1 p e; omega)
      have HM2 : Hid (∀ p, Bx = some p → w.heap.size ≤ p.block) := Lib.hid (fun p e => by have := hn2 p e; omega)
      have HRC := Lib.hid (br_putK hC m1 (.int .i64 4) (.int .i64 0) (.slice Ax nx cx) (.slice Bx mx dx))
      have HRW := Lib.hid (ir_putK hW m2 (.int .i64 4) (.int .i64 0) (.slice Ax nx cx) (.slice Bx mx dx))
      have HBF := Lib.hid (below_putK cc (Nat.le_refl _) (.int .i64 4) (.int .i64 0) (.slice Ax nx cx) (.slice Bx mx dx))
      clear hC hW b hn1 hn2 m1 m2 cc hgl hA
      go_wp2_with fail
      refine bodyPost_ret (v := .tuple #[.agg #[.int .i64 4, .int .i64 0, .slice Ax nx cx, .slice Bx mx dx], .int .i64 0]) (by simp [results, Tryz.results35, go_sem, g0, g1, g2, g3]) rfl ⟨_, _, _, _, _, _, rfl, HRC.out, HRW.out, HBF.out, HM1.out, HM2.out⟩

theorem bqPack_cn {w : World} {k : Int} {A : Option Addr} {n c : Nat} {L : List Int} (hk : Kind9 k) (hA : IR w A n c L) (hn : n ≤ 4096) (ht : ∃ x ∈ L, tkC k x = false) :
    Calls Tryz.prog 35 #[.int .i64 k, .slice A n c] w (GotBq w 0 0 [] [] 1) := by
  have CM := fun V => bkman_c V hk
  have CT := fun (V : World) (x : Int) => bktkc_N V (k := k) (x := x)
  have hmt1 : ∀ V : World, (method 61 76 (.int .i64 k) "ratchet/block.takes").run Tryz.prog V = .ok (122, .int .i64 k) V := fun _ => by kernel_rfl
  have hmt2 : ∀ V : World, (method 61 76 (.int .i64 k) "ratchet/block.pack").run Tryz.prog V = .ok (120, .int .i64 k) V := fun _ => by kernel_rfl
  have HT := Lib.hid ht
  clear ht hk
  have HL := Lib.hid hA.1
  generalize tkC k = T at *
  have cc := Below.refl w.heap.size w
  go_enter Tryz.func35, Tryz.ntmps35
  go_wp2_with fail
  generalize hv_ : w.alloc (.cells #[.int .i64 0, .int .i64 0, .slice none 0 0, .slice none 0 0] 43) = v1
  have f0 : v1.frozen? ⟨w.heap.size, 0, none⟩ = false := by simp [← hv_, go_sem]
  have f1 : v1.frozen? ⟨w.heap.size, 1, none⟩ = false := by simp [← hv_, go_sem]
  have f2 : v1.frozen? ⟨w.heap.size, 2, none⟩ = false := by simp [← hv_, go_sem]
  have f3 : v1.frozen? ⟨w.heap.size, 3, none⟩ = false := by simp [← hv_, go_sem]
  have bA : Below w.heap.size w v1 := by rw [← hv_]; exact ((Below.refl _ w).alloc (by simp) _)
  replace hA := hA.on bA
  replace cc := bK cc bA
  clear bA
  have g0 : v1.cell? ⟨w.heap.size, 0, none⟩ = some (.int .i64 0) := by simp [← hv_, go_sem]
  have g1 : v1.cell? ⟨w.heap.size, 1, none⟩ = some (.int .i64 0) := by simp [← hv_, go_sem]
  have g2 : v1.cell? ⟨w.heap.size, 2, none⟩ = some (.slice none 0 0) := by simp [← hv_, go_sem]
  have g3 : v1.cell? ⟨w.heap.size, 3, none⟩ = some (.slice none 0 0) := by simp [← hv_, go_sem]
  have gl : w.heap.size < v1.heap.size := by simp [← hv_] <;> omega
  clear hv_
  go_wp2_with fail
  refine (CM _).mono ?_
  rintro e w2 ⟨rfl, b⟩
  rewrite [fR b gl] at f0 f1 f2 f3
  replace hA := hA.on b
  rewrite [cR b gl] at g0 g1 g2 g3
  replace gl := lK b gl
  replace cc := bK cc b
  clear b
  have HAV := Lib.hid hA
  have CCV := Lib.hid cc
  have HGL := Lib.hid gl
  have G0 := Lib.hid g0
  have G1 := Lib.hid g1
  have G2 := Lib.hid g2
  have G3 := Lib.hid g3
  have F0 := Lib.hid f0
  have F1 := Lib.hid f1
  have F2 := Lib.hid f2
  have F3 := Lib.hid f3
  clear hA cc gl g0 f0 g1 f1 g2 f2 g3 f3
  go_wp2_with fail
  go_loopw [21] (fun iv wr => ∃ i : Nat, i ≤ n ∧ iv = .int .i64 (i : Int) ∧ (∀ j, j < i → T (L[j]?.getD 0) = true) ∧ Below w2.heap.size w2 wr) (fun iv _ => n - (intOf iv).toNat)
  case atStart => exact ⟨0, by omega, rfl, fun j h => absurd h (by omega), Below.refl _ _⟩
  case round =>
    obtain ⟨i, hi, rfl, hj, hbl⟩ := hrel
    by_cases hlt : i < n
    · have hA := HAV.out.on hbl
      obtain ⟨b2, o2, rfl, hb2_, hc2⟩ := HAV.out.2.2 (by omega)
      have e1 := hA.cell hlt
      obtain ⟨x, hx⟩ : ∃ x, L[i]?.getD 0 = x := ⟨_, rfl⟩
      rw [hx] at e1
      have CTx := fun V => CT V x
      have k3 : IntKind.i64.wrap ((i : Int) + 1) = ((i + 1 : Nat) : Int) := by rw [IntWalk.i64_in _ (by omega)]; omega
      cases tx : T x with
      | true =>
        have HJ : Hid (∀ j, j < i + 1 → T (L[j]?.getD 0) = true) := Lib.hid (fun j h => by
          rcases Nat.lt_or_ge j i with e | e
          · exact hj j e
          · have e2 : j = i := by omega
            rw [e2, hx]; exact tx)
        rw [tx] at CTx
        clear hj hx hA hc2 CT hb2_ tx
        go_wp2_with fail
        refine (CTx _).mono ?_
        rintro e wz ⟨rfl, b⟩
        replace hbl := bK hbl b
        clear b
        go_wp2_with fail
        go_roundw
        case rel => exact ⟨i + 1, by omega, by go_num, HJ.out, hbl⟩
        case measure => simp [intOf] <;> omega
      | false =>
        have hgl := HGL.out
        have cc := CCV.out.trans (hbl.mono CCV.out.size)
        have g0 := (hbl.cell (p := ⟨w.heap.size, 0, none⟩) hgl).trans G0.out
        have g1 := (hbl.cell (p := ⟨w.heap.size, 1, none⟩) hgl).trans G1.out
        have g2 := (hbl.cell (p := ⟨w.heap.size, 2, none⟩) hgl).trans G2.out
        have g3 := (hbl.cell (p := ⟨w.heap.size, 3, none⟩) hgl).trans G3.out
        have f0 := (hbl.frozen (p := ⟨w.heap.size, 0, none⟩) hgl).trans F0.out
        have f1 := (hbl.frozen (p := ⟨w.heap.size, 1, none⟩) hgl).trans F1.out
        have f2 := (hbl.frozen (p := ⟨w.heap.size, 2, none⟩) hgl).trans F2.out
        have f3 := (hbl.frozen (p := ⟨w.heap.size, 3, none⟩) hgl).trans F3.out
        replace hgl := lK hbl hgl
        rw [tx] at CTx
        clear hj hx hA hc2 CT hb2_ tx hbl
        go_wp2_with fail
        refine (CTx _).mono ?_
        rintro e wz ⟨rfl, b⟩
        rewrite [cR b hgl] at g0 g1 g2 g3
        rewrite [fR b hgl] at f0 f1 f2 f3
        replace cc := bK cc b
        have HBF := Lib.hid (below_putK cc (Nat.le_refl _) (.int .i64 0) (.int .i64 0) (.slice none 0 0) (.slice none 0 0))
        clear cc b hgl
        go_wp2_with fail
        refine bodyPost_ret (v := .tuple #[.agg #[.int .i64 0, .int .i64 0, .slice none 0 0, .slice none 0 0], .int .i64 1]) (by simp [results, Tryz.results35, go_sem, g0, g1, g2, g3]) rfl ⟨_, _, _, _, _, _, rfl, BR.nil _ _ _, IR.nil _ _ _, HBF.out, fun _ e => (by cases e), fun _ e => (by cases e)⟩
    · exfalso
      obtain rfl : i = n := by omega
      obtain ⟨x, hx, hxf⟩ := HT.out
      obtain ⟨j, hj2, rfl⟩ := at_mem 0 hx
      have h1 := hj j (by rw [HL.out]; exact hj2)
      rw [hxf] at h1
      cases h1

theorem bqPack_cy {w : World} {k : Int} {A : Option Addr} {n c : Nat} {L : List Int} (hk : Kind9 k) (hA : IR w A n c L) (hn : n ≤ 4096) (ht : ∀ x ∈ L, tkC k x = true) (hL : ∀ j : Nat, I64 (L[j]?.getD 0) ∧ L[j]?.getD 0 ≠ -9223372036854775808) (hO : ∀ x ∈ L, -gr L ≤ x ∧ x ≤ gr L ∧ (0 ≤ x ∨ sig9 k = true)) :
    Calls Tryz.prog 35 #[.int .i64 k, .slice A n c] w (GotBq w k (gr L) (L.map (pk k (gr L))) [] 0) := by
  have CM := fun V => bkman_c V hk
  have CT := fun (V : World) (x : Int) => bktkc_N V (k := k) (x := x)
  have hmt1 : ∀ V : World, (method 61 76 (.int .i64 k) "ratchet/block.takes").run Tryz.prog V = .ok (122, .int .i64 k) V := fun _ => by kernel_rfl
  have hmt2 : ∀ V : World, (method 61 76 (.int .i64 k) "ratchet/block.pack").run Tryz.prog V = .ok (120, .int .i64 k) V := fun _ => by kernel_rfl
  have CP := fun {V : World} (h : IR V A n c L) => bkcpack_N hk h (by omega) hL hO
  generalize L.map (pk k (gr L)) = R at *
  generalize gr L = S at *
  clear hL hO hk
  have HT := Lib.hid ht
  clear ht
  have HL := Lib.hid hA.1
  generalize tkC k = T at *
  have cc := Below.refl w.heap.size w
  go_enter Tryz.func35, Tryz.ntmps35
  go_wp2_with fail
  generalize hv_ : w.alloc (.cells #[.int .i64 0, .int .i64 0, .slice none 0 0, .slice none 0 0] 43) = v1
  have f0 : v1.frozen? ⟨w.heap.size, 0, none⟩ = false := by simp [← hv_, go_sem]
  have f1 : v1.frozen? ⟨w.heap.size, 1, none⟩ = false := by simp [← hv_, go_sem]
  have f2 : v1.frozen? ⟨w.heap.size, 2, none⟩ = false := by simp [← hv_, go_sem]
  have f3 : v1.frozen? ⟨w.heap.size, 3, none⟩ = false := by simp [← hv_, go_sem]
  have bA : Below w.heap.size w v1 := by rw [← hv_]; exact ((Below.refl _ w).alloc (by simp) _)
  replace hA := hA.on bA
  replace cc := bK cc bA
  clear bA
  have g0 : v1.cell? ⟨w.heap.size, 0, none⟩ = some (.int .i64 0) := by simp [← hv_, go_sem]
  have g1 : v1.cell? ⟨w.heap.size, 1, none⟩ = some (.int .i64 0) := by simp [← hv_, go_sem]
  have g2 : v1.cell? ⟨w.heap.size, 2, none⟩ = some (.slice none 0 0) := by simp [← hv_, go_sem]
  have g3 : v1.cell? ⟨w.heap.size, 3, none⟩ = some (.slice none 0 0) := by simp [← hv_, go_sem]
  have gl : w.heap.size < v1.heap.size := by simp [← hv_] <;> omega
  clear hv_
  go_wp2_with fail
  refine (CM _).mono ?_
  rintro e w2 ⟨rfl, b⟩
  rewrite [fR b gl] at f0 f1 f2 f3
  replace hA := hA.on b
  rewrite [cR b gl] at g0 g1 g2 g3
  replace gl := lK b gl
  replace cc := bK cc b
  clear b
  have HAV := Lib.hid hA
  have CCV := Lib.hid cc
  have HGL := Lib.hid gl
  have G0 := Lib.hid g0
  have G1 := Lib.hid g1
  have G2 := Lib.hid g2
  have G3 := Lib.hid g3
  have F0 := Lib.hid f0
  have F1 := Lib.hid f1
  have F2 := Lib.hid f2
  have F3 := Lib.hid f3
  clear hA cc gl g0 f0 g1 f1 g2 f2 g3 f3
  go_wp2_with fail
  go_loopw [21] (fun iv wr => ∃ i : Nat, i ≤ n ∧ iv = .int .i64 (i : Int) ∧ (∀ j, j < i → T (L[j]?.getD 0) = true) ∧ Below w2.heap.size w2 wr) (fun iv _ => n - (intOf iv).toNat)
  case atStart => exact ⟨0, by omega, rfl, fun j h => absurd h (by omega), Below.refl _ _⟩
  case round =>
    obtain ⟨i, hi, rfl, hj, hbl⟩ := hrel
    by_cases hlt : i < n
    · have hA := HAV.out.on hbl
      obtain ⟨b2, o2, rfl, hb2_, hc2⟩ := HAV.out.2.2 (by omega)
      have e1 := hA.cell hlt
      obtain ⟨x, hx⟩ : ∃ x, L[i]?.getD 0 = x := ⟨_, rfl⟩
      rw [hx] at e1
      have CTx := fun V => CT V x
      have k3 : IntKind.i64.wrap ((i : Int) + 1) = ((i + 1 : Nat) : Int) := by rw [IntWalk.i64_in _ (by omega)]; omega
      have tx : T x = true := by rw [← hx]; exact HT.out _ (mem_at (by rw [← HL.out]; exact hlt))
      have HJ : Hid (∀ j, j < i + 1 → T (L[j]?.getD 0) = true) := Lib.hid (fun j h => by
        rcases Nat.lt_or_ge j i with e | e
        · exact hj j e
        · have e2 : j = i := by omega
          rw [e2, hx]; exact tx)
      rw [tx] at CTx
      clear hj hx hA hc2 CT hb2_ tx
      go_wp2_with fail
      refine (CTx _).mono ?_
      rintro e wz ⟨rfl, b⟩
      replace hbl := bK hbl b
      clear b
      go_wp2_with fail
      go_roundw
      case rel => exact ⟨i + 1, by omega, by go_num, HJ.out, hbl⟩
      case measure => simp [intOf] <;> omega
    · obtain rfl : i = n := by omega
      have hgl := HGL.out
      have cc := CCV.out.trans (hbl.mono CCV.out.size)
      have g0 := (hbl.cell (p := ⟨w.heap.size, 0, none⟩) hgl).trans G0.out
      have g1 := (hbl.cell (p := ⟨w.heap.size, 1, none⟩) hgl).trans G1.out
      have g2 := (hbl.cell (p := ⟨w.heap.size, 2, none⟩) hgl).trans G2.out
      have g3 := (hbl.cell (p := ⟨w.heap.size, 3, none⟩) hgl).trans G3.out
      have f0 := (hbl.frozen (p := ⟨w.heap.size, 0, none⟩) hgl).trans F0.out
      have f1 := (hbl.frozen (p := ⟨w.heap.size, 1, none⟩) hgl).trans F1.out
      have f2 := (hbl.frozen (p := ⟨w.heap.size, 2, none⟩) hgl).trans F2.out
      have f3 := (hbl.frozen (p := ⟨w.heap.size, 3, none⟩) hgl).trans F3.out
      replace hgl := lK hbl hgl
      have hA := HAV.out.on hbl
      clear hj hbl
      have t4 : decide (4096 < i) = false := decide_eq_false (by omega)
      have t5 : decide ((4096 : Int) < (i : Int)) = false := decide_eq_false (by omega)
      go_wp2_with fail
      refine (CP hA).mono ?_
      rintro e wz ⟨Ax, nx, cx, Bx, mx, dx, rfl, hC, hW, b, hn1, hn2⟩
      rewrite [cR b hgl] at g0 g1 g2 g3
      rewrite [fR b hgl] at f0 f1 f2 f3
      replace cc := bK cc b
      have m1 : ∀ p, Ax = some p → p.block ≠ w.heap.size := fun p e => by have := hn1 p e; omega
      have m2 : ∀ p, Bx = some p → p.block ≠ w.heap.size := fun p e => by have := hn2 p e; omega
      have HM1 : Hid (∀ p, Ax = some p → w.heap.size ≤ p.block) := Lib.hid (fun p e => by have := hn1 p e; omega)
      have HM2 : Hid (∀ p, Bx = some p → w.heap.size ≤ p.block) := Lib.hid (fun p e => by have := hn2 p e; omega)
      have HRC := Lib.hid (br_putK hC m1 (.int .i64 k) (.int .i64 S) (.slice Ax nx cx) (.slice Bx mx dx))
      have HRW := Lib.hid (ir_putK hW m2 (.int .i64 k) (.int .i64 S) (.slice Ax nx cx) (.slice Bx mx dx))
      have HBF := Lib.hid (below_putK cc (Nat.le_refl _) (.int .i64 k) (.int .i64 S) (.slice Ax nx cx) (.slice Bx mx dx))
      clear hC hW b hn1 hn2 m1 m2 cc hgl hA
      go_wp2_with fail
      refine bodyPost_ret (v := .tuple #[.agg #[.int .i64 k, .int .i64 S, .slice Ax nx cx, .slice Bx mx dx], .int .i64 0]) (by simp [results, Tryz.results35, go_sem, g0, g1, g2, g3]) rfl ⟨_, _, _, _, _, _, rfl, HRC.out, HRW.out, HBF.out, HM1.out, HM2.out⟩

theorem bqPack_yes {w : World} {k : Int} {A : Option Addr} {n c : Nat} {L : List Int} (hk : I64 k) (hA : IR w A n c L) (hi : ∀ x ∈ L, I64 x) (hn : n ≤ 4096) (ho : OkP k L) : Calls Tryz.prog 35 #[.int .i64 k, .slice A n c] w (GotBq w k (pkS k L) (pkC k L) (pkW k L) 0) := by
  unfold pkS pkC pkW
  rcases kind_or.1 ho.1 with h | h
  · have h4 : k ≠ 4 := by unfold Kind9 at h; omega
    rw [if_neg h4, if_neg h4, if_neg h4]
    exact bqPack_cy h hA hn (fun x hx => (tkC_ok h).2 (ho.2 x hx)) (row_i64 hi fun x hx => (ho.2 x hx).1) (fun x hx => okP_at ho h hx)
  · rw [if_pos h, if_pos h, if_pos h]
    have := bqPack_wy h hA hn (fun x hx => tkW_ok.2 (ho.2 x hx).1)
    subst h
    exact this
theorem bqPack_no {w : World} {k : Int} {A : Option Addr} {n c : Nat} {L : List Int} (hk : I64 k) (hA : IR w A n c L) (hi : ∀ x ∈ L, I64 x) (hn : n ≤ 4096) (ho : ¬ OkP k L) : Calls Tryz.prog 35 #[.int .i64 k, .slice A n c] w (GotBq w 0 0 [] [] 1) := by
  by_cases hr : 0 ≤ k ∧ k ≤ 4
  · rcases kind_or.1 hr with h | h
    · refine bqPack_cn h hA hn (Classical.byContradiction fun hno => ho ⟨hr, fun x hx => (tkC_ok h).1 ?_⟩)
      cases hx2 : tkC k x with
      | true => rfl
      | false => exact absurd ⟨x, hx, hx2⟩ hno
    · refine bqPack_wn h hA hn (Classical.byContradiction fun hno => ho ⟨hr, fun x hx => ⟨tkW_ok.1 ?_, fun e => by omega⟩⟩)
      cases hx2 : tkW x with
      | true => rfl
      | false => exact absurd ⟨x, hx, hx2⟩ hno
  · exact bqPack_kind w hr

end Go.Proofs.YtpidpebgeblenaaGreat

/-
  Rows of blocks of the call's own, which grow.
-/
namespace Go.Proofs.YtpidpebgeblenaaGreat
set_option maxRecDepth 100000
open Go.RowKit
set_option linter.unusedVariables false
set_option linter.unusedSimpArgs false

theorem infoK : (Tryz.prog.info? 43).map (fun i => (i.zero, i.size, i.bytes)) = some (some (.agg #[.int .i64 0, .int .i64 0, .slice none 0 0, .slice none 0 0]), 4, 64) := by kernel_rfl
/-- A row lies apart from the row of blocks, and is new. -/
def Apart (t : Nat) (own : Option Nat) (A : Option Addr) (n : Nat) : Prop := 0 < n → ∀ q, A = some q → t ≤ q.block ∧ own ≠ some q.block
/-- The first i blocks of a row of values, four each. -/
def KV (t : Nat) (own : Option Nat) (w : World) (xs : List Value) (i : Nat) (L : List Bk) : Prop :=
  ∀ j, j < i → ∃ A n c B m d, xs[j * 4]? = some (.int .i64 (L[j]?.getD bk0).1) ∧ xs[j * 4 + 1]? = some (.int .i64 (L[j]?.getD bk0).2.1) ∧ xs[j * 4 + 2]? = some (.slice A n c) ∧ xs[j * 4 + 3]? = some (.slice B m d) ∧
    BR w A n c (L[j]?.getD bk0).2.2.1 ∧ IR w B m d (L[j]?.getD bk0).2.2.2 ∧ (n ≤ 9223372036854775807 ∧ m ≤ 9223372036854775807 ∧ I64 (L[j]?.getD bk0).2.1 ∧ ∀ z ∈ (L[j]?.getD bk0).2.2.2, I64 z) ∧ Apart t own A n ∧ Apart t own B m
theorem br_keep {w w' : World} {A : Option Addr} {n c : Nat} {l : List Nat} (h : BR w A n c l) (hk : ∀ q, 0 < n → A = some q → w'.heap[q.block]? = w.heap[q.block]?) (hs : w.heap.size ≤ w'.heap.size) : BR w' A n c l :=
  ⟨h.1, h.2.1, h.2.2.1, fun hp => by
    obtain ⟨b, off, e, hlt, hc⟩ := h.2.2.2 hp
    have hb : w'.heap[b]? = w.heap[b]? := hk _ hp e
    exact ⟨b, off, e, Nat.lt_of_lt_of_le hlt hs, fun j hj => (World.cell?_of_block (w := w) (a := ⟨b, off + j, none⟩) hb).trans (hc j hj)⟩⟩
theorem ir_keep {w w' : World} {A : Option Addr} {n c : Nat} {l : List Int} (h : IR w A n c l) (hk : ∀ q, 0 < n → A = some q → w'.heap[q.block]? = w.heap[q.block]?) (hs : w.heap.size ≤ w'.heap.size) : IR w' A n c l :=
  ⟨h.1, h.2.1, fun hp => by
    obtain ⟨b, off, e, hlt, hc⟩ := h.2.2 hp
    have hb : w'.heap[b]? = w.heap[b]? := hk _ hp e
    exact ⟨b, off, e, Nat.lt_of_lt_of_le hlt hs, fun j hj => (World.cell?_of_block (w := w) (a := ⟨b, off + j, none⟩) hb).trans (hc j hj)⟩⟩
theorem KV.on {t : Nat} {own : Option Nat} {w w' : World} {xs : List Value} {i : Nat} {L : List Bk} (h : KV t own w xs i L) (hb : Below w.heap.size w w') : KV t own w' xs i L := fun j hj => by
  obtain ⟨A, n, c, B, m, d, h0, h1, h2, h3, hC, hW, hr, ha, hb'⟩ := h j hj
  exact ⟨A, n, c, B, m, d, h0, h1, h2, h3, hC.on hb, hW.on hb, hr, ha, hb'⟩
/-- A cell is written below the rows. -/
theorem KV.set {t g o : Nat} {own : Option Nat} {w : World} {xs : List Value} {i : Nat} {L : List Bk} {u : Value} (h : KV t own w xs i L) (hg : g < t) : KV t own (w.setCell ⟨g, o, none⟩ u) xs i L := fun j hj => by
  obtain ⟨A, n, c, B, m, d, h0, h1, h2, h3, hC, hW, hr, ha, hb'⟩ := h j hj
  have hs : w.heap.size ≤ (w.setCell ⟨g, o, none⟩ u).heap.size := by simp
  exact ⟨A, n, c, B, m, d, h0, h1, h2, h3, br_keep hC (fun q hp e => heap_setCell_other w ⟨g, o, none⟩ q.block u (by have := (ha hp q e).1; show q.block ≠ g; omega)) hs, ir_keep hW (fun q hp e => heap_setCell_other w ⟨g, o, none⟩ q.block u (by have := (hb' hp q e).1; show q.block ≠ g; omega)) hs, hr, ha, hb'⟩
/-- One block more: the row of blocks has grown. -/
theorem KV.push {t gq : Nat} {own : Option Nat} {w w' : World} {xs : List Value} {i : Nat} {L : List Bk} {x : Bk} {A B : Option Addr} {n c m d : Nat} (h : KV t own w xs i L) (hx : xs.length = i * 4) (hL : L.length = i) (hgrow : w.grownBy w' own) (hat : own = some gq ∨ gq = w.heap.size)
    (hC : BR w A n c x.2.2.1) (hW : IR w B m d x.2.2.2) (hr : n ≤ 9223372036854775807 ∧ m ≤ 9223372036854775807 ∧ I64 x.2.1 ∧ ∀ z ∈ x.2.2.2, I64 z) (ha : Apart t own A n) (hb : Apart t own B m) :
    KV t (some gq) w' (xs ++ [.int .i64 x.1, .int .i64 x.2.1, .slice A n c, .slice B m d]) (i + 1) (L ++ [x]) := by
  have keepA : ∀ {A : Option Addr} {n : Nat}, (∀ q, 0 < n → A = some q → q.block < w.heap.size) → Apart t own A n → (∀ q, 0 < n → A = some q → w'.heap[q.block]? = w.heap[q.block]?) ∧ Apart t (some gq) A n := fun hlt ha => by
    refine ⟨fun q hp e => hgrow.block q.block (hlt q hp e) (fun e2 => (ha hp q e).2 e2.symm), fun hp q e => ⟨(ha hp q e).1, fun e2 => ?_⟩⟩
    injection e2 with e2
    rcases hat with e3 | e3
    · exact (ha hp q e).2 (by rw [e3, e2])
    · have := hlt q hp e; omega
  have ltB : ∀ {A : Option Addr} {n c : Nat} {l : List Nat}, BR w A n c l → ∀ q, 0 < n → A = some q → q.block < w.heap.size := fun h q hp e => by
    obtain ⟨b, off, e2, hlt, _⟩ := h.2.2.2 hp
    rw [e] at e2; injection e2 with e2; rw [e2]; exact hlt
  have ltI : ∀ {A : Option Addr} {n c : Nat} {l : List Int}, IR w A n c l → ∀ q, 0 < n → A = some q → q.block < w.heap.size := fun h q hp e => by
    obtain ⟨b, off, e2, hlt, _⟩ := h.2.2 hp
    rw [e] at e2; injection e2 with e2; rw [e2]; exact hlt
  intro j hj
  rcases Nat.lt_or_ge j i with hlt | hge
  · obtain ⟨A, n, c, B, m, d, h0, h1, h2, h3, hC, hW, hr, ha, hb'⟩ := h j hlt
    obtain ⟨k1, k2⟩ := keepA (ltB hC) ha
    obtain ⟨k3, k4⟩ := keepA (ltI hW) hb'
    have hLj : (L ++ [x])[j]?.getD bk0 = L[j]?.getD bk0 := by rw [List.getElem?_append_left (by omega)]
    rw [hLj]
    refine ⟨A, n, c, B, m, d, ?_, ?_, ?_, ?_, br_keep hC k1 hgrow.size, ir_keep hW k3 hgrow.size, hr, k2, k4⟩
    · rw [List.getElem?_append_left (by omega)]; exact h0
    · rw [List.getElem?_append_left (by omega)]; exact h1
    · rw [List.getElem?_append_left (by omega)]; exact h2
    · rw [List.getElem?_append_left (by omega)]; exact h3
  · obtain rfl : j = i := by omega
    obtain ⟨k1, k2⟩ := keepA (ltB hC) ha
    obtain ⟨k3, k4⟩ := keepA (ltI hW) hb
    have hLj : (L ++ [x])[j]?.getD bk0 = x := by rw [List.getElem?_append_right (by omega), hL, Nat.sub_self]; rfl
    rw [hLj]
    refine ⟨A, n, c, B, m, d, ?_, ?_, ?_, ?_, br_keep hC k1 hgrow.size, ir_keep hW k3 hgrow.size, hr, k2, k4⟩
    · rw [List.getElem?_append_right (by omega), hx, Nat.sub_self]; rfl
    · rw [List.getElem?_append_right (by omega), hx, Nat.add_sub_cancel_left]; rfl
    · rw [List.getElem?_append_right (by omega), hx, Nat.add_sub_cancel_left]; rfl
    · rw [List.getElem?_append_right (by omega), hx, Nat.add_sub_cancel_left]; rfl
/-- What such a row reads as. -/
theorem KV.kr {t : Nat} {own : Option Nat} {w : World} {xs : List Value} {i c : Nat} {p : Option Addr} {L : List Bk} {e : TypeId} (h : KV t own w xs i L) (hL : L.length = i) (hO : w.ownsRow t e 4 (.slice p i c) i xs) : KR w p i c L := by
  refine ⟨hL.symm, ?_, fun hp => ?_⟩
  · rcases hO.2 with ⟨e1, h0⟩ | ⟨g, cap, cur, e1, _, _, hnc, _⟩
    · omega
    · injection e1 with _ _ e2; omega
  · have hO2 := hO
    rcases hO.2 with ⟨e1, h0⟩ | ⟨g, cap, cur, e1, _, _, hnc, _⟩
    · omega
    · injection e1 with e2 _ e3
      subst e2; subst e3
      have hlt := (hO2.lt g rfl).2
      refine ⟨g, 0, rfl, hlt, fun j hj => ?_⟩
      obtain ⟨A, n, c, B, m, d, h0, h1, h2, h3, hC, hW, hr, _, _⟩ := h j hj
      have hx := hO2.1
      have cl : ∀ r v, j * 4 + r < i * 4 → xs[j * 4 + r]? = some v → w.cell? ⟨g, 0 + j * 4 + r, none⟩ = some v := fun r v hr2 hv => by
        rw [show 0 + j * 4 + r = j * 4 + r by omega]
        have := hO2.cellAt (j * 4 + r) (by omega)
        rw [this, hv]
      exact ⟨A, n, c, B, m, d, cl 0 _ (by omega) h0, cl 1 _ (by omega) h1, cl 2 _ (by omega) h2, cl 3 _ (by omega) h3, hC, hW, hr.1, hr.2.1, hr.2.2.1, hr.2.2.2⟩
/-- A Store, and a code, are answered. -/
def GotSto (w : World) (kk ks km ko lg : Int) (L : List Bk) (e : Ending) (w' : World) : Prop :=
  ∃ A n c, e = .returned (.tuple #[.agg #[.int .i64 kk, .int .i64 ks, .int .i64 km, .int .i64 ko, .int .i64 lg, .slice A n c], .int .i64 0]) ∧ KR w' A n c L ∧ Below w.heap.size w w'
/-- All six cells of a Store's box are written. -/
@[reducible] def putT (W : World) (g : Nat) (a b c d e f : Value) : World := (((((W.setCell ⟨g, 0, none⟩ a).setCell ⟨g, 1, none⟩ b).setCell ⟨g, 2, none⟩ c).setCell ⟨g, 3, none⟩ d).setCell ⟨g, 4, none⟩ e).setCell ⟨g, 5, none⟩ f
theorem below_putT {C g : Nat} {V W : World} (h : Below C V W) (hg : C ≤ g) (a b c d e f : Value) : Below C V (putT W g a b c d e f) := (((((h.setCell (p := ⟨g, 0, none⟩) hg a).setCell (p := ⟨g, 1, none⟩) hg b).setCell (p := ⟨g, 2, none⟩) hg c).setCell (p := ⟨g, 3, none⟩) hg d).setCell (p := ⟨g, 4, none⟩) hg e).setCell (p := ⟨g, 5, none⟩) hg f
theorem own_lt {t g n c size : Nat} {w : World} {e : TypeId} {p : Option Addr} {xs : List Value} {o : Nat} {u : Value} (hO : w.ownsRow t e size (.slice p n c) n xs) (hg : g < t) : (w.setCell ⟨g, o, none⟩ u).ownsRow t e size (.slice p n c) n xs := by
  obtain ⟨h1, h2⟩ := hO
  refine ⟨h1, ?_⟩
  rcases h2 with h2 | ⟨g', cap', cur, hv, hb, hh, r⟩
  · exact Or.inl h2
  · refine Or.inr ⟨g', cap', cur, hv, hb, ?_, r⟩
    rw [heap_setCell_other w ⟨g, o, none⟩ g' u (by show g' ≠ g; omega)]; exact hh
/-- .. in the answer's box. -/
theorem kr_putT {t g n c : Nat} {own : Option Nat} {W : World} {p : Option Addr} {e : TypeId} {xs : List Value} {L : List Bk} (h : KV t own W xs n L) (hL : L.length = n) (hO : W.ownsRow t e 4 (.slice p n c) n xs) (hg : g < t) (u1 u2 u3 u4 u5 u6 : Value) : KR (putT W g u1 u2 u3 u4 u5 u6) p n c L :=
  KV.kr ((((((h.set hg).set hg).set hg).set hg).set hg).set hg) hL (own_lt (own_lt (own_lt (own_lt (own_lt (own_lt hO hg) hg) hg) hg) hg) hg)
/-- A window of a row. -/
theorem ir_win {w : World} {b off n c lo k : Nat} {L : List Int} (h : IR w (some ⟨b, off, none⟩) n c L) (hk : lo + k ≤ n) (hp : 0 < n) : IR w (some ⟨b, off + lo, none⟩) k (c - lo) ((L.drop lo).take k) := by
  have h1 := h.1
  have h2 := h.2.1
  refine ⟨by rw [List.length_take, List.length_drop]; omega, by omega, fun hk0 => ?_⟩
  obtain ⟨b', o', e, hlt, hc⟩ := h.2.2 hp
  injection e with e
  injection e with e1 e2
  subst e1 e2
  refine ⟨b, off + lo, rfl, hlt, fun j hj => ?_⟩
  rw [List.getElem?_take, if_pos hj, List.getElem?_drop, Nat.add_assoc]
  exact hc (lo + j) (by omega)
end Go.Proofs.YtpidpebgeblenaaGreat

/-
  Appends of rows that may be empty, in regions that draw; rows of blocks put together.
-/
namespace Go.Proofs.YtpidpebgeblenaaGreat
open Go.RowKit
set_option linter.unusedVariables false
set_option linter.unusedSimpArgs false

end Go.Proofs.YtpidpebgeblenaaGreat

/-
  Rows of blocks that keep off a block of cells.
-/
namespace Go.Proofs.YtpidpebgeblenaaGreat
open Go.RowKit
set_option linter.unusedVariables false
set_option linter.unusedSimpArgs false

theorem br_lt {w : World} {A : Option Addr} {n c : Nat} {l : List Nat} (h : BR w A n c l) : ∀ q, 0 < n → A = some q → q.block < w.heap.size := fun q hp e => by
  obtain ⟨b, off, e2, hlt, _⟩ := h.2.2.2 hp
  rw [e] at e2; injection e2 with e2; rw [e2]; exact hlt
theorem ir_lt {w : World} {A : Option Addr} {n c : Nat} {l : List Int} (h : IR w A n c l) : ∀ q, 0 < n → A = some q → q.block < w.heap.size := fun q hp e => by
  obtain ⟨b, off, e2, hlt, _⟩ := h.2.2 hp
  rw [e] at e2; injection e2 with e2; rw [e2]; exact hlt
/-- A cell of a block they keep off is written. -/
theorem KV.miss {t g o : Nat} {own : Option Nat} {w : World} {xs : List Value} {i : Nat} {L : List Bk} {u : Value} (h : KV t own w xs i L) (hg : g < t ∨ own = some g) : KV t own (w.setCell ⟨g, o, none⟩ u) xs i L := fun j hj => by
  obtain ⟨A, n, c, B, m, d, h0, h1, h2, h3, hC, hW, hr, ha, hb'⟩ := h j hj
  have hs : w.heap.size ≤ (w.setCell ⟨g, o, none⟩ u).heap.size := by simp
  have ne : ∀ b, t ≤ b → own ≠ some b → b ≠ g := fun b h1 h2 e => by
    rcases hg with hg | hg
    · omega
    · exact h2 (by rw [hg, e])
  exact ⟨A, n, c, B, m, d, h0, h1, h2, h3, br_keep hC (fun q hp e => heap_setCell_other w ⟨g, o, none⟩ q.block u (ne _ (ha hp q e).1 (ha hp q e).2)) hs, ir_keep hW (fun q hp e => heap_setCell_other w ⟨g, o, none⟩ q.block u (ne _ (hb' hp q e).1 (hb' hp q e).2)) hs, hr, ha, hb'⟩
/-- A block that is not there yet is kept off. -/
theorem KV.far {t g : Nat} {w : World} {xs : List Value} {i : Nat} {L : List Bk} (h : KV t none w xs i L) (hg : w.heap.size ≤ g) : KV t (some g) w xs i L := fun j hj => by
  obtain ⟨A, n, c, B, m, d, h0, h1, h2, h3, hC, hW, hr, ha, hb'⟩ := h j hj
  exact ⟨A, n, c, B, m, d, h0, h1, h2, h3, hC, hW, hr, fun hp q e => ⟨(ha hp q e).1, fun e2 => by injection e2 with e2; have := br_lt hC q hp e; omega⟩, fun hp q e => ⟨(hb' hp q e).1, fun e2 => by injection e2 with e2; have := ir_lt hW q hp e; omega⟩⟩
/-- New rows keep off what was there. -/
theorem KV.near {t g : Nat} {own : Option Nat} {w : World} {xs : List Value} {i : Nat} {L : List Bk} (h : KV t own w xs i L) (hg : g < t) : KV 0 (some g) w xs i L := fun j hj => by
  obtain ⟨A, n, c, B, m, d, h0, h1, h2, h3, hC, hW, hr, ha, hb'⟩ := h j hj
  exact ⟨A, n, c, B, m, d, h0, h1, h2, h3, hC, hW, hr, fun hp q e => ⟨Nat.zero_le _, fun e2 => by injection e2 with e2; have := (ha hp q e).1; omega⟩, fun hp q e => ⟨Nat.zero_le _, fun e2 => by injection e2 with e2; have := (hb' hp q e).1; omega⟩⟩
/-- The slice value '.slice A n c' holds the blocks L, none of whose cells lies below t, or in the block own. -/
def KF (t : Nat) (own : Option Nat) (w : World) (A : Option Addr) (n c : Nat) (L : List Bk) : Prop :=
  n = L.length ∧ n ≤ c ∧ ∃ xs : List Value, xs.length = n * 4 ∧ (∀ u ∈ xs, u.oneCell' = true) ∧ KV t own w xs n L ∧ (0 < n → ∃ b off, A = some ⟨b, off, none⟩ ∧ b < w.heap.size ∧ (t ≤ b ∧ own ≠ some b) ∧ ∀ j u, xs[j]? = some u → w.cell? ⟨b, off + j, none⟩ = some u)
section
variable {t : Nat} {own : Option Nat} {w : World} {A : Option Addr} {n c : Nat} {L : List Bk}
theorem KF.kr (h : KF t own w A n c L) : KR w A n c L := by
  obtain ⟨h1, h2, xs, hl, ho, hV, hc⟩ := h
  refine ⟨h1, h2, fun hp => ?_⟩
  obtain ⟨b, off, e, hlt, _, hx⟩ := hc hp
  refine ⟨b, off, e, hlt, fun j hj => ?_⟩
  obtain ⟨A', n', c', B', m', d', x0, x1, x2, x3, hC, hW, hr, _, _⟩ := hV j hj
  exact ⟨A', n', c', B', m', d', hx _ _ x0, hx _ _ x1, hx _ _ x2, hx _ _ x3, hC, hW, hr.1, hr.2.1, hr.2.2.1, hr.2.2.2⟩
theorem KF.on {w' : World} (h : KF t own w A n c L) (hb : Below w.heap.size w w') : KF t own w' A n c L := by
  obtain ⟨h1, h2, xs, hl, ho, hV, hc⟩ := h
  refine ⟨h1, h2, xs, hl, ho, hV.on hb, fun hp => ?_⟩
  obtain ⟨b, off, e, hlt, hne, hx⟩ := hc hp
  exact ⟨b, off, e, Nat.lt_of_lt_of_le hlt hb.size, hne, fun j u hu => (hb.cell (p := ⟨b, off + j, none⟩) hlt).trans (hx j u hu)⟩
theorem KF.alloc (h : KF t own w A n c L) (o : Obj) : KF t own (w.alloc o) A n c L := h.on (one_up _ _)
theorem KF.set {g o : Nat} {u : Value} (h : KF t own w A n c L) (hg : g < t ∨ own = some g) : KF t own (w.setCell ⟨g, o, none⟩ u) A n c L := by
  obtain ⟨h1, h2, xs, hl, ho, hV, hc⟩ := h
  refine ⟨h1, h2, xs, hl, ho, hV.miss hg, fun hp => ?_⟩
  obtain ⟨b, off, e, hlt, hne, hx⟩ := hc hp
  have hb : b ≠ g := fun e2 => by
    rcases hg with hg | hg
    · omega
    · exact hne.2 (by rw [hg, e2])
  exact ⟨b, off, e, by simp; exact hlt, hne, fun j v hv => (World.cell?_of_block (w := w) (a := ⟨b, off + j, none⟩) (heap_setCell_other w ⟨g, o, none⟩ b u hb)).trans (hx j v hv)⟩
theorem KF.putT {g : Nat} (h : KF t own w A n c L) (hg : g < t ∨ own = some g) (u1 u2 u3 u4 u5 u6 : Value) : KF t own (putT w g u1 u2 u3 u4 u5 u6) A n c L := (((((h.set hg).set hg).set hg).set hg).set hg).set hg
theorem KF.low {s : Nat} (h : KF t none w A n c L) (hs : s ≤ t) : KF s none w A n c L := by
  obtain ⟨h1, h2, xs, hl, ho, hV, hc⟩ := h
  refine ⟨h1, h2, xs, hl, ho, fun j hj => ?_, fun hp => ?_⟩
  · obtain ⟨A, n, c, B, m, d, h0, h1, h2, h3, hC, hW, hr, ha, hb'⟩ := hV j hj
    exact ⟨A, n, c, B, m, d, h0, h1, h2, h3, hC, hW, hr, fun hp q e => ⟨Nat.le_trans hs (ha hp q e).1, (ha hp q e).2⟩, fun hp q e => ⟨Nat.le_trans hs (hb' hp q e).1, (hb' hp q e).2⟩⟩
  · obtain ⟨b, off, e, hlt, hne, hx⟩ := hc hp
    exact ⟨b, off, e, hlt, ⟨Nat.le_trans hs hne.1, hne.2⟩, hx⟩
end
/-- What a row of the call's own reads as. -/
theorem kv_own {t s : Nat} {own : Option Nat} {w : World} {xs : List Value} {i c : Nat} {p : Option Addr} {L : List Bk} {e : TypeId} (h : KV s own w xs i L) (hL : L.length = i) (hO : w.ownsRow t e 4 (.slice p i c) i xs) : KR w p i c L := by
  refine ⟨hL.symm, ?_, fun hp => ?_⟩
  · rcases hO.2 with ⟨e1, h0⟩ | ⟨g, cap, cur, e1, _, _, hnc, _⟩
    · omega
    · injection e1 with _ _ e2; omega
  · have hO2 := hO
    rcases hO.2 with ⟨e1, h0⟩ | ⟨g, cap, cur, e1, _, _, hnc, _⟩
    · omega
    · injection e1 with e2 _ e3
      subst e2; subst e3
      have hlt := (hO2.lt g rfl).2
      refine ⟨g, 0, rfl, hlt, fun j hj => ?_⟩
      obtain ⟨A, n, c, B, m, d, h0, h1, h2, h3, hC, hW, hr, _, _⟩ := h j hj
      have cl : ∀ r v, j * 4 + r < i * 4 → xs[j * 4 + r]? = some v → w.cell? ⟨g, 0 + j * 4 + r, none⟩ = some v := fun r v hr2 hv => by
        rw [show 0 + j * 4 + r = j * 4 + r by omega]
        have := hO2.cellAt (j * 4 + r) (by omega)
        rw [this, hv]
      exact ⟨A, n, c, B, m, d, cl 0 _ (by omega) h0, cl 1 _ (by omega) h1, cl 2 _ (by omega) h2, cl 3 _ (by omega) h3, hC, hW, hr.1, hr.2.1, hr.2.2.1, hr.2.2.2⟩
/-- A Store, whose rows are new, and a code, are answered. -/
def GotStn (w : World) (kk ks km ko lg : Int) (L : List Bk) (e : Ending) (w' : World) : Prop :=
  ∃ A n c, e = .returned (.tuple #[.agg #[.int .i64 kk, .int .i64 ks, .int .i64 km, .int .i64 ko, .int .i64 lg, .slice A n c], .int .i64 0]) ∧ KF w.heap.size none w' A n c L ∧ Below w.heap.size w w'
theorem GotStn.sto {w : World} {kk ks km ko lg : Int} {L : List Bk} {e : Ending} {w' : World} (h : GotStn w kk ks km ko lg L e w') : GotSto w kk ks km ko lg L e w' := by
  obtain ⟨A, n, c, h1, h2, h3⟩ := h
  exact ⟨A, n, c, h1, h2.kr, h3⟩
/-- A row of blocks of the call's own, whose rows are new, is new. -/
theorem kf_new {t c i : Nat} {own : Option Nat} {w : World} {xs : List Value} {p : Option Addr} {L : List Bk} {e : TypeId} (h : KV t own w xs i L) (hL : L.length = i) (hO : w.ownsRow t e 4 (.slice p i c) i xs) (h1 : ∀ u ∈ xs, u.oneCell' = true) : KF t none w p i c L := by
  have hk := kv_own h hL hO
  refine ⟨hL.symm, hk.2.1, xs, hO.1, h1, fun j hj => ?_, fun hp => ?_⟩
  · obtain ⟨A, n, c, B, m, d, h0, h1, h2, h3, hC, hW, hr, ha, hb'⟩ := h j hj
    exact ⟨A, n, c, B, m, d, h0, h1, h2, h3, hC, hW, hr, fun hp q e => ⟨(ha hp q e).1, fun e2 => by cases e2⟩, fun hp q e => ⟨(hb' hp q e).1, fun e2 => by cases e2⟩⟩
  · rcases hO.2 with ⟨e1, h0⟩ | ⟨g', cap, cur, e1, _, _, hnc, _⟩
    · omega
    · injection e1 with e2 _ e3
      subst e2; subst e3
      have hlt := hO.lt g' rfl
      refine ⟨g', 0, rfl, hlt.2, ⟨hlt.1, fun e2 => by cases e2⟩, fun j u hu => ?_⟩
      have hj : j < xs.length := by
        rcases Nat.lt_or_ge j xs.length with h' | h'
        · exact h'
        · rw [List.getElem?_eq_none h'] at hu; cases hu
      rw [Nat.zero_add]
      exact (hO.cellAt j (by have := hO.1; omega)).trans hu
/-- A zero Store's box. -/
def BZ (w : World) (g : Nat) : Prop := w.heap[g]? = some (.cells #[.int .i64 0, .int .i64 0, .int .i64 0, .int .i64 0, .int .i64 0, .slice none 0 0] 26)
theorem BZ.lt {w : World} {g : Nat} (h : BZ w g) : g < w.heap.size := by
  rcases Nat.lt_or_ge g w.heap.size with h1 | h1
  · exact h1
  · unfold BZ at h; rw [Array.getElem?_eq_none h1] at h; cases h
theorem BZ.new (w : World) : BZ (w.alloc (.cells #[.int .i64 0, .int .i64 0, .int .i64 0, .int .i64 0, .int .i64 0, .slice none 0 0] 26)) w.heap.size := by unfold BZ World.alloc; exact Array.getElem?_push_size
theorem BZ.on {w w' : World} {g : Nat} (h : BZ w g) (hb : Below w.heap.size w w') : BZ w' g := (hb.block g h.lt).trans h
theorem BZ.up {w : World} {g : Nat} (h : BZ w g) (o : Obj) : BZ (w.alloc o) g := h.on (one_up _ _)
theorem BZ.grown {w w' : World} {g g0 : Nat} (h : BZ w g) (hg : w.grownBy w' (some g0)) (hne : g ≠ g0) : BZ w' g := (hg.block g h.lt (fun e => hne (by first | exact Option.some.inj e | exact (Option.some.inj e).symm))).trans h
theorem BZ.drew {w : World} {g : Nat} (h : BZ w g) : BZ w.drew g := h
theorem BZ.cells {w : World} {g : Nat} (h : BZ w g) : (w.cell? ⟨g, 0, none⟩ = some (.int .i64 0) ∧ w.cell? ⟨g, 1, none⟩ = some (.int .i64 0) ∧ w.cell? ⟨g, 2, none⟩ = some (.int .i64 0) ∧ w.cell? ⟨g, 3, none⟩ = some (.int .i64 0) ∧ w.cell? ⟨g, 4, none⟩ = some (.int .i64 0) ∧ w.cell? ⟨g, 5, none⟩ = some (.slice none 0 0)) ∧
    w.frozen? ⟨g, 0, none⟩ = false ∧ w.frozen? ⟨g, 1, none⟩ = false ∧ w.frozen? ⟨g, 2, none⟩ = false ∧ w.frozen? ⟨g, 3, none⟩ = false ∧ w.frozen? ⟨g, 4, none⟩ = false ∧ w.frozen? ⟨g, 5, none⟩ = false := by
  unfold BZ at h
  refine ⟨⟨?_, ?_, ?_, ?_, ?_, ?_⟩, ?_, ?_, ?_, ?_, ?_, ?_⟩ <;> simp [World.cell?, World.frozen?, h]
/-- Six cells. -/
def BoxT (U : World) (g : Nat) (a b c d e f : Value) : Prop := U.cell? ⟨g, 0, none⟩ = some a ∧ U.cell? ⟨g, 1, none⟩ = some b ∧ U.cell? ⟨g, 2, none⟩ = some c ∧ U.cell? ⟨g, 3, none⟩ = some d ∧ U.cell? ⟨g, 4, none⟩ = some e ∧ U.cell? ⟨g, 5, none⟩ = some f
/-- A new box of a Store. -/
def LoneT (V U : World) (g : Nat) (a b c d e f : Value) : Prop := BoxT U g a b c d e f ∧ Below V.heap.size V U ∧ V.heap.size ≤ g
end Go.Proofs.YtpidpebgeblenaaGreat
