/-
  Several texts in one: Z4, Z5, Z6, Z7, Z8, Z9.
-/
import Derived.Test.YtdaohhbdhmmihaaGreatDoorA3
import Derived.Deep.RegionHeld3
import Derived.Deep.LoopGhost
import Derived.Test.YtdaohhbdhmmihaaGreatDoorA1

/-
  Integers in memory, and the contracts of the fourth reference: made, Right, Same, Neg, Cmp.
-/
namespace Go.Proofs.YtdaohhbdhmmihaaGreatDoor
open Go.RowKit

/-- The value '.agg #[.bool b, .slice A n c]' stands for the integer z. -/
def Zn (w : World) (b : Bool) (A : Option Addr) (n c : Nat) (z : Int) : Prop := Num w A n c z.natAbs ∧ b = decide (z < 0)
theorem Zn.on {w w' : World} {b : Bool} {A : Option Addr} {n c : Nat} {z : Int} (h : Zn w b A n c z) (hb : Below w.heap.size w w') : Zn w' b A n c z := ⟨h.1.on hb, h.2⟩
/-- A number with a side. -/
def sgn (b : Bool) (x : Nat) : Int := if b then -(x : Int) else (x : Int)
theorem sgn_abs (b : Bool) (x : Nat) : (sgn b x).natAbs = x := by unfold sgn; split <;> omega
theorem Zn.eq {w : World} {b : Bool} {A : Option Addr} {n c : Nat} {z : Int} (h : Zn w b A n c z) : z = sgn b z.natAbs := by
  rw [h.2]; unfold sgn
  by_cases hz : z < 0
  · simp [hz]; omega
  · simp [hz]; omega
/-- A call has answered an integer. -/
def GotZ (w : World) (z : Int) (e : Ending) (w' : World) : Prop := ∃ b A n c, e = .returned (.agg #[.bool b, .slice A n c]) ∧ Zn w' b A n c z ∧ Below w.heap.size w w'
theorem bcell {W w1 : World} (hb : Below W.heap.size W w1) : (∀ b o, b < W.heap.size → w1.cell? ⟨b, o, none⟩ = W.cell? ⟨b, o, none⟩) ∧ (∀ b o, b < W.heap.size → w1.frozen? ⟨b, o, none⟩ = W.frozen? ⟨b, o, none⟩) :=
  ⟨fun b o h => hb.cell (p := ⟨b, o, none⟩) h, fun b o h => hb.frozen (p := ⟨b, o, none⟩) h⟩

set_option maxHeartbeats 1000000 in
theorem made_N {w : World} {A : Option Addr} {n c x : Nat} (b : Bool) (ha : Num w A n c x) (hn : n ≤ 1000000) : Calls Tryz.prog 26 #[.bool b, .slice A n c] w (GotZ w (sgn b x)) := by
  have hl := ha.len
  by_cases h0 : n = 0
  · subst h0
    have hx : x = 0 := by
      have h2 := val_limbs x
      rw [List.eq_nil_of_length_eq_zero hl.symm] at h2
      exact h2.symm
    subst hx
    have hz : Zn w false A 0 c (sgn b 0) := by
      refine ⟨by rw [sgn_abs]; exact ha, ?_⟩
      unfold sgn; split <;> rfl
    clear hl
    cases b
    all_goals
      go_enter Tryz.func26, Tryz.ntmps26
      go_wp2_with fail
      refine bodyPost_ret (v := .agg #[.bool false, .slice A 0 c]) (by simp [results, Tryz.results26, go_sem]) rfl ⟨_, _, _, _, rfl, hz.on ?_, ?_⟩
      all_goals exact (Below.refl _ w).alloc (Nat.le_refl _) _
  · have hx : x ≠ 0 := fun h => by rw [h, limbs_zero] at hl; simp at hl; omega
    have hn0 : (0 : Int) < (n : Int) := by omega
    have hz : Zn w b A n c (sgn b x) := by
      refine ⟨by rw [sgn_abs]; exact ha, ?_⟩
      unfold sgn
      cases b
      · simp
      · simp; omega
    clear hl
    cases b
    all_goals
      go_enter Tryz.func26, Tryz.ntmps26
      go_wp2_with fail
    · refine bodyPost_ret (v := .agg #[.bool false, .slice A n c]) (by simp [results, Tryz.results26, go_sem]) rfl ⟨_, _, _, _, rfl, hz.on ?_, ?_⟩
      all_goals exact (Below.refl _ w).alloc (Nat.le_refl _) _
    · refine bodyPost_ret (v := .agg #[.bool true, .slice A n c]) (by simp [results, Tryz.results26, go_sem]; omega) rfl ⟨_, _, _, _, rfl, hz.on ?_, ?_⟩
      all_goals exact (Below.refl _ w).alloc (Nat.le_refl _) _

/-- The boxes of two structs that came in. -/
theorem below_two (w : World) (o o' : Obj) : Below w.heap.size w ((w.alloc o).alloc o') := ((Below.refl _ w).alloc (Nat.le_refl _) _).alloc (by simp) _
theorem below_one (w : World) (o : Obj) : Below w.heap.size w (w.alloc o) := (Below.refl _ w).alloc (Nat.le_refl _) _

/-- An integer's form is right. -/
def okZ (b : Bool) (n : Nat) (l : List Nat) : Bool := canon l && (decide (0 < n) || !b)

set_option maxHeartbeats 1000000 in
theorem rzright_any {w : World} {b : Bool} {A : Option Addr} {n c : Nat} {l : List Nat} (r : Bool) (h : Lim w.heap.size w A n c l) (hn : n ≤ 9223372036854775807) (hr : okZ b n l = r) :
    Calls Tryz.prog 11 #[.agg #[.bool b, .slice A n c]] w (GotV w (.bool r)) := by
  have hB := below_one w (.cells #[.bool b, .slice A n c] 25)
  have h' := h.on hB
  cases hc : canon l with
  | false =>
    have hr2 : r = false := by rw [← hr]; simp [okZ, hc]
    subst hr2
    go_enter Tryz.func11, Tryz.ntmps11
    go_wp2_with (go_at_call 31; refine (rright_any _ _ _ _ _ false _ h' hn hc).mono ?_; rintro e w' ⟨rfl, rfl⟩)
    go_ret
    exact ⟨rfl, hB⟩
  | true =>
    by_cases h0 : 0 < n
    · have hr2 : r = true := by rw [← hr]; simp [okZ, hc, h0]
      subst hr2
      have hi : (0 : Int) < (n : Int) := by omega
      go_enter Tryz.func11, Tryz.ntmps11
      go_wp2_with (go_at_call 31; refine (rright_any _ _ _ _ _ true _ h' hn hc).mono ?_; rintro e w' ⟨rfl, rfl⟩)
      go_ret
      exact ⟨rfl, hB⟩
    · have hr2 : r = !b := by rw [← hr]; simp [okZ, hc, h0]
      subst hr2
      have hi : ¬ (0 : Int) < (n : Int) := by omega
      go_enter Tryz.func11, Tryz.ntmps11
      go_wp2_with (go_at_call 31; refine (rright_any _ _ _ _ _ true _ h' hn hc).mono ?_; rintro e w' ⟨rfl, rfl⟩)
      go_ret
      exact ⟨rfl, hB⟩

theorem zn_inj {w w' : World} {b b' : Bool} {A B : Option Addr} {n c m d : Nat} {z z' : Int} (ha : Zn w b A n c z) (hb : Zn w' b' B m d z') : (z = z' ↔ b = b' ∧ z.natAbs = z'.natAbs) := by
  constructor
  · intro h; subst h; exact ⟨ha.2.trans hb.2.symm, rfl⟩
  · intro ⟨h1, h2⟩
    rw [ha.eq, hb.eq, h1, h2]

set_option maxHeartbeats 1000000 in
theorem zsame_N {w : World} {b b' : Bool} {A B : Option Addr} {n c m d : Nat} {z z' : Int} (r : Bool) (ha : Zn w b A n c z) (hb : Zn w b' B m d z') (hx : (limbs z.natAbs).length ≤ 1000000) (hy : (limbs z'.natAbs).length ≤ 1000000) (hr : decide (z = z') = r) :
    Calls Tryz.prog 10 #[.agg #[.bool b, .slice A n c], .agg #[.bool b', .slice B m d]] w (GotV w (.bool r)) := by
  have hB := below_two w (.cells #[.bool b, .slice A n c] 25) (.cells #[.bool b', .slice B m d] 25)
  have ha' := ha.1.on hB
  have hb' := hb.1.on hB
  have hi := zn_inj ha hb
  by_cases h1 : b = b'
  · have h1b : (b == b') = true := by simp [h1]
    by_cases h2 : z.natAbs = z'.natAbs
    · have hr2 : r = true := by rw [← hr]; simp [hi, h1, h2]
      subst hr2
      have HE := Lib.hid h2
      clear hr hi h1 h2
      go_enter Tryz.func10, Tryz.ntmps10
      go_wp2_with fail
      refine (same_N ha' hb' (by omega) (by omega) HE.out).mono ?_
      rintro e w1 ⟨rfl, b1⟩
      go_wp2_with fail
      go_ret
      exact ⟨rfl, hB.trans (b1.mono hB.size)⟩
    · have hr2 : r = false := by rw [← hr]; simp [hi, h2]
      subst hr2
      have HE := Lib.hid h2
      clear hr hi h1 h2
      go_enter Tryz.func10, Tryz.ntmps10
      go_wp2_with fail
      refine (same_not_N ha' hb' (by omega) (by omega) HE.out).mono ?_
      rintro e w1 ⟨rfl, b1⟩
      go_wp2_with fail
      go_ret
      exact ⟨rfl, hB.trans (b1.mono hB.size)⟩
  · have h1b : (b == b') = false := by simp [h1]
    have hr2 : r = false := by rw [← hr]; simp [hi, h1]
    subst hr2
    clear hr hi h1
    go_enter Tryz.func10, Tryz.ntmps10
    go_wp2_with fail
    go_ret
    exact ⟨rfl, hB⟩

theorem Zn.stored {w : World} {s : Nat} {b b0 : Bool} {A A0 : Option Addr} {n c n0 c0 : Nat} {z : Int} (h : Zn w b A n c z) (h0 : w.cell? ⟨s, 0, none⟩ = some (.bool b0)) (h1 : w.cell? ⟨s, 1, none⟩ = some (.slice A0 n0 c0)) :
    Zn ((w.setCell ⟨s, 0, none⟩ (.bool b)).setCell ⟨s, 1, none⟩ (.slice A n c)) b A n c z := by
  refine ⟨(h.1.set_other h0 (fun _ _ e => by cases e)).set_other (u := .slice A0 n0 c0) ?_ (fun _ _ e => by cases e), h.2⟩
  have hne : (⟨s, 0, none⟩ : Addr) ≠ ⟨s, 1, none⟩ := fun e => by injection e with _ e2; omega
  rw [World.cell?_setCell_other (h := hne)]
  exact h1

theorem sgn_neg {b : Bool} {z : Int} (hb : b = decide (z < 0)) : sgn (!b) z.natAbs = -z := by
  subst hb; unfold sgn
  by_cases h : z < 0
  · simp [h]; omega
  · simp [h]; omega

end Go.Proofs.YtdaohhbdhmmihaaGreatDoor

/-
  The contracts of the fourth reference: Cmp, Mul, Add, Of, Int, Few.
-/
namespace Go.Proofs.YtdaohhbdhmmihaaGreatDoor
open Go.RowKit

/-- Which of two integers is greater. -/
def cmpZ (a b : Int) : Int := if a < b then -1 else if b < a then 1 else 0
theorem cmpN_bd (a b : Nat) : -1 ≤ cmpN a b ∧ cmpN a b ≤ 1 := by unfold cmpN; split <;> (try split) <;> omega
theorem cmpZ_neg {z z' : Int} (h : z < 0) (h' : z' < 0) : cmpZ z z' = -cmpN z.natAbs z'.natAbs := by
  unfold cmpZ cmpN
  by_cases h1 : z < z'
  · rw [if_pos h1, if_neg (by omega), if_pos (by omega)]
  · rw [if_neg h1]
    by_cases h2 : z' < z
    · rw [if_pos h2, if_pos (by omega)]; rfl
    · rw [if_neg h2, if_neg (by omega), if_neg (by omega)]; rfl
theorem cmpZ_pos {z z' : Int} (h : ¬ z < 0) (h' : ¬ z' < 0) : cmpZ z z' = cmpN z.natAbs z'.natAbs := by
  have e1 : (z < z') ↔ (z.natAbs < z'.natAbs) := by omega
  have e2 : (z' < z) ↔ (z'.natAbs < z.natAbs) := by omega
  unfold cmpZ cmpN
  simp only [e1, e2]
theorem cmpZ_np {z z' : Int} (h : z < 0) (h' : ¬ z' < 0) : cmpZ z z' = -1 := by unfold cmpZ; rw [if_pos (by omega)]
theorem cmpZ_pn {z z' : Int} (h : ¬ z < 0) (h' : z' < 0) : cmpZ z z' = 1 := by unfold cmpZ; rw [if_neg (by omega), if_pos (by omega)]

set_option maxHeartbeats 1000000 in
theorem rzfew_any {w : World} {b : Bool} {A : Option Addr} {n c : Nat} {l : List Nat} (most : Int) (r : Bool) (h : Lim w.heap.size w A n c l) (hn : n ≤ 9223372036854775807) (hr : (decide ((n : Int) ≤ most) && okZ b n l) = r) :
    Calls Tryz.prog 4 #[.agg #[.bool b, .slice A n c], .int .i64 most] w (GotV w (.bool r)) := by
  have hB := below_one w (.cells #[.bool b, .slice A n c] 25)
  by_cases h1 : (n : Int) ≤ most
  · have hr2 : okZ b n l = r := by rw [← hr]; simp [h1]
    clear hr
    have HC := Lib.hid (rzright_any (b := b) r (h.on hB) hn hr2)
    clear hr2
    go_enter Tryz.func4, Tryz.ntmps4
    go_wp2_with fail
    refine HC.out.mono ?_
    rintro e w1 ⟨rfl, b1⟩
    go_wp2_with fail
    go_ret
    exact ⟨rfl, hB.trans (b1.mono hB.size)⟩
  · have hr2 : r = false := by rw [← hr]; simp [h1]
    subst hr2
    clear hr
    go_enter Tryz.func4, Tryz.ntmps4
    go_wp2_with fail
    go_ret
    exact ⟨rfl, hB⟩

theorem sgn_mul {b b' : Bool} {z z' : Int} (hb : b = decide (z < 0)) (hb' : b' = decide (z' < 0)) : sgn (b != b') (z.natAbs * z'.natAbs) = z * z' := by
  subst hb; subst hb'
  obtain ⟨x, hx⟩ : ∃ x : Nat, z.natAbs = x := ⟨_, rfl⟩
  obtain ⟨y, hy⟩ : ∃ y : Nat, z'.natAbs = y := ⟨_, rfl⟩
  unfold sgn
  by_cases h1 : z < 0
  · have e1 : z = -(x : Int) := by omega
    by_cases h2 : z' < 0
    · have e2 : z' = -(y : Int) := by omega
      simp only [h1, h2, hx, hy]
      simp [e1, e2, Int.neg_mul_neg]
    · have e2 : z' = (y : Int) := by omega
      simp only [h1, h2, hx, hy]
      simp [e1, e2, Int.neg_mul]
  · have e1 : z = (x : Int) := by omega
    by_cases h2 : z' < 0
    · have e2 : z' = -(y : Int) := by omega
      simp only [h1, h2, hx, hy]
      simp [e1, e2, Int.mul_neg]
    · have e2 : z' = (y : Int) := by omega
      simp only [h1, h2, hx, hy]
      simp [e1, e2]

theorem cell_store {w : World} {s b o : Nat} {u v : Value} (h : b ≠ s) : ((w.setCell ⟨s, 0, none⟩ u).setCell ⟨s, 1, none⟩ v).cell? ⟨b, o, none⟩ = w.cell? ⟨b, o, none⟩ := by
  have h0 : (⟨s, 0, none⟩ : Addr) ≠ ⟨b, o, none⟩ := fun e => by injection e with e1; omega
  have h1 : (⟨s, 1, none⟩ : Addr) ≠ ⟨b, o, none⟩ := fun e => by injection e with e1; omega
  rw [World.cell?_setCell_other (h := h1), World.cell?_setCell_other (h := h0)]

end Go.Proofs.YtdaohhbdhmmihaaGreatDoor

/-
  The contracts of the fourth reference: Add, Of, Int.
-/
namespace Go.Proofs.YtdaohhbdhmmihaaGreatDoor
open Go.RowKit

theorem sgn_same {b : Bool} {z z' : Int} (hb : b = decide (z < 0)) (hb' : b = decide (z' < 0)) : sgn b (z.natAbs + z'.natAbs) = z + z' := by
  by_cases h1 : z < 0
  · have h2 : z' < 0 := by simpa [h1] using hb.symm.trans hb'
    subst hb; unfold sgn; simp [h1]; omega
  · have h2 : ¬ z' < 0 := by have := hb.symm.trans hb'; simpa [h1] using this.symm
    subst hb; unfold sgn; simp [h1]; omega
theorem sgn_diff {b b' : Bool} {z z' : Int} (hb : b = decide (z < 0)) (hb' : b' = decide (z' < 0)) (hne : b ≠ b') (hle : z'.natAbs ≤ z.natAbs) : sgn b (z.natAbs - z'.natAbs) = z + z' := by
  subst hb; subst hb'
  unfold sgn
  by_cases h1 : z < 0
  · have h2 : ¬ z' < 0 := fun h => hne (by simp [h1, h])
    simp [h1]; omega
  · have h2 : z' < 0 := by
      by_cases h : z' < 0
      · exact h
      · exact absurd (by simp [h1, h]) hne
    simp [h1]; omega

/-- The boxes of two integers that came in, and of the one that goes out. -/
structure Box3 (w W : World) (b b' : Bool) (A B : Option Addr) (n c m d : Nat) : Prop where
  hB : Below w.heap.size w W
  sz : W.heap.size = w.heap.size + 3
  c1 : W.cell? ⟨w.heap.size, 0, none⟩ = some (.bool b)
  c2 : W.cell? ⟨w.heap.size, 1, none⟩ = some (.slice A n c)
  c3 : W.cell? ⟨w.heap.size + 1, 0, none⟩ = some (.bool b')
  c4 : W.cell? ⟨w.heap.size + 1, 1, none⟩ = some (.slice B m d)
  c5 : W.cell? ⟨w.heap.size + 1 + 1, 0, none⟩ = some (.bool false)
  c6 : W.cell? ⟨w.heap.size + 1 + 1, 1, none⟩ = some (.slice none 0 0)
  c7 : W.frozen? ⟨w.heap.size + 1 + 1, 0, none⟩ = false
  c8 : W.frozen? ⟨w.heap.size + 1 + 1, 1, none⟩ = false
theorem box3 {w W : World} {b b' : Bool} {A B : Option Addr} {n c m d : Nat} (hW : ((w.alloc (.cells #[.bool b, .slice A n c] 25)).alloc (.cells #[.bool b', .slice B m d] 25)).alloc (.cells #[.bool false, .slice none 0 0] 25) = W) : Box3 w W b b' A B n c m d := by
  refine ⟨?_, ?_, ?_, ?_, ?_, ?_, ?_, ?_, ?_, ?_⟩ <;> rw [← hW]
  · exact (below_two w (.cells #[.bool b, .slice A n c] 25) (.cells #[.bool b', .slice B m d] 25)).alloc (by simp; omega) (.cells #[.bool false, .slice none 0 0] 25)
  all_goals simp [go_sem]
theorem Box3.on {w W W' : World} {b b' : Bool} {A B : Option Addr} {n c m d : Nat} (h : Box3 w W b b' A B n c m d) (hb : Below W.heap.size W W') : Below w.heap.size w W' ∧ w.heap.size + 3 ≤ W'.heap.size ∧ W'.cell? ⟨w.heap.size, 0, none⟩ = some (.bool b) ∧ W'.cell? ⟨w.heap.size, 1, none⟩ = some (.slice A n c) ∧ W'.cell? ⟨w.heap.size + 1, 0, none⟩ = some (.bool b') ∧ W'.cell? ⟨w.heap.size + 1, 1, none⟩ = some (.slice B m d) ∧
    W'.cell? ⟨w.heap.size + 1 + 1, 0, none⟩ = some (.bool false) ∧ W'.cell? ⟨w.heap.size + 1 + 1, 1, none⟩ = some (.slice none 0 0) ∧ W'.frozen? ⟨w.heap.size + 1 + 1, 0, none⟩ = false ∧ W'.frozen? ⟨w.heap.size + 1 + 1, 1, none⟩ = false := by
  have hs := h.sz
  have hs' := hb.size
  refine ⟨h.hB.trans (hb.mono h.hB.size), by omega, ?_, ?_, ?_, ?_, ?_, ?_, ?_, ?_⟩
  · exact (hb.cell (p := ⟨w.heap.size, 0, none⟩) (by simp; omega)).trans h.c1
  · exact (hb.cell (p := ⟨w.heap.size, 1, none⟩) (by simp; omega)).trans h.c2
  · exact (hb.cell (p := ⟨w.heap.size + 1, 0, none⟩) (by simp; omega)).trans h.c3
  · exact (hb.cell (p := ⟨w.heap.size + 1, 1, none⟩) (by simp; omega)).trans h.c4
  · exact (hb.cell (p := ⟨w.heap.size + 1 + 1, 0, none⟩) (by simp; omega)).trans h.c5
  · exact (hb.cell (p := ⟨w.heap.size + 1 + 1, 1, none⟩) (by simp; omega)).trans h.c6
  · exact (hb.frozen (p := ⟨w.heap.size + 1 + 1, 0, none⟩) (by simp; omega)).trans h.c7
  · exact (hb.frozen (p := ⟨w.heap.size + 1 + 1, 1, none⟩) (by simp; omega)).trans h.c8

theorem below_undrew {W w' : World} (hb : Below W.drew.heap.size W.drew w') : Below W.heap.size W w' := ⟨hb.os, hb.tape, hb.output, hb.size, hb.block⟩

end Go.Proofs.YtdaohhbdhmmihaaGreatDoor

/-
  The contracts of the fourth reference: Of, Int.
-/
namespace Go.Proofs.YtdaohhbdhmmihaaGreatDoor
open Go.RowKit

/-- An integer of 64 bits. -/
def I64 (z : Int) : Prop := -9223372036854775808 ≤ z ∧ z ≤ 9223372036854775807
theorem I64.abs {z : Int} (h : I64 z) : z.natAbs < B64 := by unfold I64 at h; unfold B64; omega

theorem sgn_of {b : Bool} {z : Int} (hb : b = decide (z < 0)) : sgn b z.natAbs = z := by
  subst hb; unfold sgn
  by_cases h : z < 0
  · simp [h]; omega
  · simp [h]; omega

theorem abs_sgn {b : Bool} {z : Int} (hb : b = decide (z < 0)) (hz : z < 0) : b = true := by rw [hb]; simp [hz]
theorem abs_sgn' {b : Bool} {z : Int} (hb : b = decide (z < 0)) (hz : ¬ z < 0) : b = false := by rw [hb]; simp [hz]

end Go.Proofs.YtdaohhbdhmmihaaGreatDoor

/-
  The contract of the fourth reference's Print.
-/
namespace Go.Proofs.YtdaohhbdhmmihaaGreatDoor
open Go.RowKit

theorem fig_run (W : World) (d : Nat) (h : d < 10) : (convert 54 9 (.slice (some ⟨W.heap.size, 0, none⟩) 1 1)).run Tryz.prog (W.alloc (.cells #[.int .u8 (48 + (d : Int))] 5)) = .ok (.string ⟨#[figB d]⟩) (W.alloc (.cells #[.int .u8 (48 + (d : Int))] 5)) := by
  have hf := figB_toNat h
  have := run_convert_bytes_back (P := Tryz.prog) (W.alloc (.cells #[.int .u8 (48 + (d : Int))] 5)) 54 9 5 ⟨W.heap.size, 0, none⟩ 1 [figB d] Tryz.underlying54 Tryz.underlying5 Tryz.underlying9 (fun j hj => by
    obtain rfl : j = 0 := by simp at hj; omega
    rw [show ([figB d][0]).toNat = 48 + d from hf]
    exact cell_one_new W _ 5 0 _ (by simp))
  exact this

set_option maxRecDepth 100000 in
set_option maxHeartbeats 4000000 in
theorem rzprint_N {w : World} {b : Bool} {A : Option Addr} {n c : Nat} {z : Int} (ha : Zn w b A n c z) (hx : (limbs z.natAbs).length ≤ 300) :
    Calls Tryz.prog 9 #[.agg #[.bool b, .slice A n c]] w fun e w' => ∃ s : ByteArray, e = .returned (.string s) ∧ s.data.toList = textZ z ∧ Below w.heap.size w w' := by
  obtain ⟨W, hW⟩ : ∃ W, w.alloc (.cells #[.bool b, .slice A n c] 25) = W := ⟨_, rfl⟩
  have hB : Below w.heap.size w W := by rw [← hW]; exact below_one w _
  have hsz : W.heap.size = w.heap.size + 1 := by rw [← hW]; simp
  have c1 : W.cell? ⟨w.heap.size, 0, none⟩ = some (.bool b) := by rw [← hW]; simp [go_sem]
  have c2 : W.cell? ⟨w.heap.size, 1, none⟩ = some (.slice A n c) := by rw [← hW]; simp [go_sem]
  have HSZ := Lib.hid hsz
  clear hsz
  have ha' := ha.1.on hB
  go_enter Tryz.func9, Tryz.ntmps9
  go_wp2_with fail
  clear hW
  go_loopg [3, 4] z.natAbs (fun k sv nv wr => ∃ (s : ByteArray) (A' : Option Addr) (n' c' : Nat), sv = .string s ∧ nv = .slice A' n' c' ∧ Num wr A' n' c' k ∧ (limbs k).length ≤ 300 ∧ Hid (decL z.natAbs = decL k ++ s.data.toList) ∧ Below W.heap.size W wr)
  case atStart => exact ⟨⟨#[]⟩, A, n, c, rfl, rfl, ha', hx, Lib.hid (by simp), Below.refl _ _⟩
  case round =>
    obtain ⟨s, A', n', c', rfl, rfl, hN, hl, HD, hb⟩ := hrel
    go_wp2_with fail
    refine (rof_N _ 10 (by unfold B64; omega)).mono ?_
    rintro e w1 ⟨A1, n1, k1, rfl, h1, b1⟩
    obtain ⟨d, hd⟩ : ∃ d, gk % 10 = d := ⟨_, rfl⟩
    obtain ⟨q, hq⟩ : ∃ q, gk / 10 = q := ⟨_, rfl⟩
    have hd10 : d < 10 := by omega
    have hdB : d < B64 := by unfold B64; omega
    have hql : (limbs q).length ≤ 300 := by rw [← hq]; exact Nat.le_trans (limbs_length_mono (Nat.div_le_self _ _)) hl
    have h10 := len_one (x := 10) (by unfold B64; omega)
    have hdl := len_one hdB
    have hcall := rdiv_N (hN.on b1) h1 (by omega) (by omega) (by omega)
    rw [hd, hq] at hcall
    have HC := Lib.hid hcall
    have HDD := Lib.hid hd
    have HQQ := Lib.hid hq
    have hfig := fun W => fig_run W d hd10
    clear hcall hd hq
    go_wp2_with fail
    refine HC.out.mono ?_
    rintro e w2 ⟨A2, n2, k2, A3, n3, k3, rfl, h2, h3, b2⟩
    go_wp2_with fail
    refine (rsmall_any _ _ _ d _ h3 (by rw [h3.len]; omega) hdB).mono ?_
    rintro e w' ⟨rfl, rfl⟩
    have hss : s.size ≤ 19201 := by
      have h5 := congrArg List.length HD.out
      rw [List.length_append] at h5
      have h6 := decL_limbs z.natAbs
      have h7 : s.data.toList.length = s.size := Array.length_toList
      omega
    have hbb := hb.trans ((b1.trans (b2.mono b1.size)).mono hb.size)
    by_cases hq0 : q = 0
    · subst hq0
      have hn2 := h2.nought
      subst hn2
      have hsz := HSZ.out
      have hs2 := hbb.size
      have g1 := (hbb.cell (p := ⟨w.heap.size, 0, none⟩) (by simp; omega)).trans c1
      have gs : w.heap.size < w2.heap.size := by omega
      have hE : decL z.natAbs = figB d :: s.data.toList := by
        have e1 : gk < 10 := by have := HQQ.out; omega
        have e2 : gk = d := by have := HDD.out; omega
        rw [HD.out, decL_small e1, e2]
        rfl
      have hBB : Below w.heap.size w (w2.alloc (.cells #[.int .u8 (48 + (d : Int))] 5)) := (hB.trans (hbb.mono hB.size)).alloc (by omega) _
      have HE := Lib.hid hE
      have hsg := Lib.hid ha.2
      clear hE hsz hs2
      cases b
      · go_wp2_with fail
        go_ret
        refine ⟨_, rfl, ?_, hBB⟩
        have hz : ¬ z < 0 := by simpa using hsg.out.symm
        unfold textZ
        rw [if_neg hz, HE.out]
        simp
      · go_wp2_with fail
        go_ret
        refine ⟨_, rfl, ?_, hBB⟩
        have hz : z < 0 := by simpa using hsg.out.symm
        unfold textZ
        rw [if_pos hz, HE.out]
        simp
    · have hn2 : ((n2 : Int) == 0) = false := by have := h2.some_len hq0; simp; omega
      have hE : decL z.natAbs = decL q ++ (figB d :: s.data.toList) := by
        have e1 : ¬ gk < 10 := by have := HQQ.out; omega
        rw [HD.out, decL_big e1, HQQ.out, HDD.out]
        simp
      have HE := Lib.hid hE
      clear hE
      go_wp2_with fail
      go_roundg q
      case measure => have := HQQ.out; omega
      case rel =>
        have hbl := (Below.refl w2.heap.size w2).alloc (Nat.le_refl _) (.cells #[.int .u8 (48 + (d : Int))] 5)
        refine ⟨_, A2, n2, k2, rfl, rfl, h2.on hbl, hql, Lib.hid ?_, hbb.alloc hbb.size _⟩
        rw [HE.out]
        simp
end Go.Proofs.YtdaohhbdhmmihaaGreatDoor

/-
  The contract of the fourth reference's Read.
-/
namespace Go.Proofs.YtdaohhbdhmmihaaGreatDoor
open Go.RowKit

/-- A call has answered an integer, a place and an error. -/
def GotR (w : World) (r : Int × Nat × Int) (e : Ending) (w' : World) : Prop := ∃ b A n c, e = .returned (.tuple #[.agg #[.bool b, .slice A n c], .int .i64 (r.2.1 : Int), .int .i64 r.2.2]) ∧ Zn w' b A n c r.1 ∧ Below w.heap.size w w'
theorem zn_zero (w : World) : Zn w false none 0 0 0 := ⟨num_zero w, rfl⟩
theorem str_len (s : ByteArray) : s.data.toList.length = s.size := Array.length_toList
theorem str_get (s : ByteArray) (i : Nat) (h : i < s.size) : (s.data.toList[i]?.getD 0).toNat = s[i].toNat := by
  have : i < s.data.toList.length := by rw [str_len]; exact h
  rw [List.getElem?_eq_getElem this]
  rfl

set_option maxHeartbeats 1000000 in
theorem rzread_large (s : ByteArray) (w : World) (h : 400 < s.size) (hs : s.size ≤ 9223372036854775807) : Calls Tryz.prog 7 #[.string s] w (GotR w (0, 0, 6)) := by
  have hi : (400 : Int) < (s.size : Int) := by omega
  go_enter Tryz.func7, Tryz.ntmps7
  go_wp2_with fail
  refine bodyPost_ret (v := .tuple #[.agg #[.bool false, .slice none 0 0], .int .i64 0, .int .i64 6]) (by simp [results, Tryz.results7, go_sem]) rfl ⟨_, _, _, _, rfl, zn_zero _, below_one w _⟩


set_option maxRecDepth 100000 in
set_option maxHeartbeats 8000000 in
theorem rzread_f0 (s : ByteArray) (w : World) (h : s.size ≤ 400) (hf : fromT s.data.toList = 0) : Calls Tryz.prog 7 #[.string s] w (GotR w (readT s.data.toList)) := by
  have hi : ¬ (400 : Int) < (s.size : Int) := by omega
  have hnl : ¬ 400 < s.data.toList.length := by rw [str_len]; omega
  obtain ⟨W, hW⟩ : ∃ W, w.alloc (.cells #[.bool false, .slice none 0 0] 25) = W := ⟨_, rfl⟩
  have hB : Below w.heap.size w W := by rw [← hW]; exact below_one w _
  have hsz : W.heap.size = w.heap.size + 1 := by rw [← hW]; simp
  have c1 : W.cell? ⟨w.heap.size, 0, none⟩ = some (.bool false) := by rw [← hW]; simp [go_sem]
  have c2 : W.cell? ⟨w.heap.size, 1, none⟩ = some (.slice none 0 0) := by rw [← hW]; simp [go_sem]
  have c3 : W.frozen? ⟨w.heap.size, 0, none⟩ = false := by rw [← hW]; simp [go_sem]
  have c4 : W.frozen? ⟨w.heap.size, 1, none⟩ = false := by rw [← hW]; simp [go_sem]
  have hBW : Below W.heap.size W (W.alloc (.cells #[] 48)) := (Below.refl _ W).alloc (Nat.le_refl _) _
  have HSZ := Lib.hid hsz
  clear hsz
  have hfl : 0 ≤ s.size := by have := fromT_le s.data.toList; rw [hf, str_len] at this; exact this
  by_cases h0 : s.size = 0
  · have h00 : ¬ (0 : Int) < (s.size : Int) := by omega
    have heb : ((s.size : Int) == 0) = true := beq_iff_eq.2 (by omega)
    clear heb
    go_enter Tryz.func7, Tryz.ntmps7
    go_wp2_with fail
    clear hW
    go_loopw [6, 7] (fun nv iv wr => ∃ (i : Nat) (A' : Option Addr) (n' c' : Nat), 0 ≤ i ∧ i ≤ s.size ∧ iv = .int .i64 (i : Int) ∧ nv = .slice A' n' c' ∧ Num wr A' n' c' (numT ((s.data.toList.drop 0).take (i - 0))) ∧ Hid (∀ k, 0 ≤ k → k < i → okAt 0 s.data.toList k = true) ∧ Below W.heap.size W wr) (fun _ iv _ => s.size - (intOf iv).toNat)
    case atStart => exact ⟨0, _, _, _, Nat.le_refl _, hfl, rfl, rfl, num_empty _ _ _, Lib.hid (fun k a b => by omega), hBW⟩
    case round =>
      obtain ⟨i, A', n', c', hfi, hil, rfl, rfl, hN, HOK, hb⟩ := hrel
      have hsz := HSZ.out
      have hs2 := hb.size
      have g1 := (hb.cell (p := ⟨w.heap.size, 0, none⟩) (by simp; omega)).trans c1
      have g2 := (hb.cell (p := ⟨w.heap.size, 1, none⟩) (by simp; omega)).trans c2
      have g3 := (hb.frozen (p := ⟨w.heap.size, 0, none⟩) (by simp; omega)).trans c3
      have g4 := (hb.frozen (p := ⟨w.heap.size, 1, none⟩) (by simp; omega)).trans c4
      have hBr := hB.trans (hb.mono hB.size)
      have hlen := numT_limbs HOK.out (by rw [str_len]; exact hil)
      clear hsz hs2
      by_cases hlt : i < s.size
      · omega
      · obtain rfl : i = s.size := by omega
        have HOK2 : Hid (∀ k, 0 ≤ k → k < s.data.toList.length → okAt 0 s.data.toList k = true) := Lib.hid (fun k a b => HOK.out k a (by rw [str_len] at b; exact b))
        have hlim : (limbs (numT ((s.data.toList.drop 0).take (s.size - 0)))).length ≤ 1000000 := by omega
        by_cases he : s.size = 0
        · have heb : ((s.size : Int) == 0) = true := beq_iff_eq.2 (by omega)
          have hr := readT_end hnl hf (by rw [str_len]; exact he)
          have HR := Lib.hid hr
          have HE := Lib.hid he
          clear hr he
          go_wp2_with fail
          refine bodyPost_ret (v := .tuple #[.agg #[.bool false, .slice none 0 0], .int .i64 (s.size : Int), .int .i64 3]) (by simp [results, Tryz.results7, go_sem, g1, g2] <;> omega) rfl ?_
          rw [HR.out]
          refine ⟨_, _, _, _, by rw [HE.out], zn_zero _, ?_⟩
          exact (hBr.setCell (p := ⟨w.heap.size, 0, none⟩) (Nat.le_refl _) _).setCell (p := ⟨w.heap.size, 1, none⟩) (Nat.le_refl _) _
        · exact absurd h0 he
  · have h00 : (0 : Int) < (s.size : Int) := by omega
    have hs0 : 0 < s.size := by omega
    have h45 : ((s[0].toNat : Int) == 45) = false := by
      have := str_get s 0 hs0
      unfold fromT at hf
      rw [this] at hf
      simp at hf
      simp; omega
    go_enter Tryz.func7, Tryz.ntmps7
    go_wp2_with fail
    clear hW
    go_loopw [6, 7] (fun nv iv wr => ∃ (i : Nat) (A' : Option Addr) (n' c' : Nat), 0 ≤ i ∧ i ≤ s.size ∧ iv = .int .i64 (i : Int) ∧ nv = .slice A' n' c' ∧ Num wr A' n' c' (numT ((s.data.toList.drop 0).take (i - 0))) ∧ Hid (∀ k, 0 ≤ k → k < i → okAt 0 s.data.toList k = true) ∧ Below W.heap.size W wr) (fun _ iv _ => s.size - (intOf iv).toNat)
    case atStart => exact ⟨0, _, _, _, Nat.le_refl _, hfl, rfl, rfl, num_empty _ _ _, Lib.hid (fun k a b => by omega), hBW⟩
    case round =>
      obtain ⟨i, A', n', c', hfi, hil, rfl, rfl, hN, HOK, hb⟩ := hrel
      have hsz := HSZ.out
      have hs2 := hb.size
      have g1 := (hb.cell (p := ⟨w.heap.size, 0, none⟩) (by simp; omega)).trans c1
      have g2 := (hb.cell (p := ⟨w.heap.size, 1, none⟩) (by simp; omega)).trans c2
      have g3 := (hb.frozen (p := ⟨w.heap.size, 0, none⟩) (by simp; omega)).trans c3
      have g4 := (hb.frozen (p := ⟨w.heap.size, 1, none⟩) (by simp; omega)).trans c4
      have hBr := hB.trans (hb.mono hB.size)
      have hlen := numT_limbs HOK.out (by rw [str_len]; exact hil)
      clear hsz hs2
      by_cases hlt : i < s.size
      · have hget := str_get s i hlt
        have hgf := str_get s 0 (by omega)
        have hfs : 0 < s.size := by omega
        have hbad : okAt 0 s.data.toList i = false → readT s.data.toList = (0, i, 3) := fun hk => by
          exact readT_bad hnl hf hfi (by rw [str_len]; exact hlt) HOK.out hk
        have HBD := Lib.hid hbad
        have HGT := Lib.hid hget
        have HGF := Lib.hid hgf
        clear hbad hget hgf
        by_cases t1 : (s[i].toNat : Int) < 48
        · have HK := Lib.hid (HBD.out (by unfold okAt; rw [HGT.out]; simp; omega))
          clear HBD
          go_wp2_with fail
          all_goals
            refine bodyPost_ret (v := .tuple #[.agg #[.bool false, .slice none 0 0], .int .i64 (i : Int), .int .i64 3]) (by simp [results, Tryz.results7, go_sem, g1, g2] <;> omega) rfl ?_
            rw [HK.out]
            refine ⟨false, none, 0, 0, rfl, zn_zero _, ?_⟩
            exact (hBr.setCell (p := ⟨w.heap.size, 0, none⟩) (Nat.le_refl _) _).setCell (p := ⟨w.heap.size, 1, none⟩) (Nat.le_refl _) _
        by_cases t2 : (57 : Int) < (s[i].toNat : Int)
        · have HK := Lib.hid (HBD.out (by unfold okAt; rw [HGT.out]; simp; omega))
          clear HBD
          go_wp2_with fail
          all_goals
            refine bodyPost_ret (v := .tuple #[.agg #[.bool false, .slice none 0 0], .int .i64 (i : Int), .int .i64 3]) (by simp [results, Tryz.results7, go_sem, g1, g2] <;> omega) rfl ?_
            rw [HK.out]
            refine ⟨false, none, 0, 0, rfl, zn_zero _, ?_⟩
            exact (hBr.setCell (p := ⟨w.heap.size, 0, none⟩) (Nat.le_refl _) _).setCell (p := ⟨w.heap.size, 1, none⟩) (Nat.le_refl _) _
        by_cases t3 : 0 < i
        · have t3' : (0 : Int) < (i : Int) := by omega
          by_cases t4 : s[0].toNat = 48
          · have t4' : ((s[0].toNat : Int) == 48) = true := beq_iff_eq.2 (by omega)
            have HK := Lib.hid (HBD.out (by unfold okAt; rw [HGF.out]; simp [t3, t4]))
            clear t4
            clear HBD
            go_wp2_with fail
            all_goals
              refine bodyPost_ret (v := .tuple #[.agg #[.bool false, .slice none 0 0], .int .i64 (i : Int), .int .i64 3]) (by simp [results, Tryz.results7, go_sem, g1, g2] <;> omega) rfl ?_
              rw [HK.out]
              refine ⟨false, none, 0, 0, rfl, zn_zero _, ?_⟩
              exact (hBr.setCell (p := ⟨w.heap.size, 0, none⟩) (Nat.le_refl _) _).setCell (p := ⟨w.heap.size, 1, none⟩) (Nat.le_refl _) _
          · have t4' : ((s[0].toNat : Int) == 48) = false := beq_eq_false_iff_ne.2 (by omega)
            have hokI : okAt 0 s.data.toList i = true := by unfold okAt; rw [HGT.out, HGF.out]; simp [t4]; omega
            clear t4
            obtain ⟨d, hd⟩ : ∃ d : Nat, s[i].toNat = 48 + d := ⟨s[i].toNat - 48, by omega⟩
            have hd10 : d ≤ 9 := by omega
            have hdB : d < B64 := by unfold B64; omega
            have hdl := len_one hdB
            have h10 := len_one (x := 10) (by unfold B64; omega)
            have hst : numT ((s.data.toList.drop 0).take (i + 1 - 0)) = numT ((s.data.toList.drop 0).take (i - 0)) * 10 + d := by
              rw [numT_step hfi (by rw [str_len]; exact hlt), HGT.out, hd]; omega
            have hml := limbs_length_mul hlen h10
            have HST := Lib.hid hst
            have HOI : Hid (∀ k, 0 ≤ k → k < i + 1 → okAt 0 s.data.toList k = true) := Lib.hid (fun k a b => by
              rcases Nat.lt_or_ge k i with hh | hh
              · exact HOK.out k a hh
              · obtain rfl : k = i := by omega
                exact hokI)
            have hdw : IntKind.u8.wrap ((s[i].toNat : Int) - 48) = (d : Int) := by rw [IntKind.wrap_u8]; omega
            clear hst hokI HBD hd
            go_wp2_with fail
            refine (rof_N _ 10 (by unfold B64; omega)).mono ?_
            rintro e w1 ⟨A1, n1, k1, rfl, h1, b1⟩
            go_wp2_with fail
            refine (rmul_N (hN.on b1) h1 (by omega) (by omega)).mono ?_
            rintro e w2 ⟨A2, n2, k2, rfl, h2, b2⟩
            go_wp2_with fail
            refine (rof_N _ d hdB).mono ?_
            rintro e w3 ⟨A3, n3, k3, rfl, h3, b3⟩
            go_wp2_with fail
            refine (radd_N (h2.on b3) h3 (by omega) (by omega)).mono ?_
            rintro e w4 ⟨A4, n4, k4, rfl, h4, b4⟩
            rw [← HST.out] at h4
            have bb := hb.trans ((((b1.trans (b2.mono b1.size)).trans (b3.mono (by have := b1.size; have := b2.size; omega))).trans (b4.mono (by have := b1.size; have := b2.size; have := b3.size; omega))).mono hb.size)
            clear b1 b2 b3 b4 h1 h2 h3
            go_wp2_with fail
            go_roundw
            case rel => exact ⟨i + 1, _, _, _, by omega, by omega, by go_num, rfl, h4, HOI, bb⟩
            case measure => simp [intOf]; omega
        · have t3' : ¬ (0 : Int) < (i : Int) := by omega
          have hokI : okAt 0 s.data.toList i = true := by unfold okAt; rw [HGT.out]; simp; omega
          obtain ⟨d, hd⟩ : ∃ d : Nat, s[i].toNat = 48 + d := ⟨s[i].toNat - 48, by omega⟩
          have hd10 : d ≤ 9 := by omega
          have hdB : d < B64 := by unfold B64; omega
          have hdl := len_one hdB
          have h10 := len_one (x := 10) (by unfold B64; omega)
          have hst : numT ((s.data.toList.drop 0).take (i + 1 - 0)) = numT ((s.data.toList.drop 0).take (i - 0)) * 10 + d := by
            rw [numT_step hfi (by rw [str_len]; exact hlt), HGT.out, hd]; omega
          have hml := limbs_length_mul hlen h10
          have HST := Lib.hid hst
          have HOI : Hid (∀ k, 0 ≤ k → k < i + 1 → okAt 0 s.data.toList k = true) := Lib.hid (fun k a b => by
            rcases Nat.lt_or_ge k i with hh | hh
            · exact HOK.out k a hh
            · obtain rfl : k = i := by omega
              exact hokI)
          have hdw : IntKind.u8.wrap ((s[i].toNat : Int) - 48) = (d : Int) := by rw [IntKind.wrap_u8]; omega
          clear hst hokI HBD hd
          go_wp2_with fail
          refine (rof_N _ 10 (by unfold B64; omega)).mono ?_
          rintro e w1 ⟨A1, n1, k1, rfl, h1, b1⟩
          go_wp2_with fail
          refine (rmul_N (hN.on b1) h1 (by omega) (by omega)).mono ?_
          rintro e w2 ⟨A2, n2, k2, rfl, h2, b2⟩
          go_wp2_with fail
          refine (rof_N _ d hdB).mono ?_
          rintro e w3 ⟨A3, n3, k3, rfl, h3, b3⟩
          go_wp2_with fail
          refine (radd_N (h2.on b3) h3 (by omega) (by omega)).mono ?_
          rintro e w4 ⟨A4, n4, k4, rfl, h4, b4⟩
          rw [← HST.out] at h4
          have bb := hb.trans ((((b1.trans (b2.mono b1.size)).trans (b3.mono (by have := b1.size; have := b2.size; omega))).trans (b4.mono (by have := b1.size; have := b2.size; have := b3.size; omega))).mono hb.size)
          clear b1 b2 b3 b4 h1 h2 h3
          go_wp2_with fail
          go_roundw
          case rel => exact ⟨i + 1, _, _, _, by omega, by omega, by go_num, rfl, h4, HOI, bb⟩
          case measure => simp [intOf]; omega
      · obtain rfl : i = s.size := by omega
        have HOK2 : Hid (∀ k, 0 ≤ k → k < s.data.toList.length → okAt 0 s.data.toList k = true) := Lib.hid (fun k a b => HOK.out k a (by rw [str_len] at b; exact b))
        have hlim : (limbs (numT ((s.data.toList.drop 0).take (s.size - 0)))).length ≤ 1000000 := by omega
        by_cases he : s.size = 0
        · have heb : ((s.size : Int) == 0) = true := beq_iff_eq.2 (by omega)
          have hr := readT_end hnl hf (by rw [str_len]; exact he)
          have HR := Lib.hid hr
          have HE := Lib.hid he
          clear hr he
          go_wp2_with fail
          refine bodyPost_ret (v := .tuple #[.agg #[.bool false, .slice none 0 0], .int .i64 (s.size : Int), .int .i64 3]) (by simp [results, Tryz.results7, go_sem, g1, g2] <;> omega) rfl ?_
          rw [HR.out]
          refine ⟨_, _, _, _, by rw [HE.out], zn_zero _, ?_⟩
          exact (hBr.setCell (p := ⟨w.heap.size, 0, none⟩) (Nat.le_refl _) _).setCell (p := ⟨w.heap.size, 1, none⟩) (Nat.le_refl _) _
        · have heb : ((s.size : Int) == 0) = false := beq_eq_false_iff_ne.2 (by omega)
          have hr := readT_ok hnl hf (by rw [str_len]; omega) HOK2.out
          have ht : (s.data.toList.drop 0).take (s.size - 0) = s.data.toList.drop 0 := List.take_of_length_le (by rw [List.length_drop, str_len]; omega)
          rw [ht] at hN hlim
          have hv : sgn false (numT (s.data.toList.drop 0)) = (readT s.data.toList).1 := by rw [hr]; simp [sgn]
          have hv2 : (readT s.data.toList).2 = (0, 0) := by rw [hr]
          have HV := Lib.hid hv
          have HV2 := Lib.hid hv2
          have HSS := HSZ
          clear hr ht hv hv2 he
          go_wp2_with fail
          refine (made_N _ hN (by rw [hN.len]; omega)).mono ?_
          rintro e w2 ⟨b2, A2, n2, k2, rfl, hz2, b2'⟩
          rw [HV.out] at hz2
          have hbb := hb.trans (b2'.mono hb.size)
          have hsz := HSZ.out
          have hs2 := hbb.size
          have g1' := (hbb.cell (p := ⟨w.heap.size, 0, none⟩) (by simp; omega)).trans c1
          have g2' := (hbb.cell (p := ⟨w.heap.size, 1, none⟩) (by simp; omega)).trans c2
          have g3' := (hbb.frozen (p := ⟨w.heap.size, 0, none⟩) (by simp; omega)).trans c3
          have g4' := (hbb.frozen (p := ⟨w.heap.size, 1, none⟩) (by simp; omega)).trans c4
          have HZ := Lib.hid (hz2.stored g1' g2')
          have HB2 := hB.trans (hbb.mono hB.size)
          clear hsz hs2 hz2 hbb
          go_wp2_with fail
          refine bodyPost_ret (v := .tuple #[.agg #[.bool b2, .slice A2 n2 k2], .int .i64 0, .int .i64 0]) (by simp [results, Tryz.results7, go_sem, g1', g2']) rfl ?_
          refine ⟨b2, A2, n2, k2, ?_, HZ.out, ?_⟩
          · rw [HV2.out]; rfl
          · exact (HB2.setCell (p := ⟨w.heap.size, 0, none⟩) (Nat.le_refl _) _).setCell (p := ⟨w.heap.size, 1, none⟩) (Nat.le_refl _) _

set_option maxRecDepth 100000 in
set_option maxHeartbeats 8000000 in
theorem rzread_f1 (s : ByteArray) (w : World) (h : s.size ≤ 400) (hf : fromT s.data.toList = 1) : Calls Tryz.prog 7 #[.string s] w (GotR w (readT s.data.toList)) := by
  have hi : ¬ (400 : Int) < (s.size : Int) := by omega
  have hnl : ¬ 400 < s.data.toList.length := by rw [str_len]; omega
  obtain ⟨W, hW⟩ : ∃ W, w.alloc (.cells #[.bool false, .slice none 0 0] 25) = W := ⟨_, rfl⟩
  have hB : Below w.heap.size w W := by rw [← hW]; exact below_one w _
  have hsz : W.heap.size = w.heap.size + 1 := by rw [← hW]; simp
  have c1 : W.cell? ⟨w.heap.size, 0, none⟩ = some (.bool false) := by rw [← hW]; simp [go_sem]
  have c2 : W.cell? ⟨w.heap.size, 1, none⟩ = some (.slice none 0 0) := by rw [← hW]; simp [go_sem]
  have c3 : W.frozen? ⟨w.heap.size, 0, none⟩ = false := by rw [← hW]; simp [go_sem]
  have c4 : W.frozen? ⟨w.heap.size, 1, none⟩ = false := by rw [← hW]; simp [go_sem]
  have hBW : Below W.heap.size W (W.alloc (.cells #[] 48)) := (Below.refl _ W).alloc (Nat.le_refl _) _
  have HSZ := Lib.hid hsz
  clear hsz
  have hfl : 1 ≤ s.size := by have := fromT_le s.data.toList; rw [hf, str_len] at this; exact this
  have h00 : (0 : Int) < (s.size : Int) := by omega
  have hs0 : 0 < s.size := by omega
  have h45 : ((s[0].toNat : Int) == 45) = true := by
    have := str_get s 0 hs0
    unfold fromT at hf
    rw [this] at hf
    simp at hf
    simp; omega
  go_enter Tryz.func7, Tryz.ntmps7
  go_wp2_with fail
  clear hW
  go_loopw [6, 7] (fun nv iv wr => ∃ (i : Nat) (A' : Option Addr) (n' c' : Nat), 1 ≤ i ∧ i ≤ s.size ∧ iv = .int .i64 (i : Int) ∧ nv = .slice A' n' c' ∧ Num wr A' n' c' (numT ((s.data.toList.drop 1).take (i - 1))) ∧ Hid (∀ k, 1 ≤ k → k < i → okAt 1 s.data.toList k = true) ∧ Below W.heap.size W wr) (fun _ iv _ => s.size - (intOf iv).toNat)
  case atStart => exact ⟨1, _, _, _, Nat.le_refl _, hfl, rfl, rfl, num_empty _ _ _, Lib.hid (fun k a b => by omega), hBW⟩
  case round =>
    obtain ⟨i, A', n', c', hfi, hil, rfl, rfl, hN, HOK, hb⟩ := hrel
    have hsz := HSZ.out
    have hs2 := hb.size
    have g1 := (hb.cell (p := ⟨w.heap.size, 0, none⟩) (by simp; omega)).trans c1
    have g2 := (hb.cell (p := ⟨w.heap.size, 1, none⟩) (by simp; omega)).trans c2
    have g3 := (hb.frozen (p := ⟨w.heap.size, 0, none⟩) (by simp; omega)).trans c3
    have g4 := (hb.frozen (p := ⟨w.heap.size, 1, none⟩) (by simp; omega)).trans c4
    have hBr := hB.trans (hb.mono hB.size)
    have hlen := numT_limbs HOK.out (by rw [str_len]; exact hil)
    clear hsz hs2
    by_cases hlt : i < s.size
    · have hget := str_get s i hlt
      have hgf := str_get s 1 (by omega)
      have hfs : 1 < s.size := by omega
      have hbad : okAt 1 s.data.toList i = false → readT s.data.toList = (0, i, 3) := fun hk => by
        exact readT_bad hnl hf hfi (by rw [str_len]; exact hlt) HOK.out hk
      have HBD := Lib.hid hbad
      have HGT := Lib.hid hget
      have HGF := Lib.hid hgf
      clear hbad hget hgf
      by_cases t1 : (s[i].toNat : Int) < 48
      · have HK := Lib.hid (HBD.out (by unfold okAt; rw [HGT.out]; simp; omega))
        clear HBD
        go_wp2_with fail
        all_goals
          refine bodyPost_ret (v := .tuple #[.agg #[.bool false, .slice none 0 0], .int .i64 (i : Int), .int .i64 3]) (by simp [results, Tryz.results7, go_sem, g1, g2] <;> omega) rfl ?_
          rw [HK.out]
          refine ⟨false, none, 0, 0, rfl, zn_zero _, ?_⟩
          exact (hBr.setCell (p := ⟨w.heap.size, 0, none⟩) (Nat.le_refl _) _).setCell (p := ⟨w.heap.size, 1, none⟩) (Nat.le_refl _) _
      by_cases t2 : (57 : Int) < (s[i].toNat : Int)
      · have HK := Lib.hid (HBD.out (by unfold okAt; rw [HGT.out]; simp; omega))
        clear HBD
        go_wp2_with fail
        all_goals
          refine bodyPost_ret (v := .tuple #[.agg #[.bool false, .slice none 0 0], .int .i64 (i : Int), .int .i64 3]) (by simp [results, Tryz.results7, go_sem, g1, g2] <;> omega) rfl ?_
          rw [HK.out]
          refine ⟨false, none, 0, 0, rfl, zn_zero _, ?_⟩
          exact (hBr.setCell (p := ⟨w.heap.size, 0, none⟩) (Nat.le_refl _) _).setCell (p := ⟨w.heap.size, 1, none⟩) (Nat.le_refl _) _
      by_cases t3 : 1 < i
      · have t3' : (1 : Int) < (i : Int) := by omega
        by_cases t4 : s[1].toNat = 48
        · have t4' : ((s[1].toNat : Int) == 48) = true := beq_iff_eq.2 (by omega)
          have HK := Lib.hid (HBD.out (by unfold okAt; rw [HGF.out]; simp [t3, t4]))
          clear t4
          clear HBD
          go_wp2_with fail
          all_goals
            refine bodyPost_ret (v := .tuple #[.agg #[.bool false, .slice none 0 0], .int .i64 (i : Int), .int .i64 3]) (by simp [results, Tryz.results7, go_sem, g1, g2] <;> omega) rfl ?_
            rw [HK.out]
            refine ⟨false, none, 0, 0, rfl, zn_zero _, ?_⟩
            exact (hBr.setCell (p := ⟨w.heap.size, 0, none⟩) (Nat.le_refl _) _).setCell (p := ⟨w.heap.size, 1, none⟩) (Nat.le_refl _) _
        · have t4' : ((s[1].toNat : Int) == 48) = false := beq_eq_false_iff_ne.2 (by omega)
          have t5' : ((i : Int) == 1) = false := beq_eq_false_iff_ne.2 (by omega)
          have hokI : okAt 1 s.data.toList i = true := by unfold okAt; rw [HGT.out, HGF.out]; simp [t4]; omega
          clear t4
          obtain ⟨d, hd⟩ : ∃ d : Nat, s[i].toNat = 48 + d := ⟨s[i].toNat - 48, by omega⟩
          have hd10 : d ≤ 9 := by omega
          have hdB : d < B64 := by unfold B64; omega
          have hdl := len_one hdB
          have h10 := len_one (x := 10) (by unfold B64; omega)
          have hst : numT ((s.data.toList.drop 1).take (i + 1 - 1)) = numT ((s.data.toList.drop 1).take (i - 1)) * 10 + d := by
            rw [numT_step hfi (by rw [str_len]; exact hlt), HGT.out, hd]; omega
          have hml := limbs_length_mul hlen h10
          have HST := Lib.hid hst
          have HOI : Hid (∀ k, 1 ≤ k → k < i + 1 → okAt 1 s.data.toList k = true) := Lib.hid (fun k a b => by
            rcases Nat.lt_or_ge k i with hh | hh
            · exact HOK.out k a hh
            · obtain rfl : k = i := by omega
              exact hokI)
          have hdw : IntKind.u8.wrap ((s[i].toNat : Int) - 48) = (d : Int) := by rw [IntKind.wrap_u8]; omega
          clear hst hokI HBD hd
          go_wp2_with fail
          refine (rof_N _ 10 (by unfold B64; omega)).mono ?_
          rintro e w1 ⟨A1, n1, k1, rfl, h1, b1⟩
          go_wp2_with fail
          refine (rmul_N (hN.on b1) h1 (by omega) (by omega)).mono ?_
          rintro e w2 ⟨A2, n2, k2, rfl, h2, b2⟩
          go_wp2_with fail
          refine (rof_N _ d hdB).mono ?_
          rintro e w3 ⟨A3, n3, k3, rfl, h3, b3⟩
          go_wp2_with fail
          refine (radd_N (h2.on b3) h3 (by omega) (by omega)).mono ?_
          rintro e w4 ⟨A4, n4, k4, rfl, h4, b4⟩
          rw [← HST.out] at h4
          have bb := hb.trans ((((b1.trans (b2.mono b1.size)).trans (b3.mono (by have := b1.size; have := b2.size; omega))).trans (b4.mono (by have := b1.size; have := b2.size; have := b3.size; omega))).mono hb.size)
          clear b1 b2 b3 b4 h1 h2 h3
          go_wp2_with fail
          go_roundw
          case rel => exact ⟨i + 1, _, _, _, by omega, by omega, by go_num, rfl, h4, HOI, bb⟩
          case measure => simp [intOf]; omega
      · have t3' : ¬ (1 : Int) < (i : Int) := by omega
        have hi1 : i = 1 := by omega
        by_cases t6 : s[i].toNat = 48
        · have t6' : ((s[i].toNat : Int) == 48) = true := beq_iff_eq.2 (by omega)
          have t5' : ((i : Int) == 1) = true := beq_iff_eq.2 (by omega)
          have HK := Lib.hid (HBD.out (by unfold okAt; rw [HGT.out, t6]; simp [hi1]))
          clear t6 hi1
          clear HBD
          go_wp2_with fail
          all_goals
            refine bodyPost_ret (v := .tuple #[.agg #[.bool false, .slice none 0 0], .int .i64 (i : Int), .int .i64 3]) (by simp [results, Tryz.results7, go_sem, g1, g2] <;> omega) rfl ?_
            rw [HK.out]
            refine ⟨false, none, 0, 0, rfl, zn_zero _, ?_⟩
            exact (hBr.setCell (p := ⟨w.heap.size, 0, none⟩) (Nat.le_refl _) _).setCell (p := ⟨w.heap.size, 1, none⟩) (Nat.le_refl _) _
        · have t6' : ((s[i].toNat : Int) == 48) = false := beq_eq_false_iff_ne.2 (by omega)
          have t5' : ((i : Int) == 1) = true := beq_iff_eq.2 (by omega)
          have hokI : okAt 1 s.data.toList i = true := by unfold okAt; rw [HGT.out]; simp [t6]; omega
          clear t6 hi1
          obtain ⟨d, hd⟩ : ∃ d : Nat, s[i].toNat = 48 + d := ⟨s[i].toNat - 48, by omega⟩
          have hd10 : d ≤ 9 := by omega
          have hdB : d < B64 := by unfold B64; omega
          have hdl := len_one hdB
          have h10 := len_one (x := 10) (by unfold B64; omega)
          have hst : numT ((s.data.toList.drop 1).take (i + 1 - 1)) = numT ((s.data.toList.drop 1).take (i - 1)) * 10 + d := by
            rw [numT_step hfi (by rw [str_len]; exact hlt), HGT.out, hd]; omega
          have hml := limbs_length_mul hlen h10
          have HST := Lib.hid hst
          have HOI : Hid (∀ k, 1 ≤ k → k < i + 1 → okAt 1 s.data.toList k = true) := Lib.hid (fun k a b => by
            rcases Nat.lt_or_ge k i with hh | hh
            · exact HOK.out k a hh
            · obtain rfl : k = i := by omega
              exact hokI)
          have hdw : IntKind.u8.wrap ((s[i].toNat : Int) - 48) = (d : Int) := by rw [IntKind.wrap_u8]; omega
          clear hst hokI HBD hd
          go_wp2_with fail
          refine (rof_N _ 10 (by unfold B64; omega)).mono ?_
          rintro e w1 ⟨A1, n1, k1, rfl, h1, b1⟩
          go_wp2_with fail
          refine (rmul_N (hN.on b1) h1 (by omega) (by omega)).mono ?_
          rintro e w2 ⟨A2, n2, k2, rfl, h2, b2⟩
          go_wp2_with fail
          refine (rof_N _ d hdB).mono ?_
          rintro e w3 ⟨A3, n3, k3, rfl, h3, b3⟩
          go_wp2_with fail
          refine (radd_N (h2.on b3) h3 (by omega) (by omega)).mono ?_
          rintro e w4 ⟨A4, n4, k4, rfl, h4, b4⟩
          rw [← HST.out] at h4
          have bb := hb.trans ((((b1.trans (b2.mono b1.size)).trans (b3.mono (by have := b1.size; have := b2.size; omega))).trans (b4.mono (by have := b1.size; have := b2.size; have := b3.size; omega))).mono hb.size)
          clear b1 b2 b3 b4 h1 h2 h3
          go_wp2_with fail
          go_roundw
          case rel => exact ⟨i + 1, _, _, _, by omega, by omega, by go_num, rfl, h4, HOI, bb⟩
          case measure => simp [intOf]; omega
    · obtain rfl : i = s.size := by omega
      have HOK2 : Hid (∀ k, 1 ≤ k → k < s.data.toList.length → okAt 1 s.data.toList k = true) := Lib.hid (fun k a b => HOK.out k a (by rw [str_len] at b; exact b))
      have hlim : (limbs (numT ((s.data.toList.drop 1).take (s.size - 1)))).length ≤ 1000000 := by omega
      by_cases he : s.size = 1
      · have heb : ((s.size : Int) == 1) = true := beq_iff_eq.2 (by omega)
        have hr := readT_end hnl hf (by rw [str_len]; exact he)
        have HR := Lib.hid hr
        have HE := Lib.hid he
        clear hr he
        go_wp2_with fail
        refine bodyPost_ret (v := .tuple #[.agg #[.bool false, .slice none 0 0], .int .i64 (s.size : Int), .int .i64 3]) (by simp [results, Tryz.results7, go_sem, g1, g2] <;> omega) rfl ?_
        rw [HR.out]
        refine ⟨_, _, _, _, by rw [HE.out], zn_zero _, ?_⟩
        exact (hBr.setCell (p := ⟨w.heap.size, 0, none⟩) (Nat.le_refl _) _).setCell (p := ⟨w.heap.size, 1, none⟩) (Nat.le_refl _) _
      · have heb : ((s.size : Int) == 1) = false := beq_eq_false_iff_ne.2 (by omega)
        have hr := readT_ok hnl hf (by rw [str_len]; omega) HOK2.out
        have ht : (s.data.toList.drop 1).take (s.size - 1) = s.data.toList.drop 1 := List.take_of_length_le (by rw [List.length_drop, str_len]; omega)
        rw [ht] at hN hlim
        have hv : sgn true (numT (s.data.toList.drop 1)) = (readT s.data.toList).1 := by rw [hr]; simp [sgn]
        have hv2 : (readT s.data.toList).2 = (0, 0) := by rw [hr]
        have HV := Lib.hid hv
        have HV2 := Lib.hid hv2
        have HSS := HSZ
        clear hr ht hv hv2 he
        go_wp2_with fail
        refine (made_N _ hN (by rw [hN.len]; omega)).mono ?_
        rintro e w2 ⟨b2, A2, n2, k2, rfl, hz2, b2'⟩
        rw [HV.out] at hz2
        have hbb := hb.trans (b2'.mono hb.size)
        have hsz := HSZ.out
        have hs2 := hbb.size
        have g1' := (hbb.cell (p := ⟨w.heap.size, 0, none⟩) (by simp; omega)).trans c1
        have g2' := (hbb.cell (p := ⟨w.heap.size, 1, none⟩) (by simp; omega)).trans c2
        have g3' := (hbb.frozen (p := ⟨w.heap.size, 0, none⟩) (by simp; omega)).trans c3
        have g4' := (hbb.frozen (p := ⟨w.heap.size, 1, none⟩) (by simp; omega)).trans c4
        have HZ := Lib.hid (hz2.stored g1' g2')
        have HB2 := hB.trans (hbb.mono hB.size)
        clear hsz hs2 hz2 hbb
        go_wp2_with fail
        refine bodyPost_ret (v := .tuple #[.agg #[.bool b2, .slice A2 n2 k2], .int .i64 0, .int .i64 0]) (by simp [results, Tryz.results7, go_sem, g1', g2']) rfl ?_
        refine ⟨b2, A2, n2, k2, ?_, HZ.out, ?_⟩
        · rw [HV2.out]; rfl
        · exact (HB2.setCell (p := ⟨w.heap.size, 0, none⟩) (Nat.le_refl _) _).setCell (p := ⟨w.heap.size, 1, none⟩) (Nat.le_refl _) _

theorem rzread_N (s : ByteArray) (w : World) (hs : s.size ≤ 9223372036854775807) : Calls Tryz.prog 7 #[.string s] w (GotR w (readT s.data.toList)) := by
  rcases Nat.lt_or_ge 400 s.size with h | h
  · rw [readT_large (by rw [str_len]; exact h)]
    exact rzread_large s w h hs
  · by_cases hf : fromT s.data.toList = 0
    · exact rzread_f0 s w h hf
    · have h1 : fromT s.data.toList = 1 := by
        unfold fromT at hf ⊢
        split
        · rfl
        · rename_i hh; rw [if_neg hh] at hf; exact absurd rfl hf
      exact rzread_f1 s w h h1

end Go.Proofs.YtdaohhbdhmmihaaGreatDoor
