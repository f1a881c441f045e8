/-
  Several texts in one: U, Z4, Sq, Z5, Z6, Z7, MathF, YB, RGcd, E5, E6.
-/
import Derived.Test.YtmaolhajeoigpaaGreatA2
import Derived.Test.YtmaolhajeoigpaaGreatA1
import Derived.OrdersHeld
import Derived.Deep.RegionHeld3
import Derived.OpenShut
import Derived.Deep.DeepCutAuto
import Derived.Deep.LoopGhost

/-
  Small helps for the laws: a digit in new memory, lengths of small numbers.
-/
namespace Go.Proofs.YtmaolhajeoigpaaGreat
open Go.RowKit

theorem new_digit {x : Nat} (h0 : x ≠ 0) (hx : x < B64) (w : World) (t : TypeId) : Num (w.alloc (.cells #[.int .u64 (x : Int)] t)) (some ⟨w.heap.size, 0, none⟩) 1 1 x := by
  obtain ⟨A, n, c, e, hl⟩ := isN_new h0 hx w t
  injection e with e1 e2 e3
  subst e1; subst e2; subst e3
  exact hl
theorem len_one {x : Nat} (hx : x < B64) : (limbs x).length ≤ 1 := limbs_length_le (k := 1) (by rw [Nat.pow_one]; exact hx)
theorem len_nought : (limbs 0).length ≤ 0 := by rw [limbs_zero]; simp
/-- The only digit of a small number. -/
theorem Num.cell {w : World} {A : Option Addr} {n c x : Nat} (h : Num w A n c x) (h0 : x ≠ 0) (hx : x < B64) : n = 1 ∧ ∃ b off, A = some ⟨b, off, none⟩ ∧ w.cell? ⟨b, off, none⟩ = some (.int .u64 (x : Int)) := by
  have hn := h.len
  rw [limbs_one h0 hx] at hn
  obtain ⟨b, off, e, _, hc⟩ := h.2.2.2 (by simp at hn; omega)
  have := hc 0 (by simp at hn; omega)
  rw [limbs_one h0 hx] at this
  exact ⟨hn, b, off, e, this⟩
theorem new_first {x : Nat} {v : Int} (h0 : x ≠ 0) (hx : x < B64) (hv : v = (x : Int)) (w : World) (t : TypeId) : Num (w.alloc (.cells #[.int .u64 v] t)) (some ⟨w.heap.size, 0, none⟩) 1 1 x := by
  rw [hv]
  exact new_digit h0 hx w t
theorem Num.nought {w : World} {A : Option Addr} {n c : Nat} (h : Num w A n c 0) : n = 0 := by
  have := h.len
  rwa [limbs_zero] at this
theorem Num.some_len {w : World} {A : Option Addr} {n c x : Nat} (h : Num w A n c x) (h0 : x ≠ 0) : 0 < n := by
  have := h.len
  have := limbs_ne_nil h0
  omega

end Go.Proofs.YtmaolhajeoigpaaGreat

/-
  Integers in memory, and the contracts of the fourth reference: made, Right, Same, Neg, Cmp.
-/
namespace Go.Proofs.YtmaolhajeoigpaaGreat
set_option maxRecDepth 100000
set_option maxHeartbeats 1000000
open Go.RowKit

/-- The value '.agg #[.bool b, .slice A n c]' stands for the integer z. -/
def Zn (w : World) (b : Bool) (A : Option Addr) (n c : Nat) (z : Int) : Prop := Num w A n c z.natAbs ∧ b = decide (z < 0)
theorem Zn.on {w w' : World} {b : Bool} {A : Option Addr} {n c : Nat} {z : Int} (h : Zn w b A n c z) (hb : Below w.heap.size w w') : Zn w' b A n c z := ⟨h.1.on hb, h.2⟩
/-- A number with a side. -/
def sgn (b : Bool) (x : Nat) : Int := if b then -(x : Int) else (x : Int)
theorem sgn_abs (b : Bool) (x : Nat) : (sgn b x).natAbs = x := by unfold sgn; split <;> omega
theorem Zn.eq {w : World} {b : Bool} {A : Option Addr} {n c : Nat} {z : Int} (h : Zn w b A n c z) : z = sgn b z.natAbs := by
  rw [h.2]; unfold sgn
  by_cases hz : z < 0
  · simp [hz]; omega
  · simp [hz]; omega
/-- A call has answered an integer. -/
def GotZ (w : World) (z : Int) (e : Ending) (w' : World) : Prop := ∃ b A n c, e = .returned (.agg #[.bool b, .slice A n c]) ∧ Zn w' b A n c z ∧ Below w.heap.size w w'
theorem bcell {W w1 : World} (hb : Below W.heap.size W w1) : (∀ b o, b < W.heap.size → w1.cell? ⟨b, o, none⟩ = W.cell? ⟨b, o, none⟩) ∧ (∀ b o, b < W.heap.size → w1.frozen? ⟨b, o, none⟩ = W.frozen? ⟨b, o, none⟩) :=
  ⟨fun b o h => hb.cell (p := ⟨b, o, none⟩) h, fun b o h => hb.frozen (p := ⟨b, o, none⟩) h⟩

theorem made_N {w : World} {A : Option Addr} {n c x : Nat} (b : Bool) (ha : Num w A n c x) (hn : n ≤ 1000000) : Calls Tryz.prog 90 #[.bool b, .slice A n c] w (GotZ w (sgn b x)) := by
  have hl := ha.len
  by_cases h0 : n = 0
  · subst h0
    have hx : x = 0 := by
      have h2 := val_limbs x
      rw [List.eq_nil_of_length_eq_zero hl.symm] at h2
      exact h2.symm
    subst hx
    have hz : Zn w false A 0 c (sgn b 0) := by
      refine ⟨by rw [sgn_abs]; exact ha, ?_⟩
      unfold sgn; split <;> rfl
    clear hl
    cases b
    all_goals
      go_enter Tryz.func90, Tryz.ntmps90
      go_wp2_with fail
      refine bodyPost_ret (v := .agg #[.bool false, .slice A 0 c]) (by simp [results, Tryz.results90, go_sem]) rfl ⟨_, _, _, _, rfl, hz.on ?_, ?_⟩
      all_goals exact (Below.refl _ w).alloc (Nat.le_refl _) _
  · have hx : x ≠ 0 := fun h => by rw [h, limbs_zero] at hl; simp at hl; omega
    have hn0 : (0 : Int) < (n : Int) := by omega
    have hz : Zn w b A n c (sgn b x) := by
      refine ⟨by rw [sgn_abs]; exact ha, ?_⟩
      unfold sgn
      cases b
      · simp
      · simp; omega
    clear hl
    cases b
    all_goals
      go_enter Tryz.func90, Tryz.ntmps90
      go_wp2_with fail
    · refine bodyPost_ret (v := .agg #[.bool false, .slice A n c]) (by simp [results, Tryz.results90, go_sem]) rfl ⟨_, _, _, _, rfl, hz.on ?_, ?_⟩
      all_goals exact (Below.refl _ w).alloc (Nat.le_refl _) _
    · refine bodyPost_ret (v := .agg #[.bool true, .slice A n c]) (by simp [results, Tryz.results90, go_sem]; omega) rfl ⟨_, _, _, _, rfl, hz.on ?_, ?_⟩
      all_goals exact (Below.refl _ w).alloc (Nat.le_refl _) _

/-- The boxes of two structs that came in. -/
theorem below_two (w : World) (o o' : Obj) : Below w.heap.size w ((w.alloc o).alloc o') := ((Below.refl _ w).alloc (Nat.le_refl _) _).alloc (by simp) _
theorem below_one (w : World) (o : Obj) : Below w.heap.size w (w.alloc o) := (Below.refl _ w).alloc (Nat.le_refl _) _

/-- An integer's form is right. -/
def okZ (b : Bool) (n : Nat) (l : List Nat) : Bool := canon l && (decide (0 < n) || !b)

theorem zn_inj {w w' : World} {b b' : Bool} {A B : Option Addr} {n c m d : Nat} {z z' : Int} (ha : Zn w b A n c z) (hb : Zn w' b' B m d z') : (z = z' ↔ b = b' ∧ z.natAbs = z'.natAbs) := by
  constructor
  · intro h; subst h; exact ⟨ha.2.trans hb.2.symm, rfl⟩
  · intro ⟨h1, h2⟩
    rw [ha.eq, hb.eq, h1, h2]

theorem Zn.stored {w : World} {s : Nat} {b b0 : Bool} {A A0 : Option Addr} {n c n0 c0 : Nat} {z : Int} (h : Zn w b A n c z) (h0 : w.cell? ⟨s, 0, none⟩ = some (.bool b0)) (h1 : w.cell? ⟨s, 1, none⟩ = some (.slice A0 n0 c0)) :
    Zn ((w.setCell ⟨s, 0, none⟩ (.bool b)).setCell ⟨s, 1, none⟩ (.slice A n c)) b A n c z := by
  refine ⟨(h.1.set_other h0 (fun _ _ e => by cases e)).set_other (u := .slice A0 n0 c0) ?_ (fun _ _ e => by cases e), h.2⟩
  have hne : (⟨s, 0, none⟩ : Addr) ≠ ⟨s, 1, none⟩ := fun e => by injection e with _ e2; omega
  rw [World.cell?_setCell_other (h := hne)]
  exact h1

theorem sgn_neg {b : Bool} {z : Int} (hb : b = decide (z < 0)) : sgn (!b) z.natAbs = -z := by
  subst hb; unfold sgn
  by_cases h : z < 0
  · simp [h]; omega
  · simp [h]; omega

theorem rzneg_N {w : World} {b : Bool} {A : Option Addr} {n c : Nat} {z : Int} (ha : Zn w b A n c z) (hx : (limbs z.natAbs).length ≤ 1000000) :
    Calls Tryz.prog 117 #[.agg #[.bool b, .slice A n c]] w (GotZ w (-z)) := by
  have hs := sgn_neg ha.2
  have hn : n ≤ 1000000 := by rw [ha.1.len]; exact hx
  obtain ⟨W, hW⟩ : ∃ W, (w.alloc (.cells #[.bool b, .slice A n c] 49)).alloc (.cells #[.bool false, .slice none 0 0] 49) = W := ⟨_, rfl⟩
  have hB := below_two w (.cells #[.bool b, .slice A n c] 49) (.cells #[.bool false, .slice none 0 0] 49)
  have ha' := ha.1.on hB
  have HS := Lib.hid hs
  clear hs hW
  go_enter Tryz.func117, Tryz.ntmps117
  go_wp2_with fail
  refine (made_N (!b) ha' hn).mono ?_
  rintro e w1 ⟨b1, A1, n1, c1, rfl, hz, hb1⟩
  rw [HS.out] at hz
  obtain ⟨hc, hf⟩ := bcell hb1
  have hsz := hb1.size
  simp at hsz
  have e0 := (hc (w.heap.size + 1) 0 (by simp)).trans (show _ = some (.bool false) by simp)
  have e1 := (hc (w.heap.size + 1) 1 (by simp)).trans (show _ = some (.slice none 0 0) by simp)
  have HZ := Lib.hid (hz.stored e0 e1)
  have HB : Below w.heap.size w w1 := hB.trans (hb1.mono hB.size)
  go_wp2_with fail
  refine bodyPost_ret (v := .agg #[.bool b1, .slice A1 n1 c1]) (by simp [results, Tryz.results117, go_sem, e0, e1]) rfl ⟨_, _, _, _, rfl, HZ.out, ?_⟩
  exact (HB.setCell (p := ⟨w.heap.size + 1, 0, none⟩) (Nat.le_succ _) _).setCell (p := ⟨w.heap.size + 1, 1, none⟩) (Nat.le_succ _) _


end Go.Proofs.YtmaolhajeoigpaaGreat

/-
  Facts carried over what a call does: short names, so that texts stay short.
-/
namespace Go.Proofs.YtmaolhajeoigpaaGreat
open Go.RowKit
theorem cK {n : Nat} {w w' : World} (b : Below n w w') {p : Addr} {v : Option Value} (h : w.cell? p = v) (l : p.block < n) : w'.cell? p = v := (b.cell l).trans h
theorem fK {n : Nat} {w w' : World} (b : Below n w w') {p : Addr} {v : Bool} (h : w.frozen? p = v) (l : p.block < n) : w'.frozen? p = v := (b.frozen l).trans h
theorem lK {n : Nat} {w w' : World} (b : Below n w w') {a : Nat} (l : a < w.heap.size) : a < w'.heap.size := Nat.lt_of_lt_of_le l b.size
theorem bK {w w1 w2 : World} (c : Below w.heap.size w w1) (b : Below w1.heap.size w1 w2) : Below w.heap.size w w2 := c.trans (b.mono c.size)
theorem cR {n : Nat} {w w' : World} (b : Below n w w') {g i : Nat} (l : g < n) : w.cell? ⟨g, i, none⟩ = w'.cell? ⟨g, i, none⟩ := (b.cell (p := ⟨g, i, none⟩) l).symm
theorem fR {n : Nat} {w w' : World} (b : Below n w w') {g i : Nat} (l : g < n) : w.frozen? ⟨g, i, none⟩ = w'.frozen? ⟨g, i, none⟩ := (b.frozen (p := ⟨g, i, none⟩) l).symm
/-- A new box's cells, and that they may be written. -/
def Cs2 (w : World) (g : Nat) (a b : Value) : Prop := w.cell? ⟨g, 0, none⟩ = some a ∧ w.cell? ⟨g, 1, none⟩ = some b
def Cs3 (w : World) (g : Nat) (a b c : Value) : Prop := w.cell? ⟨g, 0, none⟩ = some a ∧ w.cell? ⟨g, 1, none⟩ = some b ∧ w.cell? ⟨g, 2, none⟩ = some c
def Cs6 (w : World) (g : Nat) (a b c d e f : Value) : Prop := w.cell? ⟨g, 0, none⟩ = some a ∧ w.cell? ⟨g, 1, none⟩ = some b ∧ w.cell? ⟨g, 2, none⟩ = some c ∧ w.cell? ⟨g, 3, none⟩ = some d ∧ w.cell? ⟨g, 4, none⟩ = some e ∧ w.cell? ⟨g, 5, none⟩ = some f
def Fz2 (w : World) (g : Nat) : Prop := w.frozen? ⟨g, 0, none⟩ = false ∧ w.frozen? ⟨g, 1, none⟩ = false
def Fz3 (w : World) (g : Nat) : Prop := w.frozen? ⟨g, 0, none⟩ = false ∧ w.frozen? ⟨g, 1, none⟩ = false ∧ w.frozen? ⟨g, 2, none⟩ = false
def Fz6 (w : World) (g : Nat) : Prop := w.frozen? ⟨g, 0, none⟩ = false ∧ w.frozen? ⟨g, 1, none⟩ = false ∧ w.frozen? ⟨g, 2, none⟩ = false ∧ w.frozen? ⟨g, 3, none⟩ = false ∧ w.frozen? ⟨g, 4, none⟩ = false ∧ w.frozen? ⟨g, 5, none⟩ = false
theorem pT {α : Type} : (∀ (l : List α) (i : Nat) (h : i < l.toArray.size), l.toArray[i]'h = l[i]'(by simpa using h)) ∧ (∀ (a : α) (l : List α) (h : 0 < (a :: l).length), (a :: l)[0]'h = a) ∧ (∀ (a : α) (l : List α) (i : Nat) (h : i + 1 < (a :: l).length), (a :: l)[i + 1]'h = l[i]'(by simpa using h)) ∧ (∀ (l : List α) (i : Nat) (v : α), l.toArray.setIfInBounds i v = (l.set i v).toArray) ∧ (∀ (a : α) (l : List α) (v : α), (a :: l).set 0 v = v :: l) ∧ (∀ (a : α) (l : List α) (i : Nat) (v : α), (a :: l).set (i + 1) v = a :: l.set i v) :=
  ⟨fun _ _ _ => by simp, fun _ _ _ => rfl, fun _ _ _ _ => rfl, fun _ _ _ => by simp, fun _ _ _ => rfl, fun _ _ _ _ => rfl⟩
theorem cl_lt {w : World} {p : Addr} {v : Value} (h : w.cell? p = some v) : p.block < w.heap.size := by
  rcases Nat.lt_or_ge p.block w.heap.size with h1 | h1
  · exact h1
  · simp [World.cell?, Array.getElem?_eq_none h1] at h
theorem zb2 {n g : Nat} {w w' : World} (q : Below n w w') (l : g < n) (c : Cs2 w g (.bool false) (.slice none 0 0)) (f : Fz2 w g) : w'.cell? ⟨g, 0, none⟩ = some (.bool false) ∧ w'.frozen? ⟨g, 0, none⟩ = false ∧ w'.cell? ⟨g, 1, none⟩ = some (.slice none 0 0) ∧ w'.frozen? ⟨g, 1, none⟩ = false ∧ g < w'.heap.size := ⟨cK q c.1 l, fK q f.1 l, cK q c.2 l, fK q f.2 l, Nat.lt_of_lt_of_le (cl_lt c.1) q.size⟩
theorem zb3 {n g : Nat} {w w' : World} (q : Below n w w') (l : g < n) (c : Cs3 w g (.bool false) (.slice none 0 0) (.slice none 0 0)) (f : Fz3 w g) : w'.cell? ⟨g, 0, none⟩ = some (.bool false) ∧ w'.frozen? ⟨g, 0, none⟩ = false ∧ w'.cell? ⟨g, 1, none⟩ = some (.slice none 0 0) ∧ w'.frozen? ⟨g, 1, none⟩ = false ∧ w'.cell? ⟨g, 2, none⟩ = some (.slice none 0 0) ∧ w'.frozen? ⟨g, 2, none⟩ = false ∧ g < w'.heap.size := ⟨cK q c.1 l, fK q f.1 l, cK q c.2.1 l, fK q f.2.1 l, cK q c.2.2 l, fK q f.2.2 l, Nat.lt_of_lt_of_le (cl_lt c.1) q.size⟩
theorem zb6 {n g : Nat} {w w' : World} (q : Below n w w') (l : g < n) (c : Cs6 w g (.bool false) (.slice none 0 0) (.slice none 0 0) (.bool false) (.slice none 0 0) (.slice none 0 0)) (f : Fz6 w g) : w'.cell? ⟨g, 0, none⟩ = some (.bool false) ∧ w'.frozen? ⟨g, 0, none⟩ = false ∧ w'.cell? ⟨g, 1, none⟩ = some (.slice none 0 0) ∧ w'.frozen? ⟨g, 1, none⟩ = false ∧ w'.cell? ⟨g, 2, none⟩ = some (.slice none 0 0) ∧ w'.frozen? ⟨g, 2, none⟩ = false ∧ w'.cell? ⟨g, 3, none⟩ = some (.bool false) ∧ w'.frozen? ⟨g, 3, none⟩ = false ∧ w'.cell? ⟨g, 4, none⟩ = some (.slice none 0 0) ∧ w'.frozen? ⟨g, 4, none⟩ = false ∧ w'.cell? ⟨g, 5, none⟩ = some (.slice none 0 0) ∧ w'.frozen? ⟨g, 5, none⟩ = false ∧ g < w'.heap.size := ⟨cK q c.1 l, fK q f.1 l, cK q c.2.1 l, fK q f.2.1 l, cK q c.2.2.1 l, fK q f.2.2.1 l, cK q c.2.2.2.1 l, fK q f.2.2.2.1 l, cK q c.2.2.2.2.1 l, fK q f.2.2.2.2.1 l, cK q c.2.2.2.2.2 l, fK q f.2.2.2.2.2 l, Nat.lt_of_lt_of_le (cl_lt c.1) q.size⟩
theorem uK {V y z x : World} (qq : Below V.heap.size V y) (up : Below y.heap.size y z) (q : Below z.heap.size z x) : Below V.heap.size V x := (qq.trans (up.mono qq.size)).trans (q.mono (Nat.le_trans qq.size up.size))
/-- An operation of a region is taken: one that yields, and one that is passed over. -/
theorem tY {P : Program} {md : Region.Mode} {ops : Array Oper} {Q : Exit → Act → World → Prop} {S : World → Prop} {i fuel : Nat} {oi : Oper} {v : Value} {listed : Array Bool} {a : Act} {w : World} (hi : ops[i]? = some oi)
    (hv : ∀ w, S w → (execOp a.eval oi).run P w = .ok (.value v) w) (hS : S w) (h : wpAnyH P md ops Q S fuel (listed.setIfInBounds i true) (a.put oi.dst v) w)
    (hs : Region.noSelect ops = true := by kernel_rfl) (hf : Region.free md ops listed i = true := by kernel_rfl) (hr : (Region.ready md ops listed).contains i = true := by kernel_rfl)
    (hQ : ∀ c a w, Q (.panic c) (a.put oi.dst v) w → Q (.panic c) a w := by exact fun _ _ _ h => h) (hw : Region.wanted oi (yielded ops a.tmps) = true := by rfl) : wpAnyH P md ops Q S (fuel + 1) listed a w :=
  wpAnyH_take hi hs hf hr hQ (.inl ⟨hw, hv⟩) hS h
theorem tU {P : Program} {md : Region.Mode} {ops : Array Oper} {Q : Exit → Act → World → Prop} {S : World → Prop} {i fuel : Nat} {oi : Oper} {listed : Array Bool} {a : Act} {w : World} (hi : ops[i]? = some oi)
    (hS : S w) (h : wpAnyH P md ops Q S fuel (listed.setIfInBounds i true) (a.put oi.dst undef) w)
    (hs : Region.noSelect ops = true := by kernel_rfl) (hf : Region.free md ops listed i = true := by kernel_rfl) (hr : (Region.ready md ops listed).contains i = true := by kernel_rfl)
    (hQ : ∀ c a w, Q (.panic c) (a.put oi.dst undef) w → Q (.panic c) a w := by exact fun _ _ _ h => h) (hw : Region.wanted oi (yielded ops a.tmps) = false := by rfl) : wpAnyH P md ops Q S (fuel + 1) listed a w :=
  wpAnyH_take hi hs hf hr hQ (.inr ⟨hw, rfl⟩) hS h
end Go.Proofs.YtmaolhajeoigpaaGreat

/-
  The contracts of the fourth reference: Cmp, Mul, Add, Of, Int, Few.
-/
namespace Go.Proofs.YtmaolhajeoigpaaGreat
set_option maxRecDepth 100000
set_option maxHeartbeats 2000000
open Go.RowKit

/-- Which of two integers is greater. -/
def cmpZ (a b : Int) : Int := if a < b then -1 else if b < a then 1 else 0
theorem cmpN_bd (a b : Nat) : -1 ≤ cmpN a b ∧ cmpN a b ≤ 1 := by unfold cmpN; split <;> (try split) <;> omega
theorem cmpZ_neg {z z' : Int} (h : z < 0) (h' : z' < 0) : cmpZ z z' = -cmpN z.natAbs z'.natAbs := by
  unfold cmpZ cmpN
  by_cases h1 : z < z'
  · rw [if_pos h1, if_neg (by omega), if_pos (by omega)]
  · rw [if_neg h1]
    by_cases h2 : z' < z
    · rw [if_pos h2, if_pos (by omega)]; rfl
    · rw [if_neg h2, if_neg (by omega), if_neg (by omega)]; rfl
theorem cmpZ_pos {z z' : Int} (h : ¬ z < 0) (h' : ¬ z' < 0) : cmpZ z z' = cmpN z.natAbs z'.natAbs := by
  have e1 : (z < z') ↔ (z.natAbs < z'.natAbs) := by omega
  have e2 : (z' < z) ↔ (z'.natAbs < z.natAbs) := by omega
  unfold cmpZ cmpN
  simp only [e1, e2]
theorem cmpZ_np {z z' : Int} (h : z < 0) (h' : ¬ z' < 0) : cmpZ z z' = -1 := by unfold cmpZ; rw [if_pos (by omega)]
theorem cmpZ_pn {z z' : Int} (h : ¬ z < 0) (h' : z' < 0) : cmpZ z z' = 1 := by unfold cmpZ; rw [if_neg (by omega), if_pos (by omega)]

theorem rzcmp_N {w : World} {b b' : Bool} {A B : Option Addr} {n c m d : Nat} {z z' : Int} (ha : Zn w b A n c z) (hb : Zn w b' B m d z') (hx : (limbs z.natAbs).length ≤ 1000000) (hy : (limbs z'.natAbs).length ≤ 1000000) :
    Calls Tryz.prog 120 #[.agg #[.bool b, .slice A n c], .agg #[.bool b', .slice B m d]] w (GotV w (.int .i64 (cmpZ z z'))) := by
  have hB := below_two w (.cells #[.bool b, .slice A n c] 49) (.cells #[.bool b', .slice B m d] 49)
  have ha' := ha.1.on hB
  have hb' := hb.1.on hB
  have s1 := ha.2
  have s2 := hb.2
  obtain ⟨r, hr⟩ : ∃ r, cmpN z.natAbs z'.natAbs = r := ⟨_, rfl⟩
  have hbd := cmpN_bd z.natAbs z'.natAbs
  rw [hr] at hbd
  have hcall := rcmp_N ha' hb' (by omega) (by omega)
  rw [hr] at hcall
  have HC := Lib.hid hcall
  have HR := Lib.hid hr
  obtain ⟨r1, r2⟩ := hbd
  clear hcall hr ha' hb'
  cases b with
  | true =>
    have hz : z < 0 := by simpa using s1.symm
    cases b' with
    | true =>
      have hz' : z' < 0 := by simpa using s2.symm
      have HE := Lib.hid (cmpZ_neg hz hz')
      clear s1 s2 hz hz' ha hb
      go_enter Tryz.func120, Tryz.ntmps120
      go_wp2_with fail
      refine HC.out.mono ?_
      rintro e w1 ⟨rfl, b1⟩
      obtain ⟨hc, hf⟩ := bcell b1
      have hsz := b1.size
      simp at hsz
      go_wp2_with fail
      go_ret
      refine ⟨ret_i64 ?_, hB.trans (b1.mono hB.size)⟩
      rw [HE.out, HR.out]
    | false =>
      have hz' : ¬ z' < 0 := by simpa using s2.symm
      have HE := Lib.hid (cmpZ_np hz hz')
      clear s1 s2 hz hz' ha hb
      go_enter Tryz.func120, Tryz.ntmps120
      go_wp2_with fail
      go_ret
      rw [HE.out]
      exact ⟨rfl, hB⟩
  | false =>
    have hz : ¬ z < 0 := by simpa using s1.symm
    cases b' with
    | true =>
      have hz' : z' < 0 := by simpa using s2.symm
      have HE := Lib.hid (cmpZ_pn hz hz')
      clear s1 s2 hz hz' ha hb
      go_enter Tryz.func120, Tryz.ntmps120
      go_wp2_with fail
      go_ret
      rw [HE.out]
      exact ⟨rfl, hB⟩
    | false =>
      have hz' : ¬ z' < 0 := by simpa using s2.symm
      have HE := Lib.hid (cmpZ_pos hz hz')
      clear s1 s2 hz hz' ha hb
      go_enter Tryz.func120, Tryz.ntmps120
      go_wp2_with fail
      refine HC.out.mono ?_
      rintro e w1 ⟨rfl, b1⟩
      obtain ⟨hc, hf⟩ := bcell b1
      have hsz := b1.size
      simp at hsz
      go_wp2_with fail
      go_ret
      refine ⟨ret_i64 ?_, hB.trans (b1.mono hB.size)⟩
      rw [HE.out, HR.out]

theorem sgn_mul {b b' : Bool} {z z' : Int} (hb : b = decide (z < 0)) (hb' : b' = decide (z' < 0)) : sgn (b != b') (z.natAbs * z'.natAbs) = z * z' := by
  subst hb; subst hb'
  obtain ⟨x, hx⟩ : ∃ x : Nat, z.natAbs = x := ⟨_, rfl⟩
  obtain ⟨y, hy⟩ : ∃ y : Nat, z'.natAbs = y := ⟨_, rfl⟩
  unfold sgn
  by_cases h1 : z < 0
  · have e1 : z = -(x : Int) := by omega
    by_cases h2 : z' < 0
    · have e2 : z' = -(y : Int) := by omega
      simp only [h1, h2, hx, hy]
      simp [e1, e2, Int.neg_mul_neg]
    · have e2 : z' = (y : Int) := by omega
      simp only [h1, h2, hx, hy]
      simp [e1, e2, Int.neg_mul]
  · have e1 : z = (x : Int) := by omega
    by_cases h2 : z' < 0
    · have e2 : z' = -(y : Int) := by omega
      simp only [h1, h2, hx, hy]
      simp [e1, e2, Int.mul_neg]
    · have e2 : z' = (y : Int) := by omega
      simp only [h1, h2, hx, hy]
      simp [e1, e2]

theorem cell_store {w : World} {s b o : Nat} {u v : Value} (h : b ≠ s) : ((w.setCell ⟨s, 0, none⟩ u).setCell ⟨s, 1, none⟩ v).cell? ⟨b, o, none⟩ = w.cell? ⟨b, o, none⟩ := by
  have h0 : (⟨s, 0, none⟩ : Addr) ≠ ⟨b, o, none⟩ := fun e => by injection e with e1; omega
  have h1 : (⟨s, 1, none⟩ : Addr) ≠ ⟨b, o, none⟩ := fun e => by injection e with e1; omega
  rw [World.cell?_setCell_other (h := h1), World.cell?_setCell_other (h := h0)]

theorem rzmul_N {w : World} {b b' : Bool} {A B : Option Addr} {n c m d : Nat} {z z' : Int} (ha : Zn w b A n c z) (hb : Zn w b' B m d z') (hx : (limbs z.natAbs).length ≤ 1000) (hy : (limbs z'.natAbs).length ≤ 1000) :
    Calls Tryz.prog 53 #[.agg #[.bool b, .slice A n c], .agg #[.bool b', .slice B m d]] w (GotZ w (z * z')) := by
  obtain ⟨W, hW⟩ : ∃ W, ((w.alloc (.cells #[.bool b, .slice A n c] 49)).alloc (.cells #[.bool b', .slice B m d] 49)).alloc (.cells #[.bool false, .slice none 0 0] 49) = W := ⟨_, rfl⟩
  have hB : Below w.heap.size w W := by rw [← hW]; exact (below_two w (.cells #[.bool b, .slice A n c] 49) (.cells #[.bool b', .slice B m d] 49)).alloc (by simp; omega) (.cells #[.bool false, .slice none 0 0] 49)
  have hsz : W.heap.size = w.heap.size + 3 := by rw [← hW]; simp
  have hBd : Below w.heap.size w W.drew := below_drewN hB 1
  have ha' : Num W.drew A n c z.natAbs := ha.1.on hBd
  have hb' : Num W.drew B m d z'.natAbs := hb.1.on hBd
  have c1 : W.cell? ⟨w.heap.size, 0, none⟩ = some (.bool b) := by rw [← hW]; simp [go_sem]
  have c2 : W.cell? ⟨w.heap.size, 1, none⟩ = some (.slice A n c) := by rw [← hW]; simp [go_sem]
  have c3 : W.cell? ⟨w.heap.size + 1, 0, none⟩ = some (.bool b') := by rw [← hW]; simp [go_sem]
  have c4 : W.cell? ⟨w.heap.size + 1, 1, none⟩ = some (.slice B m d) := by rw [← hW]; simp [go_sem]
  have c5 : W.cell? ⟨w.heap.size + 1 + 1, 0, none⟩ = some (.bool false) := by rw [← hW]; simp [go_sem]
  have c6 : W.cell? ⟨w.heap.size + 1 + 1, 1, none⟩ = some (.slice none 0 0) := by rw [← hW]; simp [go_sem]
  have c7 : W.frozen? ⟨w.heap.size + 1 + 1, 0, none⟩ = false := by rw [← hW]; simp [go_sem]
  have c8 : W.frozen? ⟨w.heap.size + 1 + 1, 1, none⟩ = false := by rw [← hW]; simp [go_sem]
  have HS : Hid (sgn (!(b == b')) (z.natAbs * z'.natAbs) = z * z') := Lib.hid (sgn_mul ha.2 hb.2)
  have hl := limbs_length_mul hx hy
  have hcall : Calls Tryz.prog 31 #[.slice A n c, .slice B m d] W.drew fun e w' => ∃ A1 n1 c1, e = .returned (.slice A1 n1 c1) ∧ Num w' A1 n1 c1 (z.natAbs * z'.natAbs) ∧ Below W.heap.size W w' := (rmul_N ha' hb' (by omega) (by omega)).mono fun _ _ ⟨A1, n1, c1, he, hm, hb⟩ => ⟨A1, n1, c1, he, hm, ⟨hb.os, hb.tape, hb.output, hb.size, hb.block⟩⟩
  have HC := Lib.hid hcall
  have HW := Lib.hid hW
  clear hcall
  go_enter Tryz.func53, Tryz.ntmps53
  go_wp2_with fail
  clear hW HW
  go_region_held3 (fun w' => w'.cell? ⟨w.heap.size, 0, none⟩ = some (.bool b) ∧ w'.cell? ⟨w.heap.size, 1, none⟩ = some (.slice A n c) ∧ w'.cell? ⟨w.heap.size + 1, 0, none⟩ = some (.bool b') ∧ w'.cell? ⟨w.heap.size + 1, 1, none⟩ = some (.slice B m d))
    (first | exact ⟨(cell_store (by omega)).trans ((hb1.cell (p := ⟨w.heap.size, 0, none⟩) (by simp; omega)).trans c1), (cell_store (by omega)).trans ((hb1.cell (p := ⟨w.heap.size, 1, none⟩) (by simp; omega)).trans c2), (cell_store (by omega)).trans ((hb1.cell (p := ⟨w.heap.size + 1, 0, none⟩) (by simp; omega)).trans c3), (cell_store (by omega)).trans ((hb1.cell (p := ⟨w.heap.size + 1, 1, none⟩) (by simp; omega)).trans c4)⟩ | go_keep | exact ⟨(hb1.cell (p := ⟨w.heap.size, 0, none⟩) (by simp; omega)).trans c1, (hb1.cell (p := ⟨w.heap.size, 1, none⟩) (by simp; omega)).trans c2, (hb1.cell (p := ⟨w.heap.size + 1, 0, none⟩) (by simp; omega)).trans c3, (hb1.cell (p := ⟨w.heap.size + 1, 1, none⟩) (by simp; omega)).trans c4⟩)
    (first
      | (go_at_call 31; (with_reducible refine HC.out.mono ?_); rintro e w1 ⟨A1, n1, k1, rfl, hm, hb1⟩)
      | (go_at_call 90; (with_reducible refine (made_N _ hm (by rw [hm.len]; omega)).mono ?_); rintro e w2 ⟨b2, A2, n2, k2, rfl, hz2, hb2⟩; replace hb1 := bK hb1 hb2; have e5 := (hb1.cell (p := ⟨w.heap.size + 1 + 1, 0, none⟩) (by simp; omega)).trans c5; have e6 := (hb1.cell (p := ⟨w.heap.size + 1 + 1, 1, none⟩) (by simp; omega)).trans c6; have e7 := (hb1.frozen (p := ⟨w.heap.size + 1 + 1, 0, none⟩) (by simp; omega)).trans c7; have e8 := (hb1.frozen (p := ⟨w.heap.size + 1 + 1, 1, none⟩) (by simp; omega)).trans c8))
  rw [HS.out] at hz2
  have HZ := Lib.hid (hz2.stored e5 e6)
  have HB : Below w.heap.size w w2 := hB.trans (hb1.mono hB.size)
  go_wp2_with fail
  refine bodyPost_ret (v := .agg #[.bool b2, .slice A2 n2 k2]) (by simp [results, Tryz.results53, go_sem, e5, e6]) rfl ⟨_, _, _, _, rfl, HZ.out, ?_⟩
  exact (HB.setCell (p := ⟨w.heap.size + 1 + 1, 0, none⟩) (show w.heap.size ≤ w.heap.size + 1 + 1 by omega) _).setCell (p := ⟨w.heap.size + 1 + 1, 1, none⟩) (show w.heap.size ≤ w.heap.size + 1 + 1 by omega) _

end Go.Proofs.YtmaolhajeoigpaaGreat

/-
  The contracts of the fourth reference: Add, Of, Int.
-/
namespace Go.Proofs.YtmaolhajeoigpaaGreat
set_option maxRecDepth 100000
set_option maxHeartbeats 2000000
open Go.RowKit

theorem sgn_same {b : Bool} {z z' : Int} (hb : b = decide (z < 0)) (hb' : b = decide (z' < 0)) : sgn b (z.natAbs + z'.natAbs) = z + z' := by
  by_cases h1 : z < 0
  · have h2 : z' < 0 := by simpa [h1] using hb.symm.trans hb'
    subst hb; unfold sgn; simp [h1]; omega
  · have h2 : ¬ z' < 0 := by have := hb.symm.trans hb'; simpa [h1] using this.symm
    subst hb; unfold sgn; simp [h1]; omega
theorem sgn_diff {b b' : Bool} {z z' : Int} (hb : b = decide (z < 0)) (hb' : b' = decide (z' < 0)) (hne : b ≠ b') (hle : z'.natAbs ≤ z.natAbs) : sgn b (z.natAbs - z'.natAbs) = z + z' := by
  subst hb; subst hb'
  unfold sgn
  by_cases h1 : z < 0
  · have h2 : ¬ z' < 0 := fun h => hne (by simp [h1, h])
    simp [h1]; omega
  · have h2 : z' < 0 := by
      by_cases h : z' < 0
      · exact h
      · exact absurd (by simp [h1, h]) hne
    simp [h1]; omega

/-- The boxes of two integers that came in, and of the one that goes out. -/
structure Box3 (w W : World) (b b' : Bool) (A B : Option Addr) (n c m d : Nat) : Prop where
  hB : Below w.heap.size w W
  sz : W.heap.size = w.heap.size + 3
  c1 : W.cell? ⟨w.heap.size, 0, none⟩ = some (.bool b)
  c2 : W.cell? ⟨w.heap.size, 1, none⟩ = some (.slice A n c)
  c3 : W.cell? ⟨w.heap.size + 1, 0, none⟩ = some (.bool b')
  c4 : W.cell? ⟨w.heap.size + 1, 1, none⟩ = some (.slice B m d)
  c5 : W.cell? ⟨w.heap.size + 1 + 1, 0, none⟩ = some (.bool false)
  c6 : W.cell? ⟨w.heap.size + 1 + 1, 1, none⟩ = some (.slice none 0 0)
  c7 : W.frozen? ⟨w.heap.size + 1 + 1, 0, none⟩ = false
  c8 : W.frozen? ⟨w.heap.size + 1 + 1, 1, none⟩ = false
theorem box3 {w W : World} {b b' : Bool} {A B : Option Addr} {n c m d : Nat} (hW : ((w.alloc (.cells #[.bool b, .slice A n c] 49)).alloc (.cells #[.bool b', .slice B m d] 49)).alloc (.cells #[.bool false, .slice none 0 0] 49) = W) : Box3 w W b b' A B n c m d := by
  refine ⟨?_, ?_, ?_, ?_, ?_, ?_, ?_, ?_, ?_, ?_⟩ <;> rw [← hW]
  · exact (below_two w (.cells #[.bool b, .slice A n c] 49) (.cells #[.bool b', .slice B m d] 49)).alloc (by simp; omega) (.cells #[.bool false, .slice none 0 0] 49)
  all_goals simp [go_sem]
theorem Box3.on {w W W' : World} {b b' : Bool} {A B : Option Addr} {n c m d : Nat} (h : Box3 w W b b' A B n c m d) (hb : Below W.heap.size W W') : Below w.heap.size w W' ∧ w.heap.size + 3 ≤ W'.heap.size ∧ W'.cell? ⟨w.heap.size, 0, none⟩ = some (.bool b) ∧ W'.cell? ⟨w.heap.size, 1, none⟩ = some (.slice A n c) ∧ W'.cell? ⟨w.heap.size + 1, 0, none⟩ = some (.bool b') ∧ W'.cell? ⟨w.heap.size + 1, 1, none⟩ = some (.slice B m d) ∧
    W'.cell? ⟨w.heap.size + 1 + 1, 0, none⟩ = some (.bool false) ∧ W'.cell? ⟨w.heap.size + 1 + 1, 1, none⟩ = some (.slice none 0 0) ∧ W'.frozen? ⟨w.heap.size + 1 + 1, 0, none⟩ = false ∧ W'.frozen? ⟨w.heap.size + 1 + 1, 1, none⟩ = false := by
  have hs := h.sz
  have hs' := hb.size
  refine ⟨h.hB.trans (hb.mono h.hB.size), by omega, ?_, ?_, ?_, ?_, ?_, ?_, ?_, ?_⟩
  · exact (hb.cell (p := ⟨w.heap.size, 0, none⟩) (by simp; omega)).trans h.c1
  · exact (hb.cell (p := ⟨w.heap.size, 1, none⟩) (by simp; omega)).trans h.c2
  · exact (hb.cell (p := ⟨w.heap.size + 1, 0, none⟩) (by simp; omega)).trans h.c3
  · exact (hb.cell (p := ⟨w.heap.size + 1, 1, none⟩) (by simp; omega)).trans h.c4
  · exact (hb.cell (p := ⟨w.heap.size + 1 + 1, 0, none⟩) (by simp; omega)).trans h.c5
  · exact (hb.cell (p := ⟨w.heap.size + 1 + 1, 1, none⟩) (by simp; omega)).trans h.c6
  · exact (hb.frozen (p := ⟨w.heap.size + 1 + 1, 0, none⟩) (by simp; omega)).trans h.c7
  · exact (hb.frozen (p := ⟨w.heap.size + 1 + 1, 1, none⟩) (by simp; omega)).trans h.c8

theorem below_undrew {W w' : World} (hb : Below W.drew.heap.size W.drew w') : Below W.heap.size W w' := ⟨hb.os, hb.tape, hb.output, hb.size, hb.block⟩

theorem rzadd_same {w : World} {b : Bool} {A B : Option Addr} {n c m d : Nat} {z z' : Int} (ha : Zn w b A n c z) (hb : Zn w b B m d z') (hx : (limbs z.natAbs).length ≤ 1000) (hy : (limbs z'.natAbs).length ≤ 1000) :
    Calls Tryz.prog 129 #[.agg #[.bool b, .slice A n c], .agg #[.bool b, .slice B m d]] w (GotZ w (z + z')) := by
  obtain ⟨W, hW⟩ : ∃ W, ((w.alloc (.cells #[.bool b, .slice A n c] 49)).alloc (.cells #[.bool b, .slice B m d] 49)).alloc (.cells #[.bool false, .slice none 0 0] 49) = W := ⟨_, rfl⟩
  have X := box3 hW
  have hBd : Below w.heap.size w W.drew := below_drewN X.hB 1
  have ha' : Num W.drew A n c z.natAbs := ha.1.on hBd
  have hb' : Num W.drew B m d z'.natAbs := hb.1.on hBd
  have HS := Lib.hid (sgn_same ha.2 hb.2)
  have hl := limbs_length_add hx hy
  have hcall : Calls Tryz.prog 59 #[.slice A n c, .slice B m d] W.drew fun e w' => ∃ A1 n1 c1, e = .returned (.slice A1 n1 c1) ∧ Num w' A1 n1 c1 (z.natAbs + z'.natAbs) ∧ Below W.heap.size W w' := (radd_N ha' hb' (by omega) (by omega)).mono fun _ _ ⟨A1, n1, c1, he, hm, hb⟩ => ⟨A1, n1, c1, he, hm, below_undrew hb⟩
  have HC := Lib.hid hcall
  have hc1 := X.c1
  have hc2 := X.c2
  have hc3 := X.c3
  have hc4 := X.c4
  clear hcall
  go_enter Tryz.func129, Tryz.ntmps129
  go_wp2_with fail
  clear hW
  go_region_held3 (fun w' => w'.cell? ⟨w.heap.size, 0, none⟩ = some (.bool b) ∧ w'.cell? ⟨w.heap.size, 1, none⟩ = some (.slice A n c) ∧ w'.cell? ⟨w.heap.size + 1, 0, none⟩ = some (.bool b) ∧ w'.cell? ⟨w.heap.size + 1, 1, none⟩ = some (.slice B m d))
    (first | exact ⟨(cell_store (by omega)).trans (X.on hb1).2.2.1, (cell_store (by omega)).trans (X.on hb1).2.2.2.1, (cell_store (by omega)).trans (X.on hb1).2.2.2.2.1, (cell_store (by omega)).trans (X.on hb1).2.2.2.2.2.1⟩ | go_keep | exact ⟨(X.on hb1).2.2.1, (X.on hb1).2.2.2.1, (X.on hb1).2.2.2.2.1, (X.on hb1).2.2.2.2.2.1⟩)
    (first
      | (go_at_call 59; (with_reducible refine HC.out.mono ?_); rintro e w1 ⟨A1, n1, k1, rfl, hm, hb1⟩)
      | (go_at_call 90; (with_reducible refine (made_N _ hm (by rw [hm.len]; omega)).mono ?_); rintro e w2 ⟨b2, A2, n2, k2, rfl, hz2, hb2⟩; replace hb1 := bK hb1 hb2; have e5 := (X.on hb1).2.2.2.2.2.2.1; have e6 := (X.on hb1).2.2.2.2.2.2.2.1; have e7 := (X.on hb1).2.2.2.2.2.2.2.2.1; have e8 := (X.on hb1).2.2.2.2.2.2.2.2.2))
  rw [HS.out] at hz2
  have HZ := Lib.hid (hz2.stored e5 e6)
  have HB := (X.on hb1).1
  go_wp2_with fail
  refine bodyPost_ret (v := .agg #[.bool b2, .slice A2 n2 k2]) (by simp [results, Tryz.results129, go_sem, e5, e6]) rfl ⟨_, _, _, _, rfl, HZ.out, ?_⟩
  exact (HB.setCell (p := ⟨w.heap.size + 1 + 1, 0, none⟩) (show w.heap.size ≤ w.heap.size + 1 + 1 by omega) _).setCell (p := ⟨w.heap.size + 1 + 1, 1, none⟩) (show w.heap.size ≤ w.heap.size + 1 + 1 by omega) _

theorem rzadd_first {w : World} {b b' : Bool} {A B : Option Addr} {n c m d : Nat} {z z' : Int} (ha : Zn w b A n c z) (hb : Zn w b' B m d z') (hx : (limbs z.natAbs).length ≤ 1000) (hy : (limbs z'.natAbs).length ≤ 1000) (hne : b ≠ b') (hle : z'.natAbs ≤ z.natAbs) :
    Calls Tryz.prog 129 #[.agg #[.bool b, .slice A n c], .agg #[.bool b', .slice B m d]] w (GotZ w (z + z')) := by
  obtain ⟨W, hW⟩ : ∃ W, ((w.alloc (.cells #[.bool b, .slice A n c] 49)).alloc (.cells #[.bool b', .slice B m d] 49)).alloc (.cells #[.bool false, .slice none 0 0] 49) = W := ⟨_, rfl⟩
  have X := box3 hW
  have ha' := ha.1.on X.hB
  have hb' := hb.1.on X.hB
  have HS := Lib.hid (sgn_diff ha.2 hb.2 hne hle)
  have hl : (limbs (z.natAbs - z'.natAbs)).length ≤ 1000 := Nat.le_trans (limbs_length_mono (Nat.sub_le _ _)) (by assumption)
  have hcm : 0 ≤ cmpN z.natAbs z'.natAbs := by
    rcases Nat.lt_or_ge z'.natAbs z.natAbs with h | h
    · rw [cmpN_gt h]; omega
    · rw [cmpN_zero.2 (by omega)]; omega
  have hneb : (b == b') = false := by simp [hne]
  have hc1 := X.c1
  have hc2 := X.c2
  have hc3 := X.c3
  have hc4 := X.c4
  go_enter Tryz.func129, Tryz.ntmps129
  go_wp2_with fail
  clear hW
  refine (rcmp_N ha' hb' (by omega) (by omega)).mono ?_
  rintro e w1 ⟨rfl, b1⟩
  have ha1 := ha'.on b1
  have hb1' := hb'.on b1
  obtain ⟨-, -, d1, d2, d3, d4, -, -, -, -⟩ := X.on b1
  clear ha' hb' hc1 hc2 hc3 hc4
  go_wp2_with fail
  refine (rsub_N ha1 hb1' (by omega) (by omega) hle).mono ?_
  rintro e w2 ⟨A2, n2, c2, rfl, hm, b2⟩
  have b12 := b1.trans (b2.mono b1.size)
  obtain ⟨-, -, f1, f2, f3, f4, -, -, -, -⟩ := X.on b12
  clear ha1 hb1' d1 d2 d3 d4 b1 b2
  go_wp2_with fail
  refine (made_N _ hm (by rw [hm.len]; omega)).mono ?_
  rintro e w3 ⟨b3, A3, n3, k3, rfl, hz3, b3'⟩
  have b13 := b12.trans (b3'.mono b12.size)
  obtain ⟨HB, -, -, -, -, -, e5, e6, e7, e8⟩ := X.on b13
  rw [HS.out] at hz3
  have HZ := Lib.hid (hz3.stored e5 e6)
  clear b12 b13 b3' f1 f2 f3 f4 hz3
  go_wp2_with fail
  refine bodyPost_ret (v := .agg #[.bool b3, .slice A3 n3 k3]) (by simp [results, Tryz.results129, go_sem, e5, e6]) rfl ⟨_, _, _, _, rfl, HZ.out, ?_⟩
  exact (HB.setCell (p := ⟨w.heap.size + 1 + 1, 0, none⟩) (show w.heap.size ≤ w.heap.size + 1 + 1 by omega) _).setCell (p := ⟨w.heap.size + 1 + 1, 1, none⟩) (show w.heap.size ≤ w.heap.size + 1 + 1 by omega) _

theorem rzadd_second {w : World} {b b' : Bool} {A B : Option Addr} {n c m d : Nat} {z z' : Int} (ha : Zn w b A n c z) (hb : Zn w b' B m d z') (hx : (limbs z.natAbs).length ≤ 1000) (hy : (limbs z'.natAbs).length ≤ 1000) (hne : b ≠ b') (hlt : z.natAbs < z'.natAbs) :
    Calls Tryz.prog 129 #[.agg #[.bool b, .slice A n c], .agg #[.bool b', .slice B m d]] w (GotZ w (z + z')) := by
  obtain ⟨W, hW⟩ : ∃ W, ((w.alloc (.cells #[.bool b, .slice A n c] 49)).alloc (.cells #[.bool b', .slice B m d] 49)).alloc (.cells #[.bool false, .slice none 0 0] 49) = W := ⟨_, rfl⟩
  have X := box3 hW
  have ha' := ha.1.on X.hB
  have hb' := hb.1.on X.hB
  have HS := Lib.hid ((sgn_diff hb.2 ha.2 (fun e => hne e.symm) (by omega)).trans (Int.add_comm z' z))
  have hl : (limbs (z'.natAbs - z.natAbs)).length ≤ 1000 := Nat.le_trans (limbs_length_mono (Nat.sub_le _ _)) (by assumption)
  have hcm : ¬ 0 ≤ cmpN z.natAbs z'.natAbs := by rw [cmpN_lt hlt]; omega
  have hneb : (b == b') = false := by simp [hne]
  have hc1 := X.c1
  have hc2 := X.c2
  have hc3 := X.c3
  have hc4 := X.c4
  go_enter Tryz.func129, Tryz.ntmps129
  go_wp2_with fail
  clear hW
  refine (rcmp_N ha' hb' (by omega) (by omega)).mono ?_
  rintro e w1 ⟨rfl, b1⟩
  have ha1 := ha'.on b1
  have hb1' := hb'.on b1
  obtain ⟨-, -, d1, d2, d3, d4, -, -, -, -⟩ := X.on b1
  clear ha' hb' hc1 hc2 hc3 hc4
  go_wp2_with fail
  refine (rsub_N hb1' ha1 (by omega) (by omega) (by omega)).mono ?_
  rintro e w2 ⟨A2, n2, c2, rfl, hm, b2⟩
  have b12 := b1.trans (b2.mono b1.size)
  obtain ⟨-, -, f1, f2, f3, f4, -, -, -, -⟩ := X.on b12
  clear ha1 hb1' d1 d2 d3 d4 b1 b2
  go_wp2_with fail
  refine (made_N _ hm (by rw [hm.len]; omega)).mono ?_
  rintro e w3 ⟨b3, A3, n3, k3, rfl, hz3, b3'⟩
  have b13 := b12.trans (b3'.mono b12.size)
  obtain ⟨HB, -, -, -, -, -, e5, e6, e7, e8⟩ := X.on b13
  rw [HS.out] at hz3
  have HZ := Lib.hid (hz3.stored e5 e6)
  clear b12 b13 b3' f1 f2 f3 f4 hz3
  go_wp2_with fail
  refine bodyPost_ret (v := .agg #[.bool b3, .slice A3 n3 k3]) (by simp [results, Tryz.results129, go_sem, e5, e6]) rfl ⟨_, _, _, _, rfl, HZ.out, ?_⟩
  exact (HB.setCell (p := ⟨w.heap.size + 1 + 1, 0, none⟩) (show w.heap.size ≤ w.heap.size + 1 + 1 by omega) _).setCell (p := ⟨w.heap.size + 1 + 1, 1, none⟩) (show w.heap.size ≤ w.heap.size + 1 + 1 by omega) _

theorem rzadd_N {w : World} {b b' : Bool} {A B : Option Addr} {n c m d : Nat} {z z' : Int} (ha : Zn w b A n c z) (hb : Zn w b' B m d z') (hx : (limbs z.natAbs).length ≤ 1000) (hy : (limbs z'.natAbs).length ≤ 1000) :
    Calls Tryz.prog 129 #[.agg #[.bool b, .slice A n c], .agg #[.bool b', .slice B m d]] w (GotZ w (z + z')) := by
  by_cases h : b = b'
  · subst h; exact rzadd_same ha hb hx hy
  · rcases Nat.lt_or_ge z.natAbs z'.natAbs with h1 | h1
    · exact rzadd_second ha hb hx hy h h1
    · exact rzadd_first ha hb hx hy h h1

end Go.Proofs.YtmaolhajeoigpaaGreat

/-
  The contracts of the fourth reference: Of, Int.
-/
namespace Go.Proofs.YtmaolhajeoigpaaGreat
set_option maxRecDepth 100000
set_option maxHeartbeats 2000000
open Go.RowKit

/-- An integer of 64 bits. -/
def I64 (z : Int) : Prop := -9223372036854775808 ≤ z ∧ z ≤ 9223372036854775807
theorem I64.abs {z : Int} (h : I64 z) : z.natAbs < B64 := by unfold I64 at h; unfold B64; omega

theorem sgn_of {b : Bool} {z : Int} (hb : b = decide (z < 0)) : sgn b z.natAbs = z := by
  subst hb; unfold sgn
  by_cases h : z < 0
  · simp [h]; omega
  · simp [h]; omega

theorem rzof_N (w : World) (z : Int) (h : I64 z) : Calls Tryz.prog 54 #[.int .i64 z] w (GotZ w z) := by
  have hx := h.abs
  obtain ⟨x, hxe⟩ : ∃ x, z.natAbs = x := ⟨_, rfl⟩
  rw [hxe] at hx
  obtain ⟨W, hW⟩ : ∃ W, w.alloc (.cells #[.bool false, .slice none 0 0] 49) = W := ⟨_, rfl⟩
  have hB : Below w.heap.size w W := by rw [← hW]; exact below_one w _
  have hsz : W.heap.size = w.heap.size + 1 := by rw [← hW]; simp
  have c1 : W.cell? ⟨w.heap.size, 0, none⟩ = some (.bool false) := by rw [← hW]; simp [go_sem]
  have c2 : W.cell? ⟨w.heap.size, 1, none⟩ = some (.slice none 0 0) := by rw [← hW]; simp [go_sem]
  have c3 : W.frozen? ⟨w.heap.size, 0, none⟩ = false := by rw [← hW]; simp [go_sem]
  have c4 : W.frozen? ⟨w.heap.size, 1, none⟩ = false := by rw [← hW]; simp [go_sem]
  have HSZ := Lib.hid hsz
  clear hsz
  have hl := len_one hx
  by_cases hz : z < 0
  · have hs : sgn true x = z := by rw [← hxe]; exact sgn_of (by simp [hz])
    have e1 : IntKind.u64.wrap (IntKind.u64.wrap (-(z + 1)) + 1) = (x : Int) := by
      unfold I64 at h; rw [IntKind.wrap_u64, IntKind.wrap_u64]; omega
    have e2 : IntKind.i64.wrap (z + 1) = z + 1 := IntWalk.i64_in _ (by unfold I64 at h; omega)
    have e3 : IntKind.i64.wrap (-(z + 1)) = -(z + 1) := IntWalk.i64_in _ (by unfold I64 at h; omega)
    have HS := Lib.hid hs
    clear hs hxe
    go_enter Tryz.func54, Tryz.ntmps54
    go_wp2_with fail
    clear hW e1 e2 e3
    refine (rof_N W x hx).mono ?_
    rintro e w1 ⟨A1, n1, k1, rfl, hm, b1⟩
    go_wp2_with fail
    refine (made_N _ hm (by rw [hm.len]; omega)).mono ?_
    rintro e w2 ⟨b2, A2, n2, k2, rfl, hz2, b2'⟩
    have b12 := b1.trans (b2'.mono b1.size)
    have hsz := HSZ.out
    have g1 := (b12.cell (p := ⟨w.heap.size, 0, none⟩) (by simp; omega)).trans c1
    have g2 := (b12.cell (p := ⟨w.heap.size, 1, none⟩) (by simp; omega)).trans c2
    have g3 := (b12.frozen (p := ⟨w.heap.size, 0, none⟩) (by simp; omega)).trans c3
    have g4 := (b12.frozen (p := ⟨w.heap.size, 1, none⟩) (by simp; omega)).trans c4
    rw [HS.out] at hz2
    have HZ := Lib.hid (hz2.stored g1 g2)
    have HB := hB.trans (b12.mono hB.size)
    clear hsz b12 b1 b2' hz2 hm
    go_wp2_with fail
    refine bodyPost_ret (v := .agg #[.bool b2, .slice A2 n2 k2]) (by simp [results, Tryz.results54, go_sem, g1, g2]) rfl ⟨_, _, _, _, rfl, HZ.out, ?_⟩
    exact (HB.setCell (p := ⟨w.heap.size, 0, none⟩) (Nat.le_refl _) _).setCell (p := ⟨w.heap.size, 1, none⟩) (Nat.le_refl _) _
  · have hs : sgn false x = z := by rw [← hxe]; exact sgn_of (by simp [hz])
    have e1 : IntKind.u64.wrap z = (x : Int) := by
      unfold I64 at h; rw [IntKind.wrap_u64]; omega
    have HS := Lib.hid hs
    clear hs hxe
    go_enter Tryz.func54, Tryz.ntmps54
    go_wp2_with fail
    clear hW e1
    refine (rof_N W x hx).mono ?_
    rintro e w1 ⟨A1, n1, k1, rfl, hm, b1⟩
    go_wp2_with fail
    refine (made_N _ hm (by rw [hm.len]; omega)).mono ?_
    rintro e w2 ⟨b2, A2, n2, k2, rfl, hz2, b2'⟩
    have b12 := b1.trans (b2'.mono b1.size)
    have hsz := HSZ.out
    have g1 := (b12.cell (p := ⟨w.heap.size, 0, none⟩) (by simp; omega)).trans c1
    have g2 := (b12.cell (p := ⟨w.heap.size, 1, none⟩) (by simp; omega)).trans c2
    have g3 := (b12.frozen (p := ⟨w.heap.size, 0, none⟩) (by simp; omega)).trans c3
    have g4 := (b12.frozen (p := ⟨w.heap.size, 1, none⟩) (by simp; omega)).trans c4
    rw [HS.out] at hz2
    have HZ := Lib.hid (hz2.stored g1 g2)
    have HB := hB.trans (b12.mono hB.size)
    clear hsz b12 b1 b2' hz2 hm
    go_wp2_with fail
    refine bodyPost_ret (v := .agg #[.bool b2, .slice A2 n2 k2]) (by simp [results, Tryz.results54, go_sem, g1, g2]) rfl ⟨_, _, _, _, rfl, HZ.out, ?_⟩
    exact (HB.setCell (p := ⟨w.heap.size, 0, none⟩) (Nat.le_refl _) _).setCell (p := ⟨w.heap.size, 1, none⟩) (Nat.le_refl _) _

theorem abs_sgn {b : Bool} {z : Int} (hb : b = decide (z < 0)) (hz : z < 0) : b = true := by rw [hb]; simp [hz]
theorem abs_sgn' {b : Bool} {z : Int} (hb : b = decide (z < 0)) (hz : ¬ z < 0) : b = false := by rw [hb]; simp [hz]

theorem rzint_yes {w : World} {b : Bool} {A : Option Addr} {n c : Nat} {z : Int} (ha : Zn w b A n c z) (h : I64 z) :
    Calls Tryz.prog 33 #[.agg #[.bool b, .slice A n c]] w (GotV w (.tuple #[.int .i64 z, .bool true])) := by
  have hx := h.abs
  obtain ⟨x, hxe⟩ : ∃ x, z.natAbs = x := ⟨_, rfl⟩
  rw [hxe] at hx
  have hB := below_one w (.cells #[.bool b, .slice A n c] 49)
  have ha' := ha.1.on hB
  rw [hxe] at ha'
  have hl := len_one hx
  have hn : n ≤ 9223372036854775807 := by rw [ha'.len]; omega
  have HC := Lib.hid (rsmall_any A n c x _ ha' hn hx)
  have hs := ha.2
  by_cases hz : z < 0
  · have hbt := abs_sgn hs hz
    subst hbt
    by_cases hm : x = 9223372036854775808
    · have e1 : ((x : Int) == 9223372036854775808) = true := by simp; omega
      have e2 : ¬ (9223372036854775808 : Int) < (x : Int) := by omega
      have e3 : z = -9223372036854775808 := by omega
      subst e3
      clear hm hxe hs ha hz
      go_enter Tryz.func33, Tryz.ntmps33
      go_wp2_with fail
      refine HC.out.mono ?_
      rintro e w' ⟨rfl, rfl⟩
      go_wp2_with fail
      go_ret2
      exact ⟨rfl, hB⟩
    · have hx2 : x < 9223372036854775808 := by unfold I64 at h; omega
      have e1 : ((x : Int) == 9223372036854775808) = false := by simp; omega
      have e2 : ¬ (9223372036854775808 : Int) < (x : Int) := by omega
      have e3 : IntKind.i64.wrap (x : Int) = (x : Int) := IntWalk.i64_in _ (by omega)
      have e4 : IntKind.i64.wrap (-(x : Int)) = z := by rw [IntWalk.i64_in _ (by omega)]; omega
      have e5 : -(x : Int) = z := by omega
      have E5 := Lib.hid e5
      clear hm hxe hs ha hz e5
      go_enter Tryz.func33, Tryz.ntmps33
      go_wp2_with fail
      refine HC.out.mono ?_
      rintro e w' ⟨rfl, rfl⟩
      go_wp2_with fail
      go_ret2
      exact ⟨rfl, hB⟩
  · have hbt := abs_sgn' hs hz
    subst hbt
    have hx2 : x ≤ 9223372036854775807 := by unfold I64 at h; omega
    have e0 : ¬ (9223372036854775807 : Int) < (x : Int) := by omega
    have e1 : ((x : Int) == 9223372036854775808) = false := by simp; omega
    have e2 : ¬ (9223372036854775808 : Int) < (x : Int) := by omega
    have e3 : IntKind.i64.wrap (x : Int) = z := by rw [IntWalk.i64_in _ (by omega)]; omega
    clear hxe hs ha hz
    go_enter Tryz.func33, Tryz.ntmps33
    go_wp2_with fail
    refine HC.out.mono ?_
    rintro e w' ⟨rfl, rfl⟩
    go_wp2_with fail
    go_ret2
    exact ⟨rfl, hB⟩

theorem rzint_no {w : World} {b : Bool} {A : Option Addr} {n c : Nat} {z : Int} (ha : Zn w b A n c z) (hx : (limbs z.natAbs).length ≤ 1000000) (h : ¬ I64 z) :
    Calls Tryz.prog 33 #[.agg #[.bool b, .slice A n c]] w (GotV w (.tuple #[.int .i64 0, .bool false])) := by
  obtain ⟨x, hxe⟩ : ∃ x, z.natAbs = x := ⟨_, rfl⟩
  rw [hxe] at hx
  have hB := below_one w (.cells #[.bool b, .slice A n c] 49)
  have ha' := ha.1.on hB
  rw [hxe] at ha'
  have hn : n ≤ 9223372036854775807 := by rw [ha'.len]; omega
  have hs := ha.2
  rcases Nat.lt_or_ge x B64 with hlt | hge
  · have HC := Lib.hid (rsmall_any A n c x _ ha' hn hlt)
    by_cases hz : z < 0
    · have hbt := abs_sgn hs hz
      subst hbt
      have e2 : (9223372036854775808 : Int) < (x : Int) := by unfold I64 at h; omega
      clear hxe hs ha hz
      go_enter Tryz.func33, Tryz.ntmps33
      go_wp2_with fail
      refine HC.out.mono ?_
      rintro e w' ⟨rfl, rfl⟩
      go_wp2_with fail
      go_ret2
      exact ⟨rfl, hB⟩
    · have hbt := abs_sgn' hs hz
      subst hbt
      have e2 : (9223372036854775807 : Int) < (x : Int) := by unfold I64 at h; omega
      clear hxe hs ha hz
      go_enter Tryz.func33, Tryz.ntmps33
      go_wp2_with fail
      refine HC.out.mono ?_
      rintro e w' ⟨rfl, rfl⟩
      go_wp2_with fail
      go_ret2
      exact ⟨rfl, hB⟩
  · have HC := Lib.hid (rsmall_great A n c x _ ha' hn hge)
    clear hxe hs ha
    go_enter Tryz.func33, Tryz.ntmps33
    go_wp2_with fail
    refine HC.out.mono ?_
    rintro e w' ⟨rfl, rfl⟩
    go_wp2_with fail
    go_ret2
    exact ⟨rfl, hB⟩
end Go.Proofs.YtmaolhajeoigpaaGreat

/-
  Rationals: one number by another one, reduced; how many limbs they have; which is greater.
-/
namespace Go.Proofs.YtmaolhajeoigpaaGreat
open Go.RowKit

/-- Which of two rationals is greater. -/
def cmpQ (a b : Rat) : Int := if a < b then -1 else if b < a then 1 else 0
theorem cmpQ_eq (a b : Rat) : cmpZ (a.num * (b.den : Int)) (b.num * (a.den : Int)) = cmpQ a b := by
  unfold cmpQ cmpZ; simp only [Rat.lt_iff]
theorem cmpQ_bd (a b : Rat) : -1 ≤ cmpQ a b ∧ cmpQ a b ≤ 1 := by unfold cmpQ; split <;> (try split) <;> omega

theorem mkRat_den (p : Int) (q : Nat) (hq : q ≠ 0) : (mkRat p q).den = q / Nat.gcd p.natAbs q := by
  rw [Rat.den_mkRat, if_neg hq, Nat.gcd_comm]
theorem mkRat_num (p : Int) (q : Nat) (hq : q ≠ 0) : (mkRat p q).num = p / ((Nat.gcd p.natAbs q : Nat) : Int) := by
  rw [Rat.num_mkRat, if_neg hq, Nat.gcd_comm]
theorem natAbs_ediv (p : Int) (g : Nat) (hg : g ∣ p.natAbs) : (p / (g : Int)).natAbs = p.natAbs / g := by
  rcases Nat.eq_zero_or_pos g with h0 | h0
  · subst h0; simp
  · obtain ⟨k, hk⟩ := hg
    have h1 : p = (g : Int) * (k : Int) ∨ p = (g : Int) * (-(k : Int)) := by
      rcases Int.natAbs_eq p with h | h
      · left; rw [h, hk]; simp
      · right; rw [h, hk]; simp [Int.mul_neg]
    have hg0 : (g : Int) ≠ 0 := by omega
    rw [hk, Nat.mul_div_cancel_left _ h0]
    rcases h1 with h | h
    · rw [h, Int.mul_ediv_cancel_left _ hg0]; simp
    · rw [h, Int.mul_ediv_cancel_left _ hg0]; simp
theorem mkRat_abs (p : Int) (q : Nat) (hq : q ≠ 0) : (mkRat p q).num.natAbs = p.natAbs / Nat.gcd p.natAbs q := by
  rw [mkRat_num p q hq, natAbs_ediv _ _ (Nat.gcd_dvd_left _ _)]
theorem mkRat_neg (p : Int) (q : Nat) (hq : q ≠ 0) : decide ((mkRat p q).num < 0) = decide (p < 0) := by
  have hg : 0 < Nat.gcd p.natAbs q := Nat.gcd_pos_of_pos_right _ (by omega)
  have h1 := mkRat_num p q hq
  have h2 : (mkRat p q).num * ((Nat.gcd p.natAbs q : Nat) : Int) = p := by
    rw [h1]
    refine Int.ediv_mul_cancel ?_
    exact Int.ofNat_dvd_left.2 (Nat.gcd_dvd_left _ _)
  have h3 : (mkRat p q).num < 0 ↔ p < 0 := by
    constructor
    · intro h
      rw [← h2]
      exact Int.mul_neg_of_neg_of_pos h (by omega)
    · intro h
      rcases Int.lt_or_le (mkRat p q).num 0 with h4 | h4
      · exact h4
      · exfalso
        have := Int.mul_nonneg h4 (show (0 : Int) ≤ ((Nat.gcd p.natAbs q : Nat) : Int) by omega)
        omega
  simp only [h3]

/-- A rational both of whose sides have at most k limbs. -/
def Sz (r : Rat) (k : Nat) : Prop := (limbs r.num.natAbs).length ≤ k ∧ (limbs r.den).length ≤ k
theorem Sz.le {r : Rat} {k m : Nat} (h : Sz r k) (hk : k ≤ m) : Sz r m := ⟨Nat.le_trans h.1 hk, Nat.le_trans h.2 hk⟩
theorem sz_mk {p : Int} {q k : Nat} (hq : q ≠ 0) (hp : (limbs p.natAbs).length ≤ k) (hd : (limbs q).length ≤ k) : Sz (mkRat p q) k := by
  refine ⟨?_, ?_⟩
  · rw [mkRat_abs p q hq]; exact Nat.le_trans (limbs_length_mono (Nat.div_le_self _ _)) hp
  · rw [mkRat_den p q hq]; exact Nat.le_trans (limbs_length_mono (Nat.div_le_self _ _)) hd
theorem natAbs_over (a : Int) (b : Nat) : (a * (b : Int)).natAbs = a.natAbs * b := by rw [Int.natAbs_mul, Int.natAbs_natCast]
theorem den_mul_ne (a b : Rat) : a.den * b.den ≠ 0 := Nat.mul_ne_zero a.den_nz b.den_nz
theorem Sz.add {a b : Rat} {j k : Nat} (ha : Sz a j) (hb : Sz b k) : Sz (a + b) (j + k + 1) := by
  rw [Rat.add_def']
  refine sz_mk (den_mul_ne a b) ?_ (Nat.le_trans (limbs_length_mul ha.2 hb.2) (by omega))
  refine Nat.le_trans (limbs_length_mono (Int.natAbs_add_le _ _)) (limbs_length_add ?_ ?_)
  · rw [natAbs_over]; exact limbs_length_mul ha.1 hb.2
  · rw [natAbs_over, Nat.add_comm j k]; exact limbs_length_mul hb.1 ha.2
theorem Sz.neg {a : Rat} {j : Nat} (ha : Sz a j) : Sz (-a) j := ⟨by rw [Rat.neg_num, Int.natAbs_neg]; exact ha.1, ha.2⟩
theorem Sz.sub {a b : Rat} {j k : Nat} (ha : Sz a j) (hb : Sz b k) : Sz (a - b) (j + k + 1) := by
  rw [Rat.sub_eq_add_neg]; exact ha.add hb.neg
theorem Sz.mul {a b : Rat} {j k : Nat} (ha : Sz a j) (hb : Sz b k) : Sz (a * b) (j + k) := by
  rw [Rat.mul_def']
  refine sz_mk (den_mul_ne a b) ?_ (limbs_length_mul ha.2 hb.2)
  rw [Int.natAbs_mul]; exact limbs_length_mul ha.1 hb.1
theorem Sz.inv {a : Rat} {j : Nat} (ha : Sz a j) (h0 : a.num ≠ 0) : Sz a⁻¹ j := by
  refine ⟨?_, ?_⟩
  · rw [Rat.num_inv, Int.natAbs_mul, Int.natAbs_sign_of_ne_zero h0, Nat.one_mul, Int.natAbs_natCast]; exact ha.2
  · rw [Rat.den_inv, if_neg h0]; exact ha.1
theorem Sz.div {a b : Rat} {j k : Nat} (ha : Sz a j) (hb : Sz b k) (h0 : b.num ≠ 0) : Sz (a / b) (j + k) := by
  rw [Rat.div_def]; exact ha.mul (hb.inv h0)
/-- A quotient, as it is made. -/
def dnum (a b : Rat) : Int := if b.num < 0 then -(a.num * (b.den : Int)) else a.num * (b.den : Int)
theorem div_mk (a b : Rat) (h0 : b.num ≠ 0) : a / b = mkRat (a.num * sgn (decide (b.num < 0)) b.den) (a.den * b.num.natAbs) := by
  rw [Rat.div_def, Rat.mul_def', Rat.num_inv, Rat.den_inv, if_neg h0]
  congr 2
  unfold sgn
  by_cases h : b.num < 0
  · simp [h, Int.sign_eq_neg_one_of_neg h]
  · have : 0 < b.num := by omega
    simp [h, Int.sign_eq_one_of_pos this]
/-- Two sides that nothing divides are a rational's. -/
theorem rat_of (p : Int) (q : Nat) (hq : q ≠ 0) (hg : Nat.gcd p.natAbs q = 1) : ∃ r : Rat, r.num = p ∧ r.den = q := ⟨⟨p, q, hq, hg⟩, rfl, rfl⟩
theorem of_num (n : Int) : ((n : Int) : Rat).num = n := rfl
theorem of_den (n : Int) : ((n : Int) : Rat).den = 1 := rfl
theorem sz_of {n : Int} (h : (limbs n.natAbs).length ≤ 1) : Sz ((n : Int) : Rat) 1 := ⟨h, by rw [of_den]; exact limbs_length_le (by decide)⟩
theorem rat_inj (a b : Rat) : decide (a.num = b.num ∧ a.den = b.den) = decide (a = b) := by
  have : (a.num = b.num ∧ a.den = b.den) ↔ a = b := ⟨fun h => Rat.ext h.1 h.2, fun h => h ▸ ⟨rfl, rfl⟩⟩
  simp only [this]
end Go.Proofs.YtmaolhajeoigpaaGreat

/-
  Small helps for the laws of integers: boxes, and what is kept.
-/
namespace Go.Proofs.YtmaolhajeoigpaaGreat
open Go.RowKit
set_option linter.unusedVariables false

theorem Zn.ok {w : World} {b : Bool} {A : Option Addr} {n c : Nat} {z : Int} (h : Zn w b A n c z) : okZ b n (limbs z.natAbs) = true := by
  unfold okZ
  rw [limbs_canon, Bool.true_and]
  by_cases hz : z < 0
  · have h0 : 0 < n := by have := h.1.some_len (by omega); omega
    simp [h0]
  · rw [h.2]; simp [hz]
theorem len_z {z : Int} (h : z.natAbs < B64) : (limbs z.natAbs).length ≤ 300 := Nat.le_trans (len_one h) (by omega)
theorem okZ_zn {w : World} {b : Bool} {A : Option Addr} {n c : Nat} {l : List Nat} (h : Lim w.heap.size w A n c l) (hk : okZ b n l = true) : Zn w b A n c (sgn b (val l)) := by
  unfold okZ at hk
  rw [Bool.and_eq_true] at hk
  have hN := h.num hk.1
  refine ⟨by rw [sgn_abs]; exact hN, ?_⟩
  unfold sgn
  cases b
  · simp
  · have h0 : 0 < n := by simpa using hk.2
    have hl := hN.len
    have hv : val l ≠ 0 := fun e => by rw [e, limbs_zero] at hl; simp at hl; omega
    simp; omega
theorem len_z0 : (limbs (0 : Int).natAbs).length ≤ 1000000 := by rw [show (0 : Int).natAbs = 0 from rfl, limbs_zero]; simp
/-- A cell that is there stays behind a new block. -/
theorem keep_alloc {w : World} {o : Obj} {p : Addr} {v : Value} (h : w.cell? p = some v) : (w.alloc o).cell? p = some v := by
  have hlt : p.block < w.heap.size := by
    rcases Nat.lt_or_ge p.block w.heap.size with h1 | h1
    · exact h1
    · simp [World.cell?, Array.getElem?_eq_none h1] at h
  rw [World.cell?_of_block (w := w) (Below.heap_alloc w o p.block hlt)]
  exact h

theorem zlen_add {z z' : Int} {k : Nat} (h : (limbs z.natAbs).length ≤ k) (h' : (limbs z'.natAbs).length ≤ k) : (limbs (z + z').natAbs).length ≤ k + 1 :=
  Nat.le_trans (limbs_length_mono (Int.natAbs_add_le z z')) (limbs_length_add h h')
theorem zlen_mul {z z' : Int} {k m : Nat} (h : (limbs z.natAbs).length ≤ k) (h' : (limbs z'.natAbs).length ≤ m) : (limbs (z * z').natAbs).length ≤ k + m := by
  rw [Int.natAbs_mul]
  exact limbs_length_mul h h'
theorem zlen_neg {z : Int} {k : Nat} (h : (limbs z.natAbs).length ≤ k) : (limbs (-z).natAbs).length ≤ k := by
  rw [Int.natAbs_neg]
  exact h

theorem cell_lt {w : World} {p : Addr} {v : Value} (h : w.cell? p = some v) : p.block < w.heap.size := by
  rcases Nat.lt_or_ge p.block w.heap.size with h1 | h1
  · exact h1
  · simp [World.cell?, Array.getElem?_eq_none h1] at h
/-- A struct of two cells in memory. -/
def Box (W : World) (g : Nat) (b : Bool) (A : Option Addr) (n k : Nat) : Prop := W.cell? ⟨g, 0, none⟩ = some (.bool b) ∧ W.cell? ⟨g, 1, none⟩ = some (.slice A n k)
theorem Box.new (W : World) (b : Bool) (A : Option Addr) (n k : Nat) (T : TypeId) : Box (W.alloc (.cells #[.bool b, .slice A n k] T)) W.heap.size b A n k := ⟨by simp [go_sem], by simp [go_sem]⟩
theorem Box.alloc {W : World} {g : Nat} {b : Bool} {A : Option Addr} {n k : Nat} (h : Box W g b A n k) (o : Obj) : Box (W.alloc o) g b A n k := ⟨keep_alloc h.1, keep_alloc h.2⟩
theorem Box.other {W : World} {g g' : Nat} {b : Bool} {A : Option Addr} {n k : Nat} {u v : Value} (h : Box W g b A n k) (hne : g ≠ g') : Box ((W.setCell ⟨g', 0, none⟩ u).setCell ⟨g', 1, none⟩ v) g b A n k := ⟨(cell_store hne).trans h.1, (cell_store hne).trans h.2⟩
theorem Box.put {W : World} {g : Nat} {b0 : Bool} {A0 : Option Addr} {n0 k0 : Nat} (h : Box W g b0 A0 n0 k0) (b : Bool) (A : Option Addr) (n k : Nat) : Box ((W.setCell ⟨g, 0, none⟩ (.bool b)).setCell ⟨g, 1, none⟩ (.slice A n k)) g b A n k := by
  have h1 : (⟨g, 0, none⟩ : Addr) ≠ ⟨g, 1, none⟩ := fun e => by injection e with _ e2; omega
  have h2 : (⟨g, 1, none⟩ : Addr) ≠ ⟨g, 0, none⟩ := fun e => by injection e with _ e2; omega
  refine ⟨?_, ?_⟩
  · rw [World.cell?_setCell_other (h := h2)]
    exact World.cell?_setCell_same _ _ _ h.1
  · exact World.cell?_setCell_same _ _ _ ((World.cell?_setCell_other W _ _ _ h1).trans h.2)
theorem Zn.put {W : World} {g : Nat} {b b0 : Bool} {A A0 : Option Addr} {n c n0 c0 : Nat} {z : Int} (h : Zn W b A n c z) (hb : Box W g b0 A0 n0 c0) (u v : Value) : Zn ((W.setCell ⟨g, 0, none⟩ u).setCell ⟨g, 1, none⟩ v) b A n c z := by
  refine ⟨(h.1.set_other hb.1 (fun _ _ e => by cases e)).set_other (u := .slice A0 n0 c0) ?_ (fun _ _ e => by cases e), h.2⟩
  have hne : (⟨g, 0, none⟩ : Addr) ≠ ⟨g, 1, none⟩ := fun e => by injection e with _ e2; omega
  rw [World.cell?_setCell_other (h := hne)]
  exact hb.2
theorem Zn.alloc {W : World} {b : Bool} {A : Option Addr} {n c : Nat} {z : Int} (h : Zn W b A n c z) (o : Obj) : Zn (W.alloc o) b A n c z := h.on (below_one _ _)
theorem below_put {B g : Nat} {V W : World} (h : Below B V W) (hg : B ≤ g) (u v : Value) : Below B V ((W.setCell ⟨g, 0, none⟩ u).setCell ⟨g, 1, none⟩ v) := (h.setCell (p := ⟨g, 0, none⟩) hg u).setCell (p := ⟨g, 1, none⟩) hg v

/-- Behind 'top := ..': a box of two cells, and what it holds. -/
def LoneZ (V U : World) (g : Nat) (b : Bool) (A : Option Addr) (n k : Nat) (z : Int) : Prop := Box U g b A n k ∧ Zn U b A n k z ∧ Below V.heap.size V U ∧ V.heap.size ≤ g
section
variable {V wz : World} {g : Nat} {b : Bool} {A : Option Addr} {n k : Nat} {z : Int}
theorem loneZA (h : Zn wz b A n k z) (qq : Below V.heap.size V wz) (T : TypeId) : LoneZ V (wz.alloc (.cells #[.bool b, .slice A n k] T)) wz.heap.size b A n k z := ⟨Box.new wz b A n k T, h.alloc _, qq.alloc qq.size _, qq.size⟩
theorem loneZB (o0 : wz.cell? ⟨g, 0, none⟩ = some (.bool false)) (o1 : wz.cell? ⟨g, 1, none⟩ = some (.slice none 0 0)) (h : Zn wz b A n k z) (qq : Below V.heap.size V wz) (l : V.heap.size ≤ g) : LoneZ V ((wz.setCell ⟨g, 0, none⟩ (.bool b)).setCell ⟨g, 1, none⟩ (.slice A n k)) g b A n k z := have o : Box wz g false none 0 0 := ⟨o0, o1⟩; ⟨o.put b A n k, h.put o _ _, below_put qq l _ _, l⟩
end

/-- Behind 'x, y := f(..), g(..)': two boxes, and what they hold. -/
def Both (V U : World) (gx gy : Nat) (bx : Bool) (Ax : Option Addr) (nx kx : Nat) (bY : Bool) (Ay : Option Addr) (ny ky : Nat) (zx zy : Int) : Prop :=
  Box U gx bx Ax nx kx ∧ Box U gy bY Ay ny ky ∧ Zn U bx Ax nx kx zx ∧ Zn U bY Ay ny ky zy ∧ Below V.heap.size V U
section
variable {V wz : World} {gx gy : Nat} {bx bY : Bool} {Ax Ay : Option Addr} {nx kx ny ky : Nat} {zx zy : Int}
theorem pairA (hx : Zn wz bx Ax nx kx zx) (hy : Zn wz bY Ay ny ky zy) (qq : Below V.heap.size V wz) (T : TypeId) : Both V ((wz.alloc (.cells #[.bool bx, .slice Ax nx kx] T)).alloc (.cells #[.bool bY, .slice Ay ny ky] T)) wz.heap.size (wz.heap.size + 1) bx Ax nx kx bY Ay ny ky zx zy :=
  ⟨(Box.new wz bx Ax nx kx T).alloc _, by have := Box.new (wz.alloc (.cells #[.bool bx, .slice Ax nx kx] T)) bY Ay ny ky T; simpa using this, (hx.alloc _).alloc _, (hy.alloc _).alloc _, (qq.alloc qq.size _).alloc (by have := qq.size; simp; omega) _⟩
theorem pairA' (hx : Zn wz bx Ax nx kx zx) (hy : Zn wz bY Ay ny ky zy) (qq : Below V.heap.size V wz) (T : TypeId) : Both V ((wz.alloc (.cells #[.bool bY, .slice Ay ny ky] T)).alloc (.cells #[.bool bx, .slice Ax nx kx] T)) (wz.heap.size + 1) wz.heap.size bx Ax nx kx bY Ay ny ky zx zy :=
  ⟨by have := Box.new (wz.alloc (.cells #[.bool bY, .slice Ay ny ky] T)) bx Ax nx kx T; simpa using this, (Box.new wz bY Ay ny ky T).alloc _, (hx.alloc _).alloc _, (hy.alloc _).alloc _, (qq.alloc qq.size _).alloc (by have := qq.size; simp; omega) _⟩
theorem pairB (c0 : wz.cell? ⟨gx, 0, none⟩ = some (.bool false)) (c1 : wz.cell? ⟨gx, 1, none⟩ = some (.slice none 0 0)) (hx : Zn wz bx Ax nx kx zx) (hy : Zn wz bY Ay ny ky zy) (qq : Below V.heap.size V wz) (lx : V.heap.size ≤ gx) (T : TypeId) :
    Both V (((wz.setCell ⟨gx, 0, none⟩ (.bool bx)).setCell ⟨gx, 1, none⟩ (.slice Ax nx kx)).alloc (.cells #[.bool bY, .slice Ay ny ky] T)) gx wz.heap.size bx Ax nx kx bY Ay ny ky zx zy :=
  have B : Box wz gx false none 0 0 := ⟨c0, c1⟩
  ⟨(B.put bx Ax nx kx).alloc _, by have := Box.new ((wz.setCell ⟨gx, 0, none⟩ (.bool bx)).setCell ⟨gx, 1, none⟩ (.slice Ax nx kx)) bY Ay ny ky T; simpa using this, (hx.put B _ _).alloc _, (hy.put B _ _).alloc _, (below_put qq lx _ _).alloc (by have := qq.size; simp; omega) _⟩
theorem pairB' (c0 : wz.cell? ⟨gy, 0, none⟩ = some (.bool false)) (c1 : wz.cell? ⟨gy, 1, none⟩ = some (.slice none 0 0)) (hx : Zn wz bx Ax nx kx zx) (hy : Zn wz bY Ay ny ky zy) (qq : Below V.heap.size V wz) (ly : V.heap.size ≤ gy) (T : TypeId) :
    Both V (((wz.setCell ⟨gy, 0, none⟩ (.bool bY)).setCell ⟨gy, 1, none⟩ (.slice Ay ny ky)).alloc (.cells #[.bool bx, .slice Ax nx kx] T)) wz.heap.size gy bx Ax nx kx bY Ay ny ky zx zy :=
  have B : Box wz gy false none 0 0 := ⟨c0, c1⟩
  ⟨by have := Box.new ((wz.setCell ⟨gy, 0, none⟩ (.bool bY)).setCell ⟨gy, 1, none⟩ (.slice Ay ny ky)) bx Ax nx kx T; simpa using this, (B.put bY Ay ny ky).alloc _, (hx.put B _ _).alloc _, (hy.put B _ _).alloc _, (below_put qq ly _ _).alloc (by have := qq.size; simp; omega) _⟩
theorem pairC (c0 : wz.cell? ⟨gx, 0, none⟩ = some (.bool false)) (c1 : wz.cell? ⟨gx, 1, none⟩ = some (.slice none 0 0)) (d0 : wz.cell? ⟨gy, 0, none⟩ = some (.bool false)) (d1 : wz.cell? ⟨gy, 1, none⟩ = some (.slice none 0 0)) (hx : Zn wz bx Ax nx kx zx) (hy : Zn wz bY Ay ny ky zy) (qq : Below V.heap.size V wz) (lx : V.heap.size ≤ gx) (ly : V.heap.size ≤ gy) (hne : gx ≠ gy) :
    Both V ((((wz.setCell ⟨gx, 0, none⟩ (.bool bx)).setCell ⟨gx, 1, none⟩ (.slice Ax nx kx)).setCell ⟨gy, 0, none⟩ (.bool bY)).setCell ⟨gy, 1, none⟩ (.slice Ay ny ky)) gx gy bx Ax nx kx bY Ay ny ky zx zy :=
  have B : Box wz gx false none 0 0 := ⟨c0, c1⟩
  have D : Box ((wz.setCell ⟨gx, 0, none⟩ (.bool bx)).setCell ⟨gx, 1, none⟩ (.slice Ax nx kx)) gy false none 0 0 := Box.other ⟨d0, d1⟩ (Ne.symm hne)
  ⟨(B.put bx Ax nx kx).other hne, D.put bY Ay ny ky, (hx.put B _ _).put D _ _, (hy.put B _ _).put D _ _, below_put (below_put qq lx _ _) ly _ _⟩
end

/-- An integer that is right and of few limbs. -/
theorem few_zn {w : World} {b : Bool} {A : Option Addr} {n c : Nat} {l : List Nat} (m : Nat) (h : Lim w.heap.size w A n c l) (hr : (decide ((n : Int) ≤ (m : Int)) && okZ b n l) = true) : Zn w b A n c (sgn b (val l)) ∧ (limbs (sgn b (val l)).natAbs).length ≤ m := by
  rw [Bool.and_eq_true] at hr
  have h0 := okZ_zn h hr.2
  refine ⟨h0, ?_⟩
  rw [← h0.1.len]
  have := of_decide_eq_true hr.1
  omega

theorem i64_wf {n : Int} (h : (Lit.int .i64 n).wf = true) : I64 n := bounds_i64 h
theorem i32_wf {n : Int} (h : (Lit.int .i32 n).wf = true) : -2147483648 ≤ n ∧ n ≤ 2147483647 := bounds_i32 h

end Go.Proofs.YtmaolhajeoigpaaGreat

/-
  The contracts of the second reference's Gcd and Goes.
-/
namespace Go.Proofs.YtmaolhajeoigpaaGreat
set_option maxRecDepth 100000
open Go.RowKit

set_option maxHeartbeats 4000000 in
theorem rgcd_N {w : World} {A B : Option Addr} {n c m d x y : Nat} (ha : Num w A n c x) (hb : Num w B m d y) (hx : (limbs x).length ≤ 300) (hy : (limbs y).length ≤ 300) : Calls Tryz.prog 89 #[.slice A n c, .slice B m d] w (GotN w (Nat.gcd x y)) := by
  go_enter Tryz.func89, Tryz.ntmps89
  go_wp2_with fail
  go_loopg [0, 1] y (fun k av bv wr => ∃ (A' B' : Option Addr) (n' c' m' d' x' : Nat), av = .slice A' n' c' ∧ bv = .slice B' m' d' ∧ Num wr A' n' c' x' ∧ Num wr B' m' d' k ∧ (limbs x').length ≤ 300 ∧ (limbs k).length ≤ 300 ∧ Hid (Nat.gcd x' k = Nat.gcd x y) ∧ Below w.heap.size w wr)
  case atStart => exact ⟨A, B, n, c, m, d, x, rfl, rfl, ha, hb, hx, hy, Lib.hid rfl, Below.refl _ _⟩
  case round =>
    obtain ⟨A', B', n', c', m', d', x', rfl, rfl, h1, h2, l1, l2, hg, hbl⟩ := hrel
    have hm := h2.len
    by_cases h0 : gk = 0
    · subst h0
      rw [limbs_zero] at hm
      simp at hm
      subst hm
      go_wp2_with fail
      go_ret
      have e := hg.out
      rw [Nat.gcd_zero_right] at e
      rw [e] at h1
      exact ⟨_, _, _, rfl, h1, hbl⟩
    · have hm0 : 0 < m' := by have := limbs_ne_nil h0; omega
      have hmi : (0 : Int) < (m' : Int) := by omega
      have l3 := r_len (x := x') (by omega) l2
      have hg2 : Nat.gcd gk (x' % gk) = Nat.gcd x y := by rw [Nat.gcd_comm, ← Nat.gcd_rec, Nat.gcd_comm]; exact hg.out
      have HG := Lib.hid hg2
      clear hg hg2 hm
      go_wp2_with fail
      refine (rdiv_N h1 h2 (by omega) (by omega) h0).mono ?_
      rintro e w1 ⟨A1, n1, c1, B1, m1, d1, rfl, h3, h4, b1⟩
      go_wp2_with fail
      go_roundg (x' % gk)
      case measure => exact Nat.mod_lt _ (by omega)
      case rel => exact ⟨B', B1, m', d', m1, d1, gk, rfl, rfl, h2.on b1, h4, l2, l3, HG, hbl.trans (b1.mono hbl.size)⟩

end Go.Proofs.YtmaolhajeoigpaaGreat

/-
  The contracts of the fifth reference: Make, Of, Right.
-/
namespace Go.Proofs.YtmaolhajeoigpaaGreat
set_option maxRecDepth 100000
open Go.RowKit

/-- The value '.agg #[.bool b, .slice A n c, .slice B m d]' has the sides p and q. -/
def Rw (w : World) (b : Bool) (A : Option Addr) (n c : Nat) (B : Option Addr) (m d : Nat) (p : Int) (q : Nat) : Prop := Zn w b A n c p ∧ Num w B m d q
theorem Rw.on {w w' : World} {b : Bool} {A B : Option Addr} {n c m d : Nat} {p : Int} {q : Nat} (h : Rw w b A n c B m d p q) (hb : Below w.heap.size w w') : Rw w' b A n c B m d p q := ⟨h.1.on hb, h.2.on hb⟩
/-- It is the rational r. -/
def Rt (w : World) (b : Bool) (A : Option Addr) (n c : Nat) (B : Option Addr) (m d : Nat) (r : Rat) : Prop := Rw w b A n c B m d r.num r.den
theorem Rt.on {w w' : World} {b : Bool} {A B : Option Addr} {n c m d : Nat} {r : Rat} (h : Rt w b A n c B m d r) (hb : Below w.heap.size w w') : Rt w' b A n c B m d r := Rw.on h hb
/-- A call has answered a rational; and one with a code. -/
def GotRt (w : World) (r : Rat) (e : Ending) (w' : World) : Prop := ∃ b A n c B m d, e = .returned (.agg #[.bool b, .slice A n c, .slice B m d]) ∧ Rt w' b A n c B m d r ∧ Below w.heap.size w w'
def GotRp (w : World) (r : Rat) (k : Int) (e : Ending) (w' : World) : Prop := ∃ b A n c B m d, e = .returned (.tuple #[.agg #[.bool b, .slice A n c, .slice B m d], .int .i64 k]) ∧ Rt w' b A n c B m d r ∧ Below w.heap.size w w'

/-- A struct of three cells in memory. -/
def BoxR (W : World) (g : Nat) (b : Bool) (A : Option Addr) (n k : Nat) (B : Option Addr) (m d : Nat) : Prop := W.cell? ⟨g, 0, none⟩ = some (.bool b) ∧ W.cell? ⟨g, 1, none⟩ = some (.slice A n k) ∧ W.cell? ⟨g, 2, none⟩ = some (.slice B m d)
/-- What is written into it. -/
@[reducible] def putR (W : World) (g : Nat) (u v x : Value) : World := ((W.setCell ⟨g, 0, none⟩ u).setCell ⟨g, 1, none⟩ v).setCell ⟨g, 2, none⟩ x
theorem addr_ne {g i j : Nat} (h : i ≠ j) : (⟨g, i, none⟩ : Addr) ≠ ⟨g, j, none⟩ := fun e => by injection e with _ e2; omega
theorem addr_ne' {g g' i j : Nat} (h : g ≠ g') : (⟨g, i, none⟩ : Addr) ≠ ⟨g', j, none⟩ := fun e => by injection e with e1; omega
theorem cell_putR {w : World} {s b o : Nat} {u v x : Value} (h : b ≠ s) : (putR w s u v x).cell? ⟨b, o, none⟩ = w.cell? ⟨b, o, none⟩ := by
  unfold putR
  rw [World.cell?_setCell_other (h := addr_ne' (Ne.symm h)), World.cell?_setCell_other (h := addr_ne' (Ne.symm h)), World.cell?_setCell_other (h := addr_ne' (Ne.symm h))]
section
variable {W : World} {g g' : Nat} {b b0 : Bool} {A A0 B B0 : Option Addr} {n k m d n0 k0 m0 d0 : Nat}
theorem BoxR.new (W : World) (b : Bool) (A : Option Addr) (n k : Nat) (B : Option Addr) (m d : Nat) (T : TypeId) : BoxR (W.alloc (.cells #[.bool b, .slice A n k, .slice B m d] T)) W.heap.size b A n k B m d := ⟨by simp [go_sem], by simp [go_sem], by simp [go_sem]⟩
theorem BoxR.alloc (h : BoxR W g b A n k B m d) (o : Obj) : BoxR (W.alloc o) g b A n k B m d := ⟨keep_alloc h.1, keep_alloc h.2.1, keep_alloc h.2.2⟩
theorem BoxR.otherZ {u v : Value} (h : BoxR W g b A n k B m d) (hne : g ≠ g') : BoxR ((W.setCell ⟨g', 0, none⟩ u).setCell ⟨g', 1, none⟩ v) g b A n k B m d := ⟨(cell_store hne).trans h.1, (cell_store hne).trans h.2.1, (cell_store hne).trans h.2.2⟩
theorem BoxR.other {u v x : Value} (h : BoxR W g b A n k B m d) (hne : g ≠ g') : BoxR (putR W g' u v x) g b A n k B m d := ⟨(cell_putR hne).trans h.1, (cell_putR hne).trans h.2.1, (cell_putR hne).trans h.2.2⟩
theorem Box.otherR {u v x : Value} (h : Box W g b A n k) (hne : g ≠ g') : Box (putR W g' u v x) g b A n k := ⟨(cell_putR hne).trans h.1, (cell_putR hne).trans h.2⟩
theorem BoxR.put (h : BoxR W g b0 A0 n0 k0 B0 m0 d0) (b : Bool) (A : Option Addr) (n k : Nat) (B : Option Addr) (m d : Nat) : BoxR (putR W g (.bool b) (.slice A n k) (.slice B m d)) g b A n k B m d := by
  have e1 : (W.setCell ⟨g, 0, none⟩ (.bool b)).cell? ⟨g, 1, none⟩ = some (.slice A0 n0 k0) := (World.cell?_setCell_other W _ _ _ (addr_ne (by omega))).trans h.2.1
  have e2 : ((W.setCell ⟨g, 0, none⟩ (.bool b)).setCell ⟨g, 1, none⟩ (.slice A n k)).cell? ⟨g, 2, none⟩ = some (.slice B0 m0 d0) := (World.cell?_setCell_other _ _ _ _ (addr_ne (by omega))).trans ((World.cell?_setCell_other W _ _ _ (addr_ne (by omega))).trans h.2.2)
  unfold putR
  refine ⟨?_, ?_, ?_⟩
  · rw [World.cell?_setCell_other (h := addr_ne (by omega)), World.cell?_setCell_other (h := addr_ne (by omega))]
    exact World.cell?_setCell_same _ _ _ h.1
  · rw [World.cell?_setCell_other (h := addr_ne (by omega))]
    exact World.cell?_setCell_same _ _ _ e1
  · exact World.cell?_setCell_same _ _ _ e2
theorem Num.putR {A : Option Addr} {n c x : Nat} (h : Num W A n c x) (hb : BoxR W g b0 A0 n0 k0 B0 m0 d0) (u v y : Value) : Num (putR W g u v y) A n c x := by
  have e1 : (W.setCell ⟨g, 0, none⟩ u).cell? ⟨g, 1, none⟩ = some (.slice A0 n0 k0) := (World.cell?_setCell_other W _ _ _ (addr_ne (by omega))).trans hb.2.1
  have e2 : ((W.setCell ⟨g, 0, none⟩ u).setCell ⟨g, 1, none⟩ v).cell? ⟨g, 2, none⟩ = some (.slice B0 m0 d0) := (World.cell?_setCell_other _ _ _ _ (addr_ne (by omega))).trans ((World.cell?_setCell_other W _ _ _ (addr_ne (by omega))).trans hb.2.2)
  exact ((h.set_other hb.1 (fun _ _ e => by cases e)).set_other e1 (fun _ _ e => by cases e)).set_other e2 (fun _ _ e => by cases e)
theorem Zn.putR {z : Int} {c : Nat} (h : Zn W b A n c z) (hb : BoxR W g b0 A0 n0 k0 B0 m0 d0) (u v y : Value) : Zn (putR W g u v y) b A n c z := ⟨h.1.putR hb u v y, h.2⟩
theorem Rw.putR {p : Int} {q : Nat} (h : Rw W b A n k B m d p q) (hb : BoxR W g b0 A0 n0 k0 B0 m0 d0) (u v y : Value) : Rw (putR W g u v y) b A n k B m d p q := ⟨h.1.putR hb u v y, h.2.putR hb u v y⟩
theorem Rt.putR {r : Rat} (h : Rt W b A n k B m d r) (hb : BoxR W g b0 A0 n0 k0 B0 m0 d0) (u v y : Value) : Rt (putR W g u v y) b A n k B m d r := Rw.putR h hb u v y
theorem Rt.alloc {r : Rat} (h : Rt W b A n k B m d r) (o : Obj) : Rt (W.alloc o) b A n k B m d r := h.on (below_one _ _)
theorem below_putR {C g : Nat} {V W : World} (h : Below C V W) (hg : C ≤ g) (u v y : Value) : Below C V (putR W g u v y) := ((h.setCell (p := ⟨g, 0, none⟩) hg u).setCell (p := ⟨g, 1, none⟩) hg v).setCell (p := ⟨g, 2, none⟩) hg y
end

/-- Behind 'x, e := f(..)': a box, and what it holds. -/
def Lone (V U : World) (g : Nat) (b : Bool) (A : Option Addr) (n k : Nat) (B : Option Addr) (m d : Nat) (r : Rat) : Prop := BoxR U g b A n k B m d ∧ Rt U b A n k B m d r ∧ Below V.heap.size V U
section
variable {V wz : World} {g : Nat} {b : Bool} {A B : Option Addr} {n k m d : Nat} {r : Rat}
theorem loneA (h : Rt wz b A n k B m d r) (qq : Below V.heap.size V wz) (T : TypeId) : Lone V (wz.alloc (.cells #[.bool b, .slice A n k, .slice B m d] T)) wz.heap.size b A n k B m d r := ⟨BoxR.new wz b A n k B m d T, h.alloc _, qq.alloc qq.size _⟩
theorem loneB (o0 : wz.cell? ⟨g, 0, none⟩ = some (.bool false)) (o1 : wz.cell? ⟨g, 1, none⟩ = some (.slice none 0 0)) (o2 : wz.cell? ⟨g, 2, none⟩ = some (.slice none 0 0)) (h : Rt wz b A n k B m d r) (qq : Below V.heap.size V wz) (l : V.heap.size ≤ g) : Lone V (putR wz g (.bool b) (.slice A n k) (.slice B m d)) g b A n k B m d r := have o : BoxR wz g false none 0 0 none 0 0 := ⟨o0, o1, o2⟩; ⟨o.put b A n k B m d, h.putR o _ _ _, below_putR qq l _ _ _⟩
end

theorem gcd_len {p q k : Nat} (hq : q ≠ 0) (h : (limbs q).length ≤ k) : (limbs (Nat.gcd p q)).length ≤ k := Nat.le_trans (limbs_length_mono (Nat.le_of_dvd (by omega) (Nat.gcd_dvd_right p q))) h

set_option maxHeartbeats 2000000 in
theorem rtmake_N {w : World} {b : Bool} {A B : Option Addr} {n c m d q : Nat} {p : Int} (ha : Zn w b A n c p) (hb : Num w B m d q) (hq : q ≠ 0) (hx : (limbs p.natAbs).length ≤ 100) (hy : (limbs q).length ≤ 100) :
    Calls Tryz.prog 52 #[.agg #[.bool b, .slice A n c], .slice B m d] w (GotRp w (mkRat p q) 0) := by
  have hm := hb.some_len hq
  have hm0 : ((m : Int) == 0) = false := beq_eq_false_iff_ne.2 (by omega)
  have hg := Nat.gcd_pos_of_pos_right p.natAbs (show 0 < q by omega)
  have HQ := Lib.hid hg
  have HN : Hid ((mkRat p q).num.natAbs = p.natAbs / Nat.gcd p.natAbs q) := Lib.hid (mkRat_abs p q hq)
  have HD : Hid ((mkRat p q).den = q / Nat.gcd p.natAbs q) := Lib.hid (mkRat_den p q hq)
  have HS : Hid (decide ((mkRat p q).num < 0) = decide (p < 0)) := Lib.hid (mkRat_neg p q hq)
  have hgl := gcd_len (p := p.natAbs) hq hy
  obtain ⟨W, hW⟩ : ∃ W, (w.alloc (.cells #[.bool b, .slice A n c] 49)).alloc (.cells #[.bool false, .slice none 0 0, .slice none 0 0] 51) = W := ⟨_, rfl⟩
  have hB : Below w.heap.size w W := by rw [← hW]; exact below_two w _ _
  have hsz : W.heap.size = w.heap.size + 2 := by rw [← hW]; simp
  have c1 : W.cell? ⟨w.heap.size, 0, none⟩ = some (.bool b) := by rw [← hW]; simp [go_sem]
  have c2 : W.cell? ⟨w.heap.size, 1, none⟩ = some (.slice A n c) := by rw [← hW]; simp [go_sem]
  have d1 : W.cell? ⟨w.heap.size + 1, 0, none⟩ = some (.bool false) := by rw [← hW]; simp [go_sem]
  have d2 : W.cell? ⟨w.heap.size + 1, 1, none⟩ = some (.slice none 0 0) := by rw [← hW]; simp [go_sem]
  have d3 : W.cell? ⟨w.heap.size + 1, 2, none⟩ = some (.slice none 0 0) := by rw [← hW]; simp [go_sem]
  have f1 : W.frozen? ⟨w.heap.size + 1, 0, none⟩ = false := by rw [← hW]; simp [go_sem]
  have f2 : W.frozen? ⟨w.heap.size + 1, 1, none⟩ = false := by rw [← hW]; simp [go_sem]
  have f3 : W.frozen? ⟨w.heap.size + 1, 2, none⟩ = false := by rw [← hW]; simp [go_sem]
  have ha' := ha.1.on hB
  have hb' := hb.on hB
  have HSZ := Lib.hid hsz
  clear hsz hg
  go_enter Tryz.func52, Tryz.ntmps52
  go_wp2_with fail
  clear hW
  refine (rgcd_N ha' hb' (by omega) (by omega)).mono ?_
  rintro e w1 ⟨A1, n1, k1, rfl, hm1, b1⟩
  have hsz := HSZ.out
  have c1' := (b1.cell (p := ⟨w.heap.size, 0, none⟩) (by simp; omega)).trans c1
  have c2' := (b1.cell (p := ⟨w.heap.size, 1, none⟩) (by simp; omega)).trans c2
  clear hsz
  go_wp2_with fail
  refine (rdiv_N (ha'.on b1) hm1 (by omega) (by omega) (by have := HQ.out; omega)).mono ?_
  rintro e w2 ⟨A2, n2, k2, A3, n3, k3, rfl, hm2, hm3, b2⟩
  have b12 := b1.trans (b2.mono b1.size)
  go_wp2_with fail
  refine (rdiv_N (hb'.on b12) (hm1.on b2) (by omega) (by omega) (by have := HQ.out; omega)).mono ?_
  rintro e w3 ⟨A4, n4, k4, A5, n5, k5, rfl, hm4, hm5, b3⟩
  have b13 := b12.trans (b3.mono b12.size)
  have hsz := HSZ.out
  have g1 := (b13.cell (p := ⟨w.heap.size, 0, none⟩) (by simp; omega)).trans c1
  have e1 := (b13.cell (p := ⟨w.heap.size + 1, 0, none⟩) (by simp; omega)).trans d1
  have e2 := (b13.cell (p := ⟨w.heap.size + 1, 1, none⟩) (by simp; omega)).trans d2
  have e3 := (b13.cell (p := ⟨w.heap.size + 1, 2, none⟩) (by simp; omega)).trans d3
  have e4 := (b13.frozen (p := ⟨w.heap.size + 1, 0, none⟩) (by simp; omega)).trans f1
  have e5 := (b13.frozen (p := ⟨w.heap.size + 1, 1, none⟩) (by simp; omega)).trans f2
  have e6 := (b13.frozen (p := ⟨w.heap.size + 1, 2, none⟩) (by simp; omega)).trans f3
  have HB := hB.trans (b13.mono hB.size)
  have hz : Rt w3 b A2 n2 k2 A4 n4 k4 (mkRat p q) := by
    refine ⟨⟨?_, ?_⟩, ?_⟩
    · rw [HN.out]; exact hm2.on b3
    · rw [HS.out]; exact ha.2
    · rw [HD.out]; exact hm4
  have HZ := Lib.hid hz
  clear hsz hz
  go_wp2_with fail
  have eb : BoxR w3 (w.heap.size + 1) false none 0 0 none 0 0 := ⟨e1, e2, e3⟩
  refine bodyPost_ret (v := .tuple #[.agg #[.bool b, .slice A2 n2 k2, .slice A4 n4 k4], .int .i64 0]) (by simp [results, Tryz.results52, go_sem, e1, e2, e3]) rfl ⟨_, _, _, _, _, _, _, rfl, HZ.out.putR eb _ _ _, below_putR HB (by omega) _ _ _⟩
end Go.Proofs.YtmaolhajeoigpaaGreat

/-
  The contracts of the fifth reference: over, Cmp.
-/
namespace Go.Proofs.YtmaolhajeoigpaaGreat
set_option maxRecDepth 100000
set_option maxHeartbeats 8000000
open Go.RowKit
set_option linter.unusedVariables false

theorem zn_nat {w : World} {B : Option Addr} {m d q : Nat} (h : Num w B m d q) : Zn w false B m d (q : Int) := ⟨by rw [Int.natAbs_natCast]; exact h, by simp⟩

theorem over_N {w : World} {b : Bool} {A B : Option Addr} {n c m d q : Nat} {p : Int} (ha : Zn w b A n c p) (hb : Num w B m d q) (hx : (limbs p.natAbs).length ≤ 1000) (hy : (limbs q).length ≤ 1000) :
    Calls Tryz.prog 121 #[.agg #[.bool b, .slice A n c], .slice B m d] w (GotZ w (p * (q : Int))) := by
  have hz := zn_nat hb
  have hl : (limbs (q : Int).natAbs).length ≤ 1000 := by rw [Int.natAbs_natCast]; exact hy
  have cc := Below.refl w.heap.size w
  go_enter Tryz.func121, Tryz.ntmps121
  go_wp2_with fail
  generalize hv_ : (w.alloc (.cells #[.bool b, .slice A n c] 49)).alloc (.cells #[.bool false, .slice none 0 0] 49) = v1
  obtain ⟨f0, f1⟩ : Fz2 v1 (w.heap.size + 1) := by simp [Fz2, ← hv_, go_sem]
  have bA : Below w.heap.size w v1 := by rw [← hv_]; exact (((Below.refl _ w).alloc (by simp) _).alloc (by simp) _)
  replace ha := ha.on bA
  replace hz := hz.on bA
  replace cc := bK cc bA
  clear bA
  obtain ⟨k0, k1⟩ : Cs2 v1 w.heap.size (.bool b) (.slice A n c) := by simp [Cs2, ← hv_, go_sem]
  have kl : w.heap.size < v1.heap.size := by simp [← hv_] <;> omega
  obtain ⟨g0, g1⟩ : Cs2 v1 (w.heap.size + 1) (.bool false) (.slice none 0 0) := by simp [Cs2, ← hv_, go_sem]
  have gl : w.heap.size + 1 < v1.heap.size := by simp [← hv_] <;> omega
  clear hv_
  refine (rzmul_N ha hz hx hl).mono ?_
  rintro e w2 ⟨bm, Am, nm, cm, rfl, hm, b⟩
  rewrite [fR b gl] at f0 f1
  replace ha := ha.on b
  replace hz := hz.on b
  rewrite [cR b kl] at k0 k1
  replace kl := lK b kl
  rewrite [cR b gl] at g0 g1
  replace gl := lK b gl
  replace cc := bK cc b
  clear b
  go_wp2_with fail
  have eb : Box w2 (w.heap.size + 1) false none 0 0 := ⟨g0, g1⟩
  refine bodyPost_ret (v := .agg #[.bool bm, .slice Am nm cm]) (by simp [results, Tryz.results121, go_sem, g0, g1]) rfl ⟨_, _, _, _, rfl, hm.put eb _ _, below_put cc (by omega) _ _⟩

theorem rtcmp_N {w : World} {b0 b1 : Bool} {A0 B0 A1 B1 : Option Addr} {n0 c0 m0 d0 n1 c1 m1 d1 : Nat} {x0 x1 : Rat} (h0 : Rt w b0 A0 n0 c0 B0 m0 d0 x0) (s0 : Sz x0 100) (h1 : Rt w b1 A1 n1 c1 B1 m1 d1 x1) (s1 : Sz x1 100) :
    Calls Tryz.prog 94 #[.agg #[.bool b0, .slice A0 n0 c0, .slice B0 m0 d0], .agg #[.bool b1, .slice A1 n1 c1, .slice B1 m1 d1]] w (GotV w (.int .i64 (cmpQ x0 x1))) := by
  have p0 := h0.1
  have q0 := h0.2
  have lp0 := s0.1
  have lq0 := s0.2
  have p1 := h1.1
  have q1 := h1.2
  have lp1 := s1.1
  have lq1 := s1.2
  clear h0
  clear h1
  have lA : (limbs (x0.num * (x1.den : Int)).natAbs).length ≤ 200 := by rw [natAbs_over]; exact limbs_length_mul lp0 lq1
  have lB : (limbs (x1.num * (x0.den : Int)).natAbs).length ≤ 200 := by rw [natAbs_over]; exact limbs_length_mul lp1 lq0
  have cc := Below.refl w.heap.size w
  go_enter Tryz.func94, Tryz.ntmps94
  go_wp2_with fail
  generalize hv_ : (w.alloc (.cells #[.bool b0, .slice A0 n0 c0, .slice B0 m0 d0] 51)).alloc (.cells #[.bool b1, .slice A1 n1 c1, .slice B1 m1 d1] 51) = v1
  have bA : Below w.heap.size w v1 := by rw [← hv_]; exact (((Below.refl _ w).alloc (by simp) _).alloc (by simp) _)
  replace p0 := p0.on bA
  replace q0 := q0.on bA
  replace p1 := p1.on bA
  replace q1 := q1.on bA
  replace cc := bK cc bA
  clear bA
  obtain ⟨k0, k1, k2⟩ : Cs3 v1 w.heap.size (.bool b0) (.slice A0 n0 c0) (.slice B0 m0 d0) := by simp [Cs3, ← hv_, go_sem]
  have kl : w.heap.size < v1.heap.size := by simp [← hv_] <;> omega
  obtain ⟨g0, g1, g2⟩ : Cs3 v1 (w.heap.size + 1) (.bool b1) (.slice A1 n1 c1) (.slice B1 m1 d1) := by simp [Cs3, ← hv_, go_sem]
  have gl : w.heap.size + 1 < v1.heap.size := by simp [← hv_] <;> omega
  clear hv_
  have qq : Below v1.heap.size v1 v1.drew := below_drewN (Below.refl _ v1) 1
  have p0' := p0.on qq
  have q0' := q0.on qq
  have p1' := p1.on qq
  have q1' := q1.on qq
  go_region_held3 (fun w' => w'.cell? ⟨w.heap.size, 0, none⟩ = some (.bool b0) ∧ w'.cell? ⟨w.heap.size, 1, none⟩ = some (.slice A0 n0 c0) ∧ w'.cell? ⟨w.heap.size, 2, none⟩ = some (.slice B0 m0 d0) ∧ w'.cell? ⟨w.heap.size + 1, 0, none⟩ = some (.bool b1) ∧ w'.cell? ⟨w.heap.size + 1, 1, none⟩ = some (.slice A1 n1 c1) ∧ w'.cell? ⟨w.heap.size + 1, 2, none⟩ = some (.slice B1 m1 d1))
    (first | with_reducible exact ⟨cK qq k0 kl, cK qq k1 kl, cK qq k2 kl, cK qq g0 gl, cK qq g1 gl, cK qq g2 gl⟩)
    (first
      | (go_at_call 121; (with_reducible refine (over_N p0' q1' (Nat.le_trans lp0 (by omega)) (Nat.le_trans lq1 (by omega))).mono ?_); rintro e wz ⟨bu, Au, nu, cu, rfl, u, q⟩; replace qq := bK qq q; (try replace p0' := p0'.on q); (try replace q0' := q0'.on q); (try replace p1' := p1'.on q); (try replace q1' := q1'.on q); (try replace v := v.on q); clear q)
      | (go_at_call 121; (with_reducible refine (over_N p1' q0' (Nat.le_trans lp1 (by omega)) (Nat.le_trans lq0 (by omega))).mono ?_); rintro e wz ⟨bv, Av, nv, cv, rfl, v, q⟩; replace qq := bK qq q; (try replace p0' := p0'.on q); (try replace q0' := q0'.on q); (try replace p1' := p1'.on q); (try replace q1' := q1'.on q); (try replace u := u.on q); clear q)
      | (go_at_call 120; (with_reducible refine (rzcmp_N u v (Nat.le_trans lA (by omega)) (Nat.le_trans lB (by omega))).mono ?_); rintro e wz ⟨rfl, q⟩; replace qq := bK qq q; (try replace p0' := p0'.on q); (try replace q0' := q0'.on q); (try replace p1' := p1'.on q); (try replace q1' := q1'.on q); (try replace u := u.on q); (try replace v := v.on q); clear q))
  clear p0
  have p0 := p0'
  clear p0'
  clear q0
  have q0 := q0'
  clear q0'
  clear p1
  have p1 := p1'
  clear p1'
  clear q1
  have q1 := q1'
  clear q1'
  rewrite [cR qq kl] at k0 k1 k2
  replace kl := lK qq kl
  rewrite [cR qq gl] at g0 g1 g2
  replace gl := lK qq gl
  replace cc := bK cc qq
  clear qq
  go_wp2_with fail
  go_ret
  refine ⟨?_, cc⟩
  rw [cmpQ_eq]
  rfl

theorem rtadd_N {w : World} {b0 b1 : Bool} {A0 B0 A1 B1 : Option Addr} {n0 c0 m0 d0 n1 c1 m1 d1 : Nat} {x0 x1 : Rat} (h0 : Rt w b0 A0 n0 c0 B0 m0 d0 x0) (s0 : Sz x0 40) (h1 : Rt w b1 A1 n1 c1 B1 m1 d1 x1) (s1 : Sz x1 40) :
    Calls Tryz.prog 119 #[.agg #[.bool b0, .slice A0 n0 c0, .slice B0 m0 d0], .agg #[.bool b1, .slice A1 n1 c1, .slice B1 m1 d1]] w (GotRt w (x0 + x1)) := by
  have p0 := h0.1
  have q0 := h0.2
  have lp0 := s0.1
  have lq0 := s0.2
  have p1 := h1.1
  have q1 := h1.2
  have lp1 := s1.1
  have lq1 := s1.2
  clear h0
  clear h1
  have hq := den_mul_ne x0 x1
  have lD : (limbs (x0.den * x1.den)).length ≤ 100 := Nat.le_trans (limbs_length_mul lq0 lq1) (by omega)
  have lA : (limbs (x0.num * (x1.den : Int)).natAbs).length ≤ 80 := by rw [natAbs_over]; exact limbs_length_mul lp0 lq1
  have lB : (limbs (x1.num * (x0.den : Int)).natAbs).length ≤ 80 := by rw [natAbs_over]; exact limbs_length_mul lp1 lq0
  have lC : (limbs (x0.num * (x1.den : Int) + x1.num * (x0.den : Int)).natAbs).length ≤ 100 := Nat.le_trans (zlen_add (k := 80) lA lB) (by omega)
  have HE : Hid (x0 + x1 = mkRat (x0.num * (x1.den : Int) + x1.num * (x0.den : Int)) (x0.den * x1.den)) := Lib.hid (Rat.add_def' x0 x1)
  have cc := Below.refl w.heap.size w
  go_enter Tryz.func119, Tryz.ntmps119
  go_wp2_with fail
  generalize hv_ : ((w.alloc (.cells #[.bool b0, .slice A0 n0 c0, .slice B0 m0 d0] 51)).alloc (.cells #[.bool b1, .slice A1 n1 c1, .slice B1 m1 d1] 51)).alloc (.cells #[.bool false, .slice none 0 0, .slice none 0 0] 51) = v1
  obtain ⟨f0, f1, f2⟩ : Fz3 v1 (w.heap.size + 1 + 1) := by simp [Fz3, ← hv_, go_sem]
  have bA : Below w.heap.size w v1 := by rw [← hv_]; exact ((((Below.refl _ w).alloc (by simp) _).alloc (by simp) _).alloc (by simp <;> omega) _)
  replace p0 := p0.on bA
  replace q0 := q0.on bA
  replace p1 := p1.on bA
  replace q1 := q1.on bA
  replace cc := bK cc bA
  clear bA
  obtain ⟨k0, k1, k2⟩ : Cs3 v1 w.heap.size (.bool b0) (.slice A0 n0 c0) (.slice B0 m0 d0) := by simp [Cs3, ← hv_, go_sem]
  have kl : w.heap.size < v1.heap.size := by simp [← hv_] <;> omega
  obtain ⟨h0, h1, h2⟩ : Cs3 v1 (w.heap.size + 1) (.bool b1) (.slice A1 n1 c1) (.slice B1 m1 d1) := by simp [Cs3, ← hv_, go_sem]
  have hl : w.heap.size + 1 < v1.heap.size := by simp [← hv_] <;> omega
  obtain ⟨g0, g1, g2⟩ : Cs3 v1 (w.heap.size + 1 + 1) (.bool false) (.slice none 0 0) (.slice none 0 0) := by simp [Cs3, ← hv_, go_sem]
  have gl : w.heap.size + 1 + 1 < v1.heap.size := by simp [← hv_] <;> omega
  clear hv_
  go_upto_region 1 with fail
  go_cut [5] (fun u wx => ∃ (g : Nat) (b : Bool) (A : Option Addr) (n c : Nat) (B : Option Addr) (m d : Nat), u = .pointer (some ⟨g, 0, none⟩) ∧ Lone v1 wx g b A n c B m d (mkRat (x0.num * (x1.den : Int) + x1.num * (x0.den : Int)) (x0.den * x1.den)))
  case first =>
    have BB0 : Below v1.heap.size v1 v1.drew := below_drewN (Below.refl _ v1) 1
    have BB1 : Below v1.heap.size v1 (v1.alloc (.cells #[.bool false, .slice none 0 0, .slice none 0 0] 51)).drew := below_drewN (below_one _ _) 1
    go_region_held3 (fun w' => w'.cell? ⟨w.heap.size, 0, none⟩ = some (.bool b0) ∧ w'.cell? ⟨w.heap.size, 1, none⟩ = some (.slice A0 n0 c0) ∧ w'.cell? ⟨w.heap.size, 2, none⟩ = some (.slice B0 m0 d0) ∧ w'.cell? ⟨w.heap.size + 1, 0, none⟩ = some (.bool b1) ∧ w'.cell? ⟨w.heap.size + 1, 1, none⟩ = some (.slice A1 n1 c1) ∧ w'.cell? ⟨w.heap.size + 1, 2, none⟩ = some (.slice B1 m1 d1) ∧ w'.cell? ⟨w.heap.size + 1 + 1, 0, none⟩ = some (.bool false) ∧ w'.cell? ⟨w.heap.size + 1 + 1, 1, none⟩ = some (.slice none 0 0) ∧ w'.cell? ⟨w.heap.size + 1 + 1, 2, none⟩ = some (.slice none 0 0))
      (first | with_reducible exact ⟨(cK qq k0 kl), (cK qq k1 kl), (cK qq k2 kl), (cK qq h0 hl), (cK qq h1 hl), (cK qq h2 hl), (cK qq g0 gl), (cK qq g1 gl), (cK qq g2 gl)⟩ | with_reducible exact ⟨keep_alloc ((cK qq k0 kl)), keep_alloc ((cK qq k1 kl)), keep_alloc ((cK qq k2 kl)), keep_alloc ((cK qq h0 hl)), keep_alloc ((cK qq h1 hl)), keep_alloc ((cK qq h2 hl)), keep_alloc ((cK qq g0 gl)), keep_alloc ((cK qq g1 gl)), keep_alloc ((cK qq g2 gl))⟩ | with_reducible exact ⟨((cell_putR (by omega)).trans (cK qq k0 kl)), ((cell_putR (by omega)).trans (cK qq k1 kl)), ((cell_putR (by omega)).trans (cK qq k2 kl)), ((cell_putR (by omega)).trans (cK qq h0 hl)), ((cell_putR (by omega)).trans (cK qq h1 hl)), ((cell_putR (by omega)).trans (cK qq h2 hl)), ((cell_putR (by omega)).trans (cK qq g0 gl)), ((cell_putR (by omega)).trans (cK qq g1 gl)), ((cell_putR (by omega)).trans (cK qq g2 gl))⟩ | go_keep)
      (first
        | (go_at_call 121; (with_reducible refine (over_N (p0.on BB0) (q1.on BB0) (Nat.le_trans lp0 (by omega)) (Nat.le_trans lq1 (by omega))).mono ?_); rintro e y1 ⟨bu, Au, nu, cu, rfl, u, q⟩; have qq := BB0.trans (q.mono BB0.size); have p0' := (p0.on BB0).on q; have q0' := (q0.on BB0).on q; have p1' := (p1.on BB0).on q; have q1' := (q1.on BB0).on q; have qs1 := qq.size; clear q)
        | (go_at_call 121; (with_reducible refine (over_N (p0.on BB1) (q1.on BB1) (Nat.le_trans lp0 (by omega)) (Nat.le_trans lq1 (by omega))).mono ?_); rintro e y1 ⟨bu, Au, nu, cu, rfl, u, q⟩; have qq := BB1.trans (q.mono BB1.size); have p0' := (p0.on BB1).on q; have q0' := (q0.on BB1).on q; have p1' := (p1.on BB1).on q; have q1' := (q1.on BB1).on q; have qs1 := qq.size; obtain ⟨bo_0, fo_0, bo_1, fo_1, bo_2, fo_2, ol⟩ := zb3 (g := v1.heap.size) q (by simp) (by simp [Cs3, go_sem]) (by simp [Fz3, go_sem]); clear q)
        | (go_at_call 121; have up := Below.refl y1.heap.size y1; (with_reducible refine (over_N (p1'.on up) (q0'.on up) (Nat.le_trans lp1 (by omega)) (Nat.le_trans lq0 (by omega))).mono ?_); rintro e y2 ⟨bv, Av, nv, cv, rfl, v, q⟩; replace qq := uK qq up q; replace p0' := (p0'.on up).on q; replace q0' := (q0'.on up).on q; replace p1' := (p1'.on up).on q; replace q1' := (q1'.on up).on q; replace u := (u.on up).on q; (try (rewrite [cR up ol, cR q (lK up ol)] at bo_0 bo_1 bo_2; rewrite [fR up ol, fR q (lK up ol)] at fo_0 fo_1 fo_2; replace ol := lK q (lK up ol))); have qs2 := qq.size; clear q up)
        | (go_at_call 121; have up := below_one y1 (.cells #[.bool false, .slice none 0 0, .slice none 0 0] 51); (with_reducible refine (over_N (p1'.on up) (q0'.on up) (Nat.le_trans lp1 (by omega)) (Nat.le_trans lq0 (by omega))).mono ?_); rintro e y2 ⟨bv, Av, nv, cv, rfl, v, q⟩; replace qq := uK qq up q; replace p0' := (p0'.on up).on q; replace q0' := (q0'.on up).on q; replace p1' := (p1'.on up).on q; replace q1' := (q1'.on up).on q; replace u := (u.on up).on q; (try (rewrite [cR up ol, cR q (lK up ol)] at bo_0 bo_1 bo_2; rewrite [fR up ol, fR q (lK up ol)] at fo_0 fo_1 fo_2; replace ol := lK q (lK up ol))); have qs2 := qq.size; obtain ⟨bo_0, fo_0, bo_1, fo_1, bo_2, fo_2, ol⟩ := zb3 (g := y1.heap.size) q (by simp) (by simp [Cs3, go_sem]) (by simp [Fz3, go_sem]); clear q up)
        | (go_at_call 129; have up := Below.refl y2.heap.size y2; (with_reducible refine (rzadd_N (u.on up) (v.on up) (Nat.le_trans lA (by omega)) (Nat.le_trans lB (by omega))).mono ?_); rintro e y3 ⟨bs, As, ns, cs, rfl, s, q⟩; replace qq := uK qq up q; replace p0' := (p0'.on up).on q; replace q0' := (q0'.on up).on q; replace p1' := (p1'.on up).on q; replace q1' := (q1'.on up).on q; replace u := (u.on up).on q; replace v := (v.on up).on q; (try (rewrite [cR up ol, cR q (lK up ol)] at bo_0 bo_1 bo_2; rewrite [fR up ol, fR q (lK up ol)] at fo_0 fo_1 fo_2; replace ol := lK q (lK up ol))); have qs3 := qq.size; clear q up)
        | (go_at_call 129; have up := below_one y2 (.cells #[.bool false, .slice none 0 0, .slice none 0 0] 51); (with_reducible refine (rzadd_N (u.on up) (v.on up) (Nat.le_trans lA (by omega)) (Nat.le_trans lB (by omega))).mono ?_); rintro e y3 ⟨bs, As, ns, cs, rfl, s, q⟩; replace qq := uK qq up q; replace p0' := (p0'.on up).on q; replace q0' := (q0'.on up).on q; replace p1' := (p1'.on up).on q; replace q1' := (q1'.on up).on q; replace u := (u.on up).on q; replace v := (v.on up).on q; (try (rewrite [cR up ol, cR q (lK up ol)] at bo_0 bo_1 bo_2; rewrite [fR up ol, fR q (lK up ol)] at fo_0 fo_1 fo_2; replace ol := lK q (lK up ol))); have qs3 := qq.size; obtain ⟨bo_0, fo_0, bo_1, fo_1, bo_2, fo_2, ol⟩ := zb3 (g := y2.heap.size) q (by simp) (by simp [Cs3, go_sem]) (by simp [Fz3, go_sem]); clear q up)
        | (go_at_call 31; have up := Below.refl y3.heap.size y3; (with_reducible refine (rmul_N (q0'.on up) (q1'.on up) (Nat.le_trans lq0 (by omega)) (Nat.le_trans lq1 (by omega))).mono ?_); rintro e y4 ⟨At, nt, ct, rfl, t, q⟩; replace qq := uK qq up q; replace p0' := (p0'.on up).on q; replace q0' := (q0'.on up).on q; replace p1' := (p1'.on up).on q; replace q1' := (q1'.on up).on q; replace u := (u.on up).on q; replace v := (v.on up).on q; replace s := (s.on up).on q; (try (rewrite [cR up ol, cR q (lK up ol)] at bo_0 bo_1 bo_2; rewrite [fR up ol, fR q (lK up ol)] at fo_0 fo_1 fo_2; replace ol := lK q (lK up ol))); have qs4 := qq.size; clear q up)
        | (go_at_call 31; have up := below_one y3 (.cells #[.bool false, .slice none 0 0, .slice none 0 0] 51); (with_reducible refine (rmul_N (q0'.on up) (q1'.on up) (Nat.le_trans lq0 (by omega)) (Nat.le_trans lq1 (by omega))).mono ?_); rintro e y4 ⟨At, nt, ct, rfl, t, q⟩; replace qq := uK qq up q; replace p0' := (p0'.on up).on q; replace q0' := (q0'.on up).on q; replace p1' := (p1'.on up).on q; replace q1' := (q1'.on up).on q; replace u := (u.on up).on q; replace v := (v.on up).on q; replace s := (s.on up).on q; (try (rewrite [cR up ol, cR q (lK up ol)] at bo_0 bo_1 bo_2; rewrite [fR up ol, fR q (lK up ol)] at fo_0 fo_1 fo_2; replace ol := lK q (lK up ol))); have qs4 := qq.size; obtain ⟨bo_0, fo_0, bo_1, fo_1, bo_2, fo_2, ol⟩ := zb3 (g := y3.heap.size) q (by simp) (by simp [Cs3, go_sem]) (by simp [Fz3, go_sem]); clear q up)
        | (go_at_call 52; have up := Below.refl y4.heap.size y4; (with_reducible refine (rtmake_N (s.on up) (t.on up) hq lC lD).mono ?_); rintro e y5 ⟨bo, Ao, no, co, Bo, mo, do_, rfl, o, q⟩; replace qq := uK qq up q; replace p0' := (p0'.on up).on q; replace q0' := (q0'.on up).on q; replace p1' := (p1'.on up).on q; replace q1' := (q1'.on up).on q; replace u := (u.on up).on q; replace v := (v.on up).on q; replace s := (s.on up).on q; replace t := (t.on up).on q; (try (rewrite [cR up ol, cR q (lK up ol)] at bo_0 bo_1 bo_2; rewrite [fR up ol, fR q (lK up ol)] at fo_0 fo_1 fo_2; replace ol := lK q (lK up ol))); have qs5 := qq.size; clear q up)
        | (go_at_call 52; have up := below_one y4 (.cells #[.bool false, .slice none 0 0, .slice none 0 0] 51); (with_reducible refine (rtmake_N (s.on up) (t.on up) hq lC lD).mono ?_); rintro e y5 ⟨bo, Ao, no, co, Bo, mo, do_, rfl, o, q⟩; replace qq := uK qq up q; replace p0' := (p0'.on up).on q; replace q0' := (q0'.on up).on q; replace p1' := (p1'.on up).on q; replace q1' := (q1'.on up).on q; replace u := (u.on up).on q; replace v := (v.on up).on q; replace s := (s.on up).on q; replace t := (t.on up).on q; (try (rewrite [cR up ol, cR q (lK up ol)] at bo_0 bo_1 bo_2; rewrite [fR up ol, fR q (lK up ol)] at fo_0 fo_1 fo_2; replace ol := lK q (lK up ol))); have qs5 := qq.size; obtain ⟨bo_0, fo_0, bo_1, fo_1, bo_2, fo_2, ol⟩ := zb3 (g := y4.heap.size) q (by simp) (by simp [Cs3, go_sem]) (by simp [Fz3, go_sem]); clear q up))
    all_goals (go_wp2_with fail; go_meet)
    all_goals refine ⟨_, bo, Ao, no, co, Bo, mo, do_, rfl, ?_⟩
    all_goals first
      | with_reducible exact loneA o qq _
      | with_reducible exact loneB bo_0 bo_1 bo_2 o qq (by omega)
  case rest =>
    obtain ⟨gz, bz, Az, nz, cz, Bz, mz, dz, rfl, ⟨z0, z1, z2⟩, ⟨pz, qz⟩, b⟩ := hcut
    have zl := cell_lt z0
    simp only at zl
    rewrite [fR b gl] at f0 f1 f2
    replace p0 := p0.on b
    replace q0 := q0.on b
    replace p1 := p1.on b
    replace q1 := q1.on b
    rewrite [cR b kl] at k0 k1 k2
    replace kl := lK b kl
    rewrite [cR b hl] at h0 h1 h2
    replace hl := lK b hl
    rewrite [cR b gl] at g0 g1 g2
    replace gl := lK b gl
    replace cc := bK cc b
    clear b
    have eb : BoxR wc (w.heap.size + 1 + 1) false none 0 0 none 0 0 := ⟨g0, g1, g2⟩
    have HZ : Hid (Rt (putR wc (w.heap.size + 1 + 1) (.bool bz) (.slice Az nz cz) (.slice Bz mz dz)) bz Az nz cz Bz mz dz (x0 + x1)) := Lib.hid (by rw [HE.out]; exact Rt.putR ⟨pz, qz⟩ eb _ _ _)
    go_wp2_with fail
    refine bodyPost_ret (v := .agg #[.bool bz, .slice Az nz cz, .slice Bz mz dz]) (by simp [results, Tryz.results119, go_sem, g0, g1, g2]) rfl ⟨_, _, _, _, _, _, _, rfl, HZ.out, below_putR cc (by omega) _ _ _⟩

theorem rtmul_N {w : World} {b0 b1 : Bool} {A0 B0 A1 B1 : Option Addr} {n0 c0 m0 d0 n1 c1 m1 d1 : Nat} {x0 x1 : Rat} (h0 : Rt w b0 A0 n0 c0 B0 m0 d0 x0) (s0 : Sz x0 40) (h1 : Rt w b1 A1 n1 c1 B1 m1 d1 x1) (s1 : Sz x1 40) :
    Calls Tryz.prog 26 #[.agg #[.bool b0, .slice A0 n0 c0, .slice B0 m0 d0], .agg #[.bool b1, .slice A1 n1 c1, .slice B1 m1 d1]] w (GotRt w (x0 * x1)) := by
  have p0 := h0.1
  have q0 := h0.2
  have lp0 := s0.1
  have lq0 := s0.2
  have p1 := h1.1
  have q1 := h1.2
  have lp1 := s1.1
  have lq1 := s1.2
  clear h0
  clear h1
  have hq := den_mul_ne x0 x1
  have lD : (limbs (x0.den * x1.den)).length ≤ 100 := Nat.le_trans (limbs_length_mul lq0 lq1) (by omega)
  have lC : (limbs (x0.num * x1.num).natAbs).length ≤ 100 := Nat.le_trans (zlen_mul lp0 lp1) (by omega)
  have HE : Hid (x0 * x1 = mkRat (x0.num * x1.num) (x0.den * x1.den)) := Lib.hid (Rat.mul_def' x0 x1)
  have cc := Below.refl w.heap.size w
  go_enter Tryz.func26, Tryz.ntmps26
  go_wp2_with fail
  generalize hv_ : ((w.alloc (.cells #[.bool b0, .slice A0 n0 c0, .slice B0 m0 d0] 51)).alloc (.cells #[.bool b1, .slice A1 n1 c1, .slice B1 m1 d1] 51)).alloc (.cells #[.bool false, .slice none 0 0, .slice none 0 0] 51) = v1
  obtain ⟨f0, f1, f2⟩ : Fz3 v1 (w.heap.size + 1 + 1) := by simp [Fz3, ← hv_, go_sem]
  have bA : Below w.heap.size w v1 := by rw [← hv_]; exact ((((Below.refl _ w).alloc (by simp) _).alloc (by simp) _).alloc (by simp <;> omega) _)
  replace p0 := p0.on bA
  replace q0 := q0.on bA
  replace p1 := p1.on bA
  replace q1 := q1.on bA
  replace cc := bK cc bA
  clear bA
  obtain ⟨k0, k1, k2⟩ : Cs3 v1 w.heap.size (.bool b0) (.slice A0 n0 c0) (.slice B0 m0 d0) := by simp [Cs3, ← hv_, go_sem]
  have kl : w.heap.size < v1.heap.size := by simp [← hv_] <;> omega
  obtain ⟨h0, h1, h2⟩ : Cs3 v1 (w.heap.size + 1) (.bool b1) (.slice A1 n1 c1) (.slice B1 m1 d1) := by simp [Cs3, ← hv_, go_sem]
  have hl : w.heap.size + 1 < v1.heap.size := by simp [← hv_] <;> omega
  obtain ⟨g0, g1, g2⟩ : Cs3 v1 (w.heap.size + 1 + 1) (.bool false) (.slice none 0 0) (.slice none 0 0) := by simp [Cs3, ← hv_, go_sem]
  have gl : w.heap.size + 1 + 1 < v1.heap.size := by simp [← hv_] <;> omega
  clear hv_
  go_upto_region 1 with fail
  go_cut [5] (fun u wx => ∃ (g : Nat) (b : Bool) (A : Option Addr) (n c : Nat) (B : Option Addr) (m d : Nat), u = .pointer (some ⟨g, 0, none⟩) ∧ Lone v1 wx g b A n c B m d (mkRat (x0.num * x1.num) (x0.den * x1.den)))
  case first =>
    have BB0 : Below v1.heap.size v1 v1.drew := below_drewN (Below.refl _ v1) 1
    have BB1 : Below v1.heap.size v1 (v1.alloc (.cells #[.bool false, .slice none 0 0, .slice none 0 0] 51)).drew := below_drewN (below_one _ _) 1
    go_region_held3 (fun w' => w'.cell? ⟨w.heap.size, 0, none⟩ = some (.bool b0) ∧ w'.cell? ⟨w.heap.size, 1, none⟩ = some (.slice A0 n0 c0) ∧ w'.cell? ⟨w.heap.size, 2, none⟩ = some (.slice B0 m0 d0) ∧ w'.cell? ⟨w.heap.size + 1, 0, none⟩ = some (.bool b1) ∧ w'.cell? ⟨w.heap.size + 1, 1, none⟩ = some (.slice A1 n1 c1) ∧ w'.cell? ⟨w.heap.size + 1, 2, none⟩ = some (.slice B1 m1 d1) ∧ w'.cell? ⟨w.heap.size + 1 + 1, 0, none⟩ = some (.bool false) ∧ w'.cell? ⟨w.heap.size + 1 + 1, 1, none⟩ = some (.slice none 0 0) ∧ w'.cell? ⟨w.heap.size + 1 + 1, 2, none⟩ = some (.slice none 0 0))
      (first | with_reducible exact ⟨(cK qq k0 kl), (cK qq k1 kl), (cK qq k2 kl), (cK qq h0 hl), (cK qq h1 hl), (cK qq h2 hl), (cK qq g0 gl), (cK qq g1 gl), (cK qq g2 gl)⟩ | with_reducible exact ⟨keep_alloc ((cK qq k0 kl)), keep_alloc ((cK qq k1 kl)), keep_alloc ((cK qq k2 kl)), keep_alloc ((cK qq h0 hl)), keep_alloc ((cK qq h1 hl)), keep_alloc ((cK qq h2 hl)), keep_alloc ((cK qq g0 gl)), keep_alloc ((cK qq g1 gl)), keep_alloc ((cK qq g2 gl))⟩ | with_reducible exact ⟨((cell_putR (by omega)).trans (cK qq k0 kl)), ((cell_putR (by omega)).trans (cK qq k1 kl)), ((cell_putR (by omega)).trans (cK qq k2 kl)), ((cell_putR (by omega)).trans (cK qq h0 hl)), ((cell_putR (by omega)).trans (cK qq h1 hl)), ((cell_putR (by omega)).trans (cK qq h2 hl)), ((cell_putR (by omega)).trans (cK qq g0 gl)), ((cell_putR (by omega)).trans (cK qq g1 gl)), ((cell_putR (by omega)).trans (cK qq g2 gl))⟩ | go_keep)
      (first
        | (go_at_call 53; (with_reducible refine (rzmul_N (p0.on BB0) (p1.on BB0) (Nat.le_trans lp0 (by omega)) (Nat.le_trans lp1 (by omega))).mono ?_); rintro e y1 ⟨bs, As, ns, cs, rfl, s, q⟩; have qq := BB0.trans (q.mono BB0.size); have p0' := (p0.on BB0).on q; have q0' := (q0.on BB0).on q; have p1' := (p1.on BB0).on q; have q1' := (q1.on BB0).on q; have qs1 := qq.size; clear q)
        | (go_at_call 53; (with_reducible refine (rzmul_N (p0.on BB1) (p1.on BB1) (Nat.le_trans lp0 (by omega)) (Nat.le_trans lp1 (by omega))).mono ?_); rintro e y1 ⟨bs, As, ns, cs, rfl, s, q⟩; have qq := BB1.trans (q.mono BB1.size); have p0' := (p0.on BB1).on q; have q0' := (q0.on BB1).on q; have p1' := (p1.on BB1).on q; have q1' := (q1.on BB1).on q; have qs1 := qq.size; obtain ⟨bo_0, fo_0, bo_1, fo_1, bo_2, fo_2, ol⟩ := zb3 (g := v1.heap.size) q (by simp) (by simp [Cs3, go_sem]) (by simp [Fz3, go_sem]); clear q)
        | (go_at_call 31; have up := Below.refl y1.heap.size y1; (with_reducible refine (rmul_N (q0'.on up) (q1'.on up) (Nat.le_trans lq0 (by omega)) (Nat.le_trans lq1 (by omega))).mono ?_); rintro e y2 ⟨At, nt, ct, rfl, t, q⟩; replace qq := uK qq up q; replace p0' := (p0'.on up).on q; replace q0' := (q0'.on up).on q; replace p1' := (p1'.on up).on q; replace q1' := (q1'.on up).on q; replace s := (s.on up).on q; (try (rewrite [cR up ol, cR q (lK up ol)] at bo_0 bo_1 bo_2; rewrite [fR up ol, fR q (lK up ol)] at fo_0 fo_1 fo_2; replace ol := lK q (lK up ol))); have qs2 := qq.size; clear q up)
        | (go_at_call 31; have up := below_one y1 (.cells #[.bool false, .slice none 0 0, .slice none 0 0] 51); (with_reducible refine (rmul_N (q0'.on up) (q1'.on up) (Nat.le_trans lq0 (by omega)) (Nat.le_trans lq1 (by omega))).mono ?_); rintro e y2 ⟨At, nt, ct, rfl, t, q⟩; replace qq := uK qq up q; replace p0' := (p0'.on up).on q; replace q0' := (q0'.on up).on q; replace p1' := (p1'.on up).on q; replace q1' := (q1'.on up).on q; replace s := (s.on up).on q; (try (rewrite [cR up ol, cR q (lK up ol)] at bo_0 bo_1 bo_2; rewrite [fR up ol, fR q (lK up ol)] at fo_0 fo_1 fo_2; replace ol := lK q (lK up ol))); have qs2 := qq.size; obtain ⟨bo_0, fo_0, bo_1, fo_1, bo_2, fo_2, ol⟩ := zb3 (g := y1.heap.size) q (by simp) (by simp [Cs3, go_sem]) (by simp [Fz3, go_sem]); clear q up)
        | (go_at_call 52; have up := Below.refl y2.heap.size y2; (with_reducible refine (rtmake_N (s.on up) (t.on up) hq lC lD).mono ?_); rintro e y3 ⟨bo, Ao, no, co, Bo, mo, do_, rfl, o, q⟩; replace qq := uK qq up q; replace p0' := (p0'.on up).on q; replace q0' := (q0'.on up).on q; replace p1' := (p1'.on up).on q; replace q1' := (q1'.on up).on q; replace s := (s.on up).on q; replace t := (t.on up).on q; (try (rewrite [cR up ol, cR q (lK up ol)] at bo_0 bo_1 bo_2; rewrite [fR up ol, fR q (lK up ol)] at fo_0 fo_1 fo_2; replace ol := lK q (lK up ol))); have qs3 := qq.size; clear q up)
        | (go_at_call 52; have up := below_one y2 (.cells #[.bool false, .slice none 0 0, .slice none 0 0] 51); (with_reducible refine (rtmake_N (s.on up) (t.on up) hq lC lD).mono ?_); rintro e y3 ⟨bo, Ao, no, co, Bo, mo, do_, rfl, o, q⟩; replace qq := uK qq up q; replace p0' := (p0'.on up).on q; replace q0' := (q0'.on up).on q; replace p1' := (p1'.on up).on q; replace q1' := (q1'.on up).on q; replace s := (s.on up).on q; replace t := (t.on up).on q; (try (rewrite [cR up ol, cR q (lK up ol)] at bo_0 bo_1 bo_2; rewrite [fR up ol, fR q (lK up ol)] at fo_0 fo_1 fo_2; replace ol := lK q (lK up ol))); have qs3 := qq.size; obtain ⟨bo_0, fo_0, bo_1, fo_1, bo_2, fo_2, ol⟩ := zb3 (g := y2.heap.size) q (by simp) (by simp [Cs3, go_sem]) (by simp [Fz3, go_sem]); clear q up))
    all_goals (go_wp2_with fail; go_meet)
    all_goals refine ⟨_, bo, Ao, no, co, Bo, mo, do_, rfl, ?_⟩
    all_goals first
      | with_reducible exact loneA o qq _
      | with_reducible exact loneB bo_0 bo_1 bo_2 o qq (by omega)
  case rest =>
    obtain ⟨gz, bz, Az, nz, cz, Bz, mz, dz, rfl, ⟨z0, z1, z2⟩, ⟨pz, qz⟩, b⟩ := hcut
    have zl := cell_lt z0
    simp only at zl
    rewrite [fR b gl] at f0 f1 f2
    replace p0 := p0.on b
    replace q0 := q0.on b
    replace p1 := p1.on b
    replace q1 := q1.on b
    rewrite [cR b kl] at k0 k1 k2
    replace kl := lK b kl
    rewrite [cR b hl] at h0 h1 h2
    replace hl := lK b hl
    rewrite [cR b gl] at g0 g1 g2
    replace gl := lK b gl
    replace cc := bK cc b
    clear b
    have eb : BoxR wc (w.heap.size + 1 + 1) false none 0 0 none 0 0 := ⟨g0, g1, g2⟩
    have HZ : Hid (Rt (putR wc (w.heap.size + 1 + 1) (.bool bz) (.slice Az nz cz) (.slice Bz mz dz)) bz Az nz cz Bz mz dz (x0 * x1)) := Lib.hid (by rw [HE.out]; exact Rt.putR ⟨pz, qz⟩ eb _ _ _)
    go_wp2_with fail
    refine bodyPost_ret (v := .agg #[.bool bz, .slice Az nz cz, .slice Bz mz dz]) (by simp [results, Tryz.results26, go_sem, g0, g1, g2]) rfl ⟨_, _, _, _, _, _, _, rfl, HZ.out, below_putR cc (by omega) _ _ _⟩

end Go.Proofs.YtmaolhajeoigpaaGreat
