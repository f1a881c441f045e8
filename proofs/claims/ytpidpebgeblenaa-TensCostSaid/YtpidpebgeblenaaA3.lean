/-
  Several texts in one: QM, MathJ, MathK, MathG, S1, S2, ZA, Sq, ZB, S3, S4, S5, S6, S7, S8, D, QR, QS, QT.
-/
import Derived.Test.YtpidpebgeblenaaA2
import Derived.Test.YtpidpebgeblenaaA1
import Derived.Deep.RegionHeld3
import Derived.Lib.SliceRun
import Derived.Lib.AppendZerosOnto
import Derived.Deep.QuietTactic
import Derived.BigQuiet
import Derived.Deep.DeepCutAuto
import Derived.Deep.CutBlock
import Derived.WalkMore

/-
  Rationals over the fifth reference: which is greater, few limbs, the same.
-/
namespace Go.Proofs.Ytpidpebgeblenaa
open Go.RowKit
set_option linter.unusedVariables false
set_option linter.unusedSimpArgs false

theorem cmpQ_swap (a b : Rat) : cmpQ b a = -cmpQ a b := by unfold cmpQ; grind
theorem cmpQ_same (a b : Rat) : (cmpQ a b == 0) = decide (a = b) := by unfold cmpQ; grind
theorem cmpQ_plus (a b c : Rat) : cmpQ (a + c) (b + c) = cmpQ a b := by unfold cmpQ; grind
theorem cmpQ_diff (a b : Rat) : cmpQ (a - b) ((0 : Int) : Rat) = cmpQ a b := by
  rw [show ((0 : Int) : Rat) = 0 from rfl]; unfold cmpQ; grind
theorem cmpQ_times (a b c : Rat) (h : 0 < c) : cmpQ (a * c) (b * c) = cmpQ a b := by
  have e1 : (a * c < b * c) ↔ a < b := by
    constructor
    · intro h1; exact Rat.lt_of_mul_lt_mul_right h1 (Rat.le_of_lt h)
    · intro h1; exact Rat.mul_lt_mul_of_pos_right h1 h
  have e2 : (b * c < a * c) ↔ b < a := by
    constructor
    · intro h1; exact Rat.lt_of_mul_lt_mul_right h1 (Rat.le_of_lt h)
    · intro h1; exact Rat.mul_lt_mul_of_pos_right h1 h
  unfold cmpQ; simp only [e1, e2]
theorem cmpQ_trans (a b c : Rat) (h : cmpQ a b ≤ 0) (h2 : cmpQ b c ≤ 0) : cmpQ a c ≤ 0 := by unfold cmpQ at *; grind
theorem cmpQ_low (a b : Rat) : cmpQ a ((a + b) / ((2 : Int) : Rat)) = cmpQ a b := by
  rw [show ((2 : Int) : Rat) = 2 from rfl]; unfold cmpQ; grind
theorem cmpQ_high (a b : Rat) : cmpQ ((a + b) / ((2 : Int) : Rat)) b = cmpQ a b := by
  rw [show ((2 : Int) : Rat) = 2 from rfl]; unfold cmpQ; grind
theorem q1 (a b : Rat) : a + b - b = a := by grind
theorem q2 (a : Rat) : a - ((0 : Int) : Rat) = a := by rw [show ((0 : Int) : Rat) = 0 from rfl]; grind
theorem q3 (a : Rat) : a * ((1 : Int) : Rat) = a := by rw [show ((1 : Int) : Rat) = 1 from rfl]; grind
theorem q4 (a b : Rat) (h : b ≠ 0) : a * b / b = a := by grind
theorem q5 (a b : Rat) : b + (a - b) = a := by grind
theorem q6 (a b c : Rat) : a + b + c = a + (b + c) := by grind
theorem q7 (a b c : Rat) : a * b * c = a * (b * c) := by grind
theorem q8 (a b c : Rat) : (a + b) * c = a * c + b * c := by grind
theorem q9 (a b c : Rat) : a * b  = b * a := by grind
theorem mk_cross (p p' : Int) (q q' : Nat) (h : q ≠ 0) (h' : q' ≠ 0) : decide (mkRat p q = mkRat p' q') = decide (p * (q' : Int) = p' * (q : Int)) := by
  simp only [Rat.mkRat_eq_iff h h']
theorem mk_more (p : Int) (q c : Nat) (h : c ≠ 0) : mkRat p q = mkRat (p * (c : Int)) (q * c) := by
  rw [Rat.mkRat_mul_right h]

/-- Behind 'x, e := f(..)': a box, and what it holds; the box is new. -/
def LoneR (V U : World) (g : Nat) (b : Bool) (A : Option Addr) (n k : Nat) (B : Option Addr) (m d : Nat) (r : Rat) : Prop := BoxR U g b A n k B m d ∧ Rt U b A n k B m d r ∧ Below V.heap.size V U ∧ V.heap.size ≤ g
section
variable {V wz : World} {g : Nat} {b : Bool} {A B : Option Addr} {n k m d : Nat} {r : Rat}
theorem loneRA (h : Rt wz b A n k B m d r) (qq : Below V.heap.size V wz) (T : TypeId) : LoneR V (wz.alloc (.cells #[.bool b, .slice A n k, .slice B m d] T)) wz.heap.size b A n k B m d r := have o := loneA h qq T; ⟨o.1, o.2.1, o.2.2, qq.size⟩
theorem loneRB (o0 : wz.cell? ⟨g, 0, none⟩ = some (.bool false)) (o1 : wz.cell? ⟨g, 1, none⟩ = some (.slice none 0 0)) (o2 : wz.cell? ⟨g, 2, none⟩ = some (.slice none 0 0)) (h : Rt wz b A n k B m d r) (qq : Below V.heap.size V wz) (l : V.heap.size ≤ g) : LoneR V (putR wz g (.bool b) (.slice A n k) (.slice B m d)) g b A n k B m d r := have o := loneB o0 o1 o2 h qq l; ⟨o.1, o.2.1, o.2.2, l⟩
end
/-- Behind 'x, e := f(..)' that was refused: a new box of noughts. -/
def LoneO (V U : World) (g : Nat) : Prop := BoxR U g false none 0 0 none 0 0 ∧ Below V.heap.size V U ∧ V.heap.size ≤ g
section
variable {V wz : World} {g : Nat}
theorem loneOA (qq : Below V.heap.size V wz) (T : TypeId) : LoneO V (wz.alloc (.cells #[.bool false, .slice none 0 0, .slice none 0 0] T)) wz.heap.size := ⟨BoxR.new wz false none 0 0 none 0 0 T, qq.alloc qq.size _, qq.size⟩
theorem loneOB (o0 : wz.cell? ⟨g, 0, none⟩ = some (.bool false)) (o1 : wz.cell? ⟨g, 1, none⟩ = some (.slice none 0 0)) (o2 : wz.cell? ⟨g, 2, none⟩ = some (.slice none 0 0)) (qq : Below V.heap.size V wz) (l : V.heap.size ≤ g) : LoneO V (putR wz g (.bool false) (.slice none 0 0) (.slice none 0 0)) g := have o : BoxR wz g false none 0 0 none 0 0 := ⟨o0, o1, o2⟩; ⟨o.put false none 0 0 none 0 0, below_putR qq l _ _ _, l⟩
end
/-- Behind 'x, y := f(..), g(..)': two boxes, and what they hold. -/
def BothR (V U : World) (gx gy : Nat) (bx : Bool) (Ax : Option Addr) (nx kx : Nat) (Cx : Option Addr) (mx dx : Nat) (bY : Bool) (Ay : Option Addr) (ny ky : Nat) (Cy : Option Addr) (my dy : Nat) (rx ry : Rat) : Prop :=
  BoxR U gx bx Ax nx kx Cx mx dx ∧ BoxR U gy bY Ay ny ky Cy my dy ∧ Rt U bx Ax nx kx Cx mx dx rx ∧ Rt U bY Ay ny ky Cy my dy ry ∧ Below V.heap.size V U ∧ V.heap.size ≤ gx ∧ V.heap.size ≤ gy ∧ gx ≠ gy
section
variable {V wz : World} {gx gy : Nat} {bx bY : Bool} {Ax Ay Cx Cy : Option Addr} {nx kx ny ky mx dx my dy : Nat} {rx ry : Rat}
theorem pairRA (hx : Rt wz bx Ax nx kx Cx mx dx rx) (hy : Rt wz bY Ay ny ky Cy my dy ry) (qq : Below V.heap.size V wz) (T : TypeId) : BothR V ((wz.alloc (.cells #[.bool bx, .slice Ax nx kx, .slice Cx mx dx] T)).alloc (.cells #[.bool bY, .slice Ay ny ky, .slice Cy my dy] T)) wz.heap.size (wz.heap.size + 1) bx Ax nx kx Cx mx dx bY Ay ny ky Cy my dy rx ry :=
  ⟨(BoxR.new wz bx Ax nx kx Cx mx dx T).alloc _, by have := BoxR.new (wz.alloc (.cells #[.bool bx, .slice Ax nx kx, .slice Cx mx dx] T)) bY Ay ny ky Cy my dy T; simpa using this, (hx.alloc _).alloc _, (hy.alloc _).alloc _, (qq.alloc qq.size _).alloc (by have := qq.size; simp; omega) _, qq.size, Nat.le_succ_of_le qq.size, by omega⟩
theorem pairRA' (hx : Rt wz bx Ax nx kx Cx mx dx rx) (hy : Rt wz bY Ay ny ky Cy my dy ry) (qq : Below V.heap.size V wz) (T : TypeId) : BothR V ((wz.alloc (.cells #[.bool bY, .slice Ay ny ky, .slice Cy my dy] T)).alloc (.cells #[.bool bx, .slice Ax nx kx, .slice Cx mx dx] T)) (wz.heap.size + 1) wz.heap.size bx Ax nx kx Cx mx dx bY Ay ny ky Cy my dy rx ry :=
  ⟨by have := BoxR.new (wz.alloc (.cells #[.bool bY, .slice Ay ny ky, .slice Cy my dy] T)) bx Ax nx kx Cx mx dx T; simpa using this, (BoxR.new wz bY Ay ny ky Cy my dy T).alloc _, (hx.alloc _).alloc _, (hy.alloc _).alloc _, (qq.alloc qq.size _).alloc (by have := qq.size; simp; omega) _, Nat.le_succ_of_le qq.size, qq.size, by omega⟩
theorem pairRB (c0 : wz.cell? ⟨gx, 0, none⟩ = some (.bool false)) (c1 : wz.cell? ⟨gx, 1, none⟩ = some (.slice none 0 0)) (c2 : wz.cell? ⟨gx, 2, none⟩ = some (.slice none 0 0)) (hx : Rt wz bx Ax nx kx Cx mx dx rx) (hy : Rt wz bY Ay ny ky Cy my dy ry) (qq : Below V.heap.size V wz) (lx : V.heap.size ≤ gx) (T : TypeId) :
    BothR V ((putR wz gx (.bool bx) (.slice Ax nx kx) (.slice Cx mx dx)).alloc (.cells #[.bool bY, .slice Ay ny ky, .slice Cy my dy] T)) gx wz.heap.size bx Ax nx kx Cx mx dx bY Ay ny ky Cy my dy rx ry :=
  have B : BoxR wz gx false none 0 0 none 0 0 := ⟨c0, c1, c2⟩
  ⟨(B.put bx Ax nx kx Cx mx dx).alloc _, by have := BoxR.new (putR wz gx (.bool bx) (.slice Ax nx kx) (.slice Cx mx dx)) bY Ay ny ky Cy my dy T; simpa using this, (hx.putR B _ _ _).alloc _, (hy.putR B _ _ _).alloc _, (below_putR qq lx _ _ _).alloc (by have := qq.size; simp; omega) _, lx, qq.size, by have := cell_lt c0; simp only at this; omega⟩
theorem pairRB' (c0 : wz.cell? ⟨gy, 0, none⟩ = some (.bool false)) (c1 : wz.cell? ⟨gy, 1, none⟩ = some (.slice none 0 0)) (c2 : wz.cell? ⟨gy, 2, none⟩ = some (.slice none 0 0)) (hx : Rt wz bx Ax nx kx Cx mx dx rx) (hy : Rt wz bY Ay ny ky Cy my dy ry) (qq : Below V.heap.size V wz) (ly : V.heap.size ≤ gy) (T : TypeId) :
    BothR V ((putR wz gy (.bool bY) (.slice Ay ny ky) (.slice Cy my dy)).alloc (.cells #[.bool bx, .slice Ax nx kx, .slice Cx mx dx] T)) wz.heap.size gy bx Ax nx kx Cx mx dx bY Ay ny ky Cy my dy rx ry :=
  have B : BoxR wz gy false none 0 0 none 0 0 := ⟨c0, c1, c2⟩
  ⟨by have := BoxR.new (putR wz gy (.bool bY) (.slice Ay ny ky) (.slice Cy my dy)) bx Ax nx kx Cx mx dx T; simpa using this, (B.put bY Ay ny ky Cy my dy).alloc _, (hx.putR B _ _ _).alloc _, (hy.putR B _ _ _).alloc _, (below_putR qq ly _ _ _).alloc (by have := qq.size; simp; omega) _, qq.size, ly, by have := cell_lt c0; simp only at this; omega⟩
theorem pairRC (c0 : wz.cell? ⟨gx, 0, none⟩ = some (.bool false)) (c1 : wz.cell? ⟨gx, 1, none⟩ = some (.slice none 0 0)) (c2 : wz.cell? ⟨gx, 2, none⟩ = some (.slice none 0 0)) (d0 : wz.cell? ⟨gy, 0, none⟩ = some (.bool false)) (d1 : wz.cell? ⟨gy, 1, none⟩ = some (.slice none 0 0)) (d2 : wz.cell? ⟨gy, 2, none⟩ = some (.slice none 0 0)) (hx : Rt wz bx Ax nx kx Cx mx dx rx) (hy : Rt wz bY Ay ny ky Cy my dy ry) (qq : Below V.heap.size V wz) (lx : V.heap.size ≤ gx) (ly : V.heap.size ≤ gy) (hne : gx ≠ gy) :
    BothR V (putR (putR wz gx (.bool bx) (.slice Ax nx kx) (.slice Cx mx dx)) gy (.bool bY) (.slice Ay ny ky) (.slice Cy my dy)) gx gy bx Ax nx kx Cx mx dx bY Ay ny ky Cy my dy rx ry :=
  have B : BoxR wz gx false none 0 0 none 0 0 := ⟨c0, c1, c2⟩
  have D : BoxR (putR wz gx (.bool bx) (.slice Ax nx kx) (.slice Cx mx dx)) gy false none 0 0 none 0 0 := BoxR.other ⟨d0, d1, d2⟩ (Ne.symm hne)
  ⟨(B.put bx Ax nx kx Cx mx dx).other hne, D.put bY Ay ny ky Cy my dy, (hx.putR B _ _ _).putR D _ _ _, (hy.putR B _ _ _).putR D _ _ _, below_putR (below_putR qq lx _ _ _) ly _ _ _, lx, ly, hne⟩
end

theorem num_nil (w : World) (A : Option Addr) (c : Nat) : Num w A 0 c 0 := by unfold Num; rw [limbs_zero]; exact Lim.nil _ _ _ _
theorem len_nil : (limbs 0).length ≤ 300 := by rw [limbs_zero]; simp
theorem okR_rt {w : World} {b : Bool} {A B : Option Addr} {n c m d : Nat} {r : Rat} (h : Rt w b A n c B m d r) : okR b n (limbs r.num.natAbs) m (limbs r.den) = true := by
  unfold okR
  have h1 : 0 < m := h.2.some_len r.den_nz
  have h2 := r.reduced
  unfold Nat.Coprime at h2
  simp only [h.1.ok, limbs_canon, val_limbs, Bool.true_and, decide_eq_true h1]
  exact decide_eq_true h2
theorem num_one {x : Nat} (hx : x < B64) (h0 : x ≠ 0) (w : World) : Num (w.alloc (.cells #[.int .u64 (x : Int)] 103)) (some ⟨w.heap.size, 0, none⟩) 1 1 x := by
  have h := (lim_one hx w).num (by simp [canon]; omega)
  have hv : val [x] = x := by simp [val_cons, val_nil]
  rwa [hv] at h

/-- A rational that is right and of few limbs. -/
theorem few_rt {w : World} {b : Bool} {A B : Option Addr} {n c m d : Nat} {l l2 : List Nat} (k : Nat) (h : Lim w.heap.size w A n c l) (h2 : Lim w.heap.size w B m d l2) (hr : (decide ((n : Int) ≤ (k : Int)) && (decide ((m : Int) ≤ (k : Int)) && okR b n l m l2)) = true) : ∃ r : Rat, Rt w b A n c B m d r ∧ Sz r k := by
  rw [Bool.and_eq_true, Bool.and_eq_true] at hr
  obtain ⟨e1, e2, e3⟩ := hr
  unfold okR at e3
  rw [Bool.and_eq_true, Bool.and_eq_true, Bool.and_eq_true] at e3
  obtain ⟨e4, e5, e6, e7⟩ := e3
  have hz := okZ_zn h e4
  have hN := h2.num e5
  have h0 := num_ne hN (of_decide_eq_true e6)
  have hg : Nat.gcd (sgn b (val l)).natAbs (val l2) = 1 := by rw [sgn_abs]; exact of_decide_eq_true e7
  obtain ⟨r, r1, r2⟩ := rat_of _ _ h0 hg
  refine ⟨r, ⟨by rw [r1]; exact hz, by rw [r2]; exact hN⟩, ?_, ?_⟩
  · rw [r1, ← hz.1.len]; have := of_decide_eq_true e1; omega
  · rw [r2, ← hN.len]; have := of_decide_eq_true e2; omega
theorem rt_nought {w : World} {b : Bool} {A B : Option Addr} {n c m d : Nat} {x : Rat} (h : Rt w b A n c B m d x) (hn : 0 < n) : x.num ≠ 0 := by
  have := num_ne h.1.1 hn
  omega
theorem rt_zero {w : World} {b : Bool} {A B : Option Addr} {n c m d : Nat} {x : Rat} (h : Rt w b A n c B m d x) (hx : x.num = 0) : n = 0 := by
  have := h.1.1.len
  rw [hx] at this
  rw [this, show (0 : Int).natAbs = 0 from rfl, limbs_zero]; rfl
theorem rt_above {w : World} {b : Bool} {A B : Option Addr} {n c m d : Nat} {x : Rat} (h : Rt w b A n c B m d x) (hn : 0 < n) (hb : b = false) : 0 < x := by
  have h1 := rt_nought h hn
  have h2 := h.1.2
  rw [hb] at h2
  have h3 : ¬ x.num < 0 := of_decide_eq_false h2.symm
  rw [Rat.lt_iff]
  show 0 * (x.den : Int) < x.num * ((1 : Nat) : Int)
  omega
theorem rat_zero {x : Rat} (h : x.num = 0) : x = 0 := Rat.num_eq_zero.1 h

end Go.Proofs.Ytpidpebgeblenaa

/-
  Rationals: a product whose sides are reduced crosswise, and a sum over the least number that both divide, as they are.
-/
namespace Go.Proofs.Ytpidpebgeblenaa

/-- Two sides that nothing divides are those of their quotient. -/
theorem mk_sides {p : Int} {q : Nat} {r : Rat} (hq : q ≠ 0) (hg : Nat.gcd p.natAbs q = 1) (h : mkRat p q = r) : r.num = p ∧ r.den = q := by
  subst h
  rw [Rat.num_mkRat, Rat.den_mkRat, if_neg hq, if_neg hq, Nat.gcd_comm, hg]
  simp

theorem num_dvd (p : Int) (q : Nat) (hq : q ≠ 0) : (mkRat p q).num.natAbs ∣ p.natAbs := by
  rw [Rat.num_mkRat, if_neg hq]
  have h : ((Nat.gcd q p.natAbs : Nat) : Int) ∣ p := Int.ofNat_dvd_left.2 (Nat.gcd_dvd_right _ _)
  exact Int.natAbs_dvd_natAbs.2 ⟨_, (Int.ediv_mul_cancel h).symm⟩
theorem den_dvd (p : Int) (q : Nat) (hq : q ≠ 0) : (mkRat p q).den ∣ q := by
  rw [Rat.den_mkRat, if_neg hq]
  exact Nat.div_dvd_of_dvd (Nat.gcd_dvd_left _ _)

theorem mul_sides (a b : Rat) : (a * b).num = (mkRat a.num b.den).num * (mkRat b.num a.den).num ∧ (a * b).den = (mkRat a.num b.den).den * (mkRat b.num a.den).den := by
  refine mk_sides (Nat.mul_ne_zero (Rat.den_nz _) (Rat.den_nz _)) ?_ ?_
  · rw [Int.natAbs_mul]
    have h1 := num_dvd a.num b.den b.den_nz
    have h2 := den_dvd a.num b.den b.den_nz
    have h3 := num_dvd b.num a.den a.den_nz
    have h4 := den_dvd b.num a.den a.den_nz
    refine Nat.Coprime.mul_left (Nat.Coprime.mul_right (Rat.reduced _) ?_) (Nat.Coprime.mul_right ?_ (Rat.reduced _))
    · exact (a.reduced.coprime_dvd_left h1).coprime_dvd_right h4
    · exact (b.reduced.coprime_dvd_left h3).coprime_dvd_right h2
  · rw [← Rat.mkRat_mul_mkRat, Rat.mkRat_self, Rat.mkRat_self, Rat.mkRat_mul_mkRat, Nat.mul_comm b.den a.den, ← Rat.mul_def']

theorem cop_part {t u : Int} {l : Nat} (h : Nat.Coprime u.natAbs l) (hd : (l : Int) ∣ t - u) : Nat.Coprime t.natAbs l := by
  have h1 : Nat.gcd t.natAbs l ∣ l := Nat.gcd_dvd_right _ _
  have h2 : ((Nat.gcd t.natAbs l : Nat) : Int) ∣ t := Int.ofNat_dvd_left.2 (Nat.gcd_dvd_left _ _)
  have h3 : ((Nat.gcd t.natAbs l : Nat) : Int) ∣ t - u := Int.dvd_trans (Int.ofNat_dvd.2 h1) hd
  have h4 : ((Nat.gcd t.natAbs l : Nat) : Int) ∣ u := by
    have := Int.dvd_sub h2 h3
    rwa [show t - (t - u) = u by omega] at this
  have h5 := Nat.dvd_gcd (Int.ofNat_dvd_left.1 h4) h1
  rw [h] at h5
  exact Nat.eq_one_of_dvd_one h5

theorem add_sides (a b : Rat) {g l r : Nat} {t : Int} (hg : Nat.gcd a.den b.den = g) (hl : b.den / g = l) (hr : a.den / g = r) (ht : a.num * (l : Int) + b.num * (r : Int) = t) :
    (a + b).num = (mkRat t g).num ∧ (a + b).den = (mkRat t g).den * (l * r) := by
  have hg0 : g ≠ 0 := by rw [← hg]; exact Nat.ne_of_gt (Nat.gcd_pos_of_pos_left _ (Nat.pos_of_ne_zero a.den_nz))
  have ha : a.den = g * r := by rw [← hr, Nat.mul_div_cancel' (by rw [← hg]; exact Nat.gcd_dvd_left _ _)]
  have hb : b.den = g * l := by rw [← hl, Nat.mul_div_cancel' (by rw [← hg]; exact Nat.gcd_dvd_right _ _)]
  have hlr : Nat.Coprime r l := by
    rw [← hl, ← hr, ← hg]
    exact Nat.coprime_div_gcd_div_gcd (Nat.gcd_pos_of_pos_left _ (Nat.pos_of_ne_zero a.den_nz))
  have hr0 : r ≠ 0 := fun e => a.den_nz (by rw [ha, e, Nat.mul_zero])
  have hl0 : l ≠ 0 := fun e => b.den_nz (by rw [hb, e, Nat.mul_zero])
  have h1 := num_dvd t g hg0
  have hal : Nat.Coprime t.natAbs l := by
    have hbl : Nat.Coprime b.num.natAbs l := b.reduced.coprime_dvd_right ⟨g, by rw [hb, Nat.mul_comm]⟩
    have h2 : Nat.Coprime (b.num * (r : Int)).natAbs l := by rw [Int.natAbs_mul, Int.natAbs_natCast]; exact hbl.mul_left hlr
    refine cop_part h2 ⟨a.num, ?_⟩
    rw [← ht, Int.mul_comm (l : Int)]; omega
  have har : Nat.Coprime t.natAbs r := by
    have hbl : Nat.Coprime a.num.natAbs r := a.reduced.coprime_dvd_right ⟨g, by rw [ha, Nat.mul_comm]⟩
    have h2 : Nat.Coprime (a.num * (l : Int)).natAbs r := by rw [Int.natAbs_mul, Int.natAbs_natCast]; exact hbl.mul_left hlr.symm
    refine cop_part h2 ⟨b.num, ?_⟩
    rw [← ht, Int.mul_comm (r : Int)]; omega
  refine mk_sides (Nat.mul_ne_zero (Rat.den_nz _) (Nat.mul_ne_zero hl0 hr0)) ?_ ?_
  · refine Nat.Coprime.mul_right (Rat.reduced _) (Nat.Coprime.mul_right ?_ ?_)
    · exact hal.coprime_dvd_left h1
    · exact har.coprime_dvd_left h1
  · rw [Rat.add_def', Rat.mkRat_eq_iff (Nat.mul_ne_zero (Rat.den_nz _) (Nat.mul_ne_zero hl0 hr0)) (Nat.mul_ne_zero a.den_nz b.den_nz)]
    have h2 : mkRat t g = mkRat (mkRat t g).num (mkRat t g).den := (Rat.mkRat_self _).symm
    rw [Rat.mkRat_eq_iff hg0 (Rat.den_nz _)] at h2
    generalize (mkRat t g).num = pn at h2 ⊢
    generalize (mkRat t g).den = pd at h2 ⊢
    rw [ha, hb]
    simp only [Int.natCast_mul]
    have e1 : pn * ((g : Int) * r * (g * l)) = (pn * g) * (r * (g * l)) := by ac_rfl
    have e2 : (a.num * ((g : Int) * l) + b.num * (g * r)) * (pd * (l * r)) = (a.num * l + b.num * r) * pd * (r * (g * l)) := by
      rw [Int.add_mul, Int.add_mul, Int.add_mul]
      congr 1 <;> ac_rfl
    rw [e1, e2, ht, h2]
theorem inv_num (x : Rat) (h : x.num ≠ 0) : (x⁻¹).num = Go.Proofs.Ytpidpebgeblenaa.sgn (decide (x.num < 0)) x.den := by
  rw [Rat.num_inv]
  unfold sgn
  by_cases h1 : x.num < 0
  · simp [h1, Int.sign_eq_neg_one_of_neg h1]
  · have : 0 < x.num := by omega
    simp [h1, Int.sign_eq_one_of_pos this]
theorem inv_den (x : Rat) (h : x.num ≠ 0) : (x⁻¹).den = x.num.natAbs := by rw [Rat.den_inv, if_neg h]
theorem cmpN_nil (x : Nat) : (cmpN x 0 == 0) = decide (x = 0) := by
  unfold cmpN
  by_cases h : x = 0
  · subst h; simp
  · have : 0 < x := by omega
    simp [h, this]
theorem cmpN_unit (x : Nat) : (cmpN x 1 == 0) = decide (x = 1) := by
  unfold cmpN
  rcases Nat.lt_trichotomy x 1 with h | h | h
  · have : x ≠ 1 := by omega
    simp [h, this]
  · subst h; simp
  · have h2 : x ≠ 1 := by omega
    have h3 : ¬ x < 1 := by omega
    simp only [if_neg h3, if_pos h, h2, decide_false]
    rfl
end Go.Proofs.Ytpidpebgeblenaa

/-
  Plain arithmetic of long division: digits shifted within rows, products taken off rows, guesses.
-/
namespace Go.Proofs.Ytpidpebgeblenaa

/-- A digit shifted up, what stays and what goes over. -/
def shlD (x s : Nat) : Nat := x * 2 ^ s % B64
def shrD (x s : Nat) : Nat := x / 2 ^ (64 - s)
theorem B64_parts {s : Nat} (hs : s ≤ 64) : 2 ^ s * 2 ^ (64 - s) = B64 := by
  rw [B64_two, ← Nat.pow_add]
  congr 1
  omega
theorem shlD_mul (x : Nat) {s : Nat} (hs : s ≤ 64) : shlD x s = 2 ^ s * (x % 2 ^ (64 - s)) := by
  unfold shlD
  rw [← B64_parts hs, Nat.mul_comm x, Nat.mul_mod_mul_left]
theorem sh_split (x : Nat) {s : Nat} (hs : s ≤ 64) : shlD x s + B64 * shrD x s = x * 2 ^ s := by
  rw [shlD_mul x hs, ← B64_parts hs, Nat.mul_assoc, ← Nat.mul_add]
  unfold shrD
  rw [Nat.mod_add_div, Nat.mul_comm]
theorem shlD_add_lt (x : Nat) {s c : Nat} (hs : s ≤ 64) (hc : c < 2 ^ s) : shlD x s + c < B64 := by
  rw [shlD_mul x hs, ← B64_parts hs]
  have h1 : x % 2 ^ (64 - s) + 1 ≤ 2 ^ (64 - s) := Nat.mod_lt _ (Nat.pow_pos (by omega))
  have h2 : 2 ^ s * (x % 2 ^ (64 - s) + 1) ≤ 2 ^ s * 2 ^ (64 - s) := Nat.mul_le_mul_left _ h1
  rw [Nat.mul_add, Nat.mul_one] at h2
  omega
theorem shrD_lt {x s : Nat} (hx : x < B64) (hs : s ≤ 64) : shrD x s < 2 ^ s := by
  unfold shrD
  rw [Nat.div_lt_iff_lt_mul (Nat.pow_pos (by omega)), B64_parts hs]
  exact hx

/-- What has been reckoned of a row shifted up when k digits are done. -/
def RaisedAt (l R : List Nat) (k s c : Nat) : Prop := Dig R ∧ R.length = k ∧ c < 2 ^ s ∧ val R + B64 ^ k * c = val (l.take k) * 2 ^ s
theorem RaisedAt.start (l : List Nat) (s : Nat) : RaisedAt l [] 0 s 0 := ⟨Dig.nil, rfl, Nat.pow_pos (by omega), by simp [val_nil]⟩
theorem RaisedAt.step {l R : List Nat} {k s c : Nat} (h : RaisedAt l R k s c) (hl : Dig l) (hs : s ≤ 64) : RaisedAt l (R ++ [shlD (l[k]?.getD 0) s + c]) (k + 1) s (shrD (l[k]?.getD 0) s) := by
  obtain ⟨h1, h2, h3, h4⟩ := h
  refine ⟨h1.snoc (shlD_add_lt _ hs h3), by simp [h2], shrD_lt (hl.get k) hs, ?_⟩
  rw [val_snoc, h2, val_take_succ, Nat.add_mul, ← h4, Nat.pow_succ]
  have h5 := sh_split (l[k]?.getD 0) hs
  generalize l[k]?.getD 0 = x at *
  have h6 : B64 ^ k * (shlD x s + B64 * shrD x s) = B64 ^ k * (x * 2 ^ s) := by rw [h5]
  rw [Nat.mul_add, ← Nat.mul_assoc, ← Nat.mul_assoc] at h6
  rw [Nat.mul_add]
  omega
theorem RaisedAt.done {l R : List Nat} {k s c : Nat} (h : RaisedAt l R k s c) (hk : k = l.length) (hs : s ≤ 64) : Dig (R ++ [c]) ∧ (R ++ [c]).length = l.length + 1 ∧ val (R ++ [c]) = val l * 2 ^ s := by
  obtain ⟨h1, h2, h3, h4⟩ := h
  have h5 : c < B64 := Nat.lt_of_lt_of_le h3 (by rw [B64_two]; exact Nat.pow_le_pow_right (by omega) hs)
  refine ⟨h1.snoc h5, by simp [h2, hk], ?_⟩
  rw [val_snoc, h2, h4, List.take_of_length_le (by omega)]

theorem get_dig {l : List Nat} (hl : Dig l) (j : Nat) : l[j]?.getD 0 = dig (val l) j := by
  induction j generalizing l with
  | zero =>
    cases l with
    | nil => simp [dig, val_nil]
    | cons x xs => unfold dig; rw [Nat.pow_zero, Nat.div_one, val_cons, Nat.add_mul_mod_self_left, Nat.mod_eq_of_lt hl.head]; rfl
  | succ j ih =>
    cases l with
    | nil => simp [dig, val_nil]
    | cons x xs =>
      rw [List.getElem?_cons_succ, ih hl.tail]
      unfold dig
      rw [val_cons, Nat.pow_succ, Nat.mul_comm _ B64, ← Nat.div_div_eq_div_mul, Nat.add_mul_div_left _ _ B64_pos, Nat.div_eq_of_lt hl.head, Nat.zero_add]

/-- A digit shifted down, with what comes from the one above. -/
theorem low_dig {x : Nat} (hx : x < B64) (y : Nat) {s : Nat} (hs : s ≤ 64) : x / 2 ^ s + shlD y (64 - s) = sh2 x y s := by
  unfold sh2 shlD
  have e : B64 * y = 2 ^ s * (2 ^ (64 - s) * y) := by rw [← Nat.mul_assoc, B64_parts hs]
  rw [e, Nat.add_mul_div_left _ _ (Nat.pow_pos (by omega)), Nat.mul_comm y]
  have h1 : x / 2 ^ s < 2 ^ (64 - s) := by
    rw [Nat.div_lt_iff_lt_mul (Nat.pow_pos (by omega)), Nat.mul_comm, B64_parts hs]; exact hx
  have h2 : 2 ^ (64 - s) * y % B64 = 2 ^ (64 - s) * (y % 2 ^ s) := by rw [← B64_parts hs, Nat.mul_comm (2 ^ s), Nat.mul_mod_mul_left]
  have h3 : y % 2 ^ s + 1 ≤ 2 ^ s := Nat.mod_lt _ (Nat.pow_pos (by omega))
  have h4 : 2 ^ (64 - s) * (y % 2 ^ s + 1) ≤ 2 ^ (64 - s) * 2 ^ s := Nat.mul_le_mul_left _ h3
  rw [Nat.mul_comm (2 ^ (64 - s)) (2 ^ s), B64_parts hs, Nat.mul_add, Nat.mul_one] at h4
  have h5 : (x / 2 ^ s + 2 ^ (64 - s) * y) % B64 = (x / 2 ^ s + 2 ^ (64 - s) * (y % 2 ^ s)) % B64 := by
    rw [Nat.add_mod, h2, ← Nat.add_mod_mod, Nat.mod_add_mod, ← h2, Nat.mod_mod, h2]
  rw [h5, h2]
  generalize 2 ^ (64 - s) * (y % 2 ^ s) = z at *
  exact (Nat.mod_eq_of_lt (by omega)).symm
theorem low_row {l : List Nat} (hl : Dig l) {s : Nat} (hs : s < 64) (k : Nat) : l[k]?.getD 0 / 2 ^ s + shlD (l[k + 1]?.getD 0) (64 - s) = dig (val l / 2 ^ s) k := by
  rw [low_dig (hl.get k) _ (by omega), get_dig hl, get_dig hl]
  have := shr_dig (val l) s k
  rw [Nat.div_eq_of_lt hs, Nat.zero_add, Nat.mod_eq_of_lt hs] at this
  exact this
theorem low_done {l : List Nat} (hl : Dig l) (s : Nat) : val (digs (val l / 2 ^ s) l.length) = val l / 2 ^ s :=
  digs_all (Nat.lt_of_le_of_lt (Nat.div_le_self _ _) (val_lt hl))

/-- What has been reckoned when x times the first k digits of l is taken off P. -/
def LessAt (P Q : List Nat) (k x : Nat) (l : List Nat) (c : Nat) : Prop :=
  Dig Q ∧ Q.length = P.length ∧ c < B64 ∧ (∀ j, k ≤ j → Q[j]?.getD 0 = P[j]?.getD 0) ∧ val Q + x * val (l.take k) = val P + B64 ^ k * c
theorem LessAt.start {P : List Nat} (h : Dig P) (x : Nat) (l : List Nat) : LessAt P P 0 x l 0 :=
  ⟨h, rfl, B64_pos, fun _ _ => rfl, by simp [val_nil]⟩
/-- What is owed to the next digit. -/
def owed (x y q c : Nat) : Nat := mulHi y x + sumHi (mulLo y x) c 0 + subHi q (sumLo (mulLo y x) c 0) 0
/-- The digit that is left. -/
def lessD (x y q c : Nat) : Nat := subLo q (sumLo (mulLo y x) c 0) 0
theorem lessD_lt (x y q c : Nat) : lessD x y q c < B64 := subLo_lt _ _ _
theorem owed_split {x y q c : Nat} (hq : q < B64) : lessD x y q c + (y * x + c) = q + B64 * owed x y q c := by
  have h1 := sum_split (mulLo y x) c 0
  have h2 : mulLo y x + B64 * mulHi y x = y * x := Nat.mod_add_div _ _
  have h3 := sub_split hq (sumLo_lt (mulLo y x) c 0) (Nat.zero_le 1)
  unfold lessD owed
  rw [Nat.mul_add, Nat.mul_add]
  omega
theorem owed_lt {x y q c : Nat} (hx : x < B64) (hy : y < B64) (hc : c < B64) : mulHi y x + sumHi (mulLo y x) c 0 < B64 ∧ owed x y q c < B64 := by
  have h1 := sum_split (mulLo y x) c 0
  have h2 : mulLo y x + B64 * mulHi y x = y * x := Nat.mod_add_div _ _
  have h4 : y * x ≤ (B64 - 1) * (B64 - 1) := Nat.mul_le_mul (by omega) (by omega)
  have h5 : B64 * (mulHi y x + sumHi (mulLo y x) c 0) + sumLo (mulLo y x) c 0 ≤ B64 * (B64 - 1) := by
    have e : (B64 - 1) * (B64 - 1) + (B64 - 1) = B64 * (B64 - 1) := by unfold B64; omega
    rw [Nat.mul_add]
    omega
  unfold owed
  have hb := subHi_le q (sumLo (mulLo y x) c 0) 0
  have hz : sumLo (mulLo y x) c 0 = 0 → subHi q (sumLo (mulLo y x) c 0) 0 = 0 := fun h => by unfold subHi; rw [h]; simp
  generalize mulHi y x + sumHi (mulLo y x) c 0 = a at *
  generalize subHi q (sumLo (mulLo y x) c 0) 0 = b at *
  generalize sumLo (mulLo y x) c 0 = d at *
  unfold B64 at *
  omega
theorem LessAt.step {P Q l : List Nat} {k x c : Nat} (h : LessAt P Q k x l c) (hx : x < B64) (hl : Dig l) (hk : k < P.length) :
    LessAt P (Q.set k (lessD x (l[k]?.getD 0) (Q[k]?.getD 0) c)) (k + 1) x l (owed x (l[k]?.getD 0) (Q[k]?.getD 0) c) := by
  obtain ⟨hd, hlen, hc, hsame, hv⟩ := h
  refine ⟨hd.set _ (lessD_lt _ _ _ _), by rw [List.length_set, hlen], (owed_lt hx (hl.get k) hc).2, fun j hj => ?_, ?_⟩
  · rw [List.getElem?_set_ne (by omega)]; exact hsame j (by omega)
  · have hs := val_set (l := Q) (k := k) (by omega) (lessD x (l[k]?.getD 0) (Q[k]?.getD 0) c)
    have hm := owed_split (x := x) (y := l[k]?.getD 0) (c := c) (hd.get k)
    rw [val_take_succ, Nat.pow_succ, Nat.mul_assoc]
    generalize lessD x (l[k]?.getD 0) (Q[k]?.getD 0) c = d at *
    generalize owed x (l[k]?.getD 0) (Q[k]?.getD 0) c = o at *
    generalize Q[k]?.getD 0 = q at *
    generalize l[k]?.getD 0 = y at *
    have h1 : B64 ^ k * d + (B64 ^ k * (y * x) + B64 ^ k * c) = B64 ^ k * q + B64 ^ k * (B64 * o) := by
      rw [← Nat.mul_add, ← Nat.mul_add, hm, Nat.mul_add]
    have h2 : x * (val (l.take k) + B64 ^ k * y) = x * val (l.take k) + B64 ^ k * (y * x) := by
      rw [Nat.mul_add]
      have : x * (B64 ^ k * y) = B64 ^ k * (y * x) := by ac_rfl
      rw [this]
    rw [h2]
    omega
theorem LessAt.done {P Q l : List Nat} {x c : Nat} (h : LessAt P Q l.length x l c) (hk : P.length = l.length + 1) :
    Dig (Q.set l.length (subLo (Q[l.length]?.getD 0) c 0)) ∧ (Q.set l.length (subLo (Q[l.length]?.getD 0) c 0)).length = l.length + 1 ∧ val (Q.set l.length (subLo (Q[l.length]?.getD 0) c 0)) + x * val l = val P + B64 ^ (l.length + 1) * subHi (Q[l.length]?.getD 0) c 0 := by
  obtain ⟨hd, hlen, hc, hsame, hv⟩ := h
  refine ⟨hd.set _ (subLo_lt _ _ _), by rw [List.length_set, hlen, hk], ?_⟩
  have hs := val_set (l := Q) (k := l.length) (by omega) (subLo (Q[l.length]?.getD 0) c 0)
  have hm := sub_split (hd.get l.length) hc (Nat.zero_le 1)
  rw [List.take_of_length_le (Nat.le_refl _)] at hv
  generalize subLo (Q[l.length]?.getD 0) c 0 = d at *
  generalize subHi (Q[l.length]?.getD 0) c 0 = b at *
  generalize Q[l.length]?.getD 0 = q at *
  rw [Nat.pow_succ, Nat.mul_assoc]
  have h1 : B64 ^ l.length * d + B64 ^ l.length * c = B64 ^ l.length * q + B64 ^ l.length * (B64 * b) := by
    rw [← Nat.mul_add, ← Nat.mul_add]; congr 1
  omega

/-- What has been reckoned when the first k digits of l are added to P. -/
def BackAt (P Q : List Nat) (k : Nat) (l : List Nat) (c : Nat) : Prop :=
  Dig Q ∧ Q.length = P.length ∧ c ≤ 1 ∧ val Q + B64 ^ k * c = val P + val (l.take k)
theorem BackAt.start {P : List Nat} (h : Dig P) (l : List Nat) : BackAt P P 0 l 0 := ⟨h, rfl, by omega, by simp [val_nil]⟩
theorem BackAt.step {P Q l : List Nat} {k c : Nat} (h : BackAt P Q k l c) (hl : Dig l) (hk : k < P.length) :
    BackAt P (Q.set k (sumLo (Q[k]?.getD 0) (l[k]?.getD 0) c)) (k + 1) l (sumHi (Q[k]?.getD 0) (l[k]?.getD 0) c) := by
  obtain ⟨hd, hlen, hc, hv⟩ := h
  refine ⟨hd.set _ (sumLo_lt _ _ _), by rw [List.length_set, hlen], sumHi_le (hd.get k) (hl.get k) hc, ?_⟩
  have hs := val_set (l := Q) (k := k) (by omega) (sumLo (Q[k]?.getD 0) (l[k]?.getD 0) c)
  have hm := sum_split (Q[k]?.getD 0) (l[k]?.getD 0) c
  rw [val_take_succ, Nat.pow_succ, Nat.mul_assoc]
  generalize sumLo (Q[k]?.getD 0) (l[k]?.getD 0) c = d at *
  generalize sumHi (Q[k]?.getD 0) (l[k]?.getD 0) c = o at *
  generalize Q[k]?.getD 0 = q at *
  generalize l[k]?.getD 0 = y at *
  have h1 : B64 ^ k * d + B64 ^ k * (B64 * o) = B64 ^ k * q + B64 ^ k * y + B64 ^ k * c := by
    rw [← Nat.mul_add, hm, Nat.mul_add, Nat.mul_add]
  omega
theorem BackAt.done {P Q l : List Nat} {c : Nat} (h : BackAt P Q l.length l c) (hk : P.length = l.length + 1) :
    Dig (Q.set l.length (sumLo (Q[l.length]?.getD 0) c 0)) ∧ (Q.set l.length (sumLo (Q[l.length]?.getD 0) c 0)).length = l.length + 1 ∧ ∃ b, val (Q.set l.length (sumLo (Q[l.length]?.getD 0) c 0)) + B64 ^ (l.length + 1) * b = val P + val l := by
  obtain ⟨hd, hlen, hc, hv⟩ := h
  refine ⟨hd.set _ (sumLo_lt _ _ _), by rw [List.length_set, hlen, hk], sumHi (Q[l.length]?.getD 0) c 0, ?_⟩
  have hs := val_set (l := Q) (k := l.length) (by omega) (sumLo (Q[l.length]?.getD 0) c 0)
  have hm := sum_split (Q[l.length]?.getD 0) c 0
  rw [List.take_of_length_le (Nat.le_refl _)] at hv
  generalize sumLo (Q[l.length]?.getD 0) c 0 = d at *
  generalize sumHi (Q[l.length]?.getD 0) c 0 = b at *
  generalize Q[l.length]?.getD 0 = q at *
  rw [Nat.pow_succ, Nat.mul_assoc]
  have h1 : B64 ^ l.length * d + B64 ^ l.length * (B64 * b) = B64 ^ l.length * q + B64 ^ l.length * c := by
    rw [← Nat.mul_add, ← Nat.mul_add]; congr 1
  omega

/-- A guess is good: it is how often D goes into R, or one more. -/
def Good (R D t : Nat) : Prop := R < (t + 1) * D ∧ t * D ≤ R + D ∧ t < B64

/-- Nothing was borrowed: the guess is right. -/
theorem good_zero {R D t v : Nat} (h : Good R D t) (hv : v + t * D = R) : R / D = t ∧ R % D = v := by
  obtain ⟨h1, h2, _⟩ := h
  rw [Nat.add_mul, Nat.one_mul] at h1
  have hlt : v < D := by omega
  have e : R = v + D * t := by rw [Nat.mul_comm D]; omega
  have hD : 0 < D := by omega
  rw [e, Nat.add_mul_div_left _ _ hD, Nat.div_eq_of_lt hlt, Nat.add_mul_mod_self_left, Nat.mod_eq_of_lt hlt]
  omega
/-- Something was: it is one less. -/
theorem good_one {R D t v u M b : Nat} (h : Good R D t) (hv : v + t * D = R + M) (hvM : v < M) (hD : D ≤ M) (hu : u + M * b = v + D) (huM : u < M) : t ≠ 0 ∧ R / D = t - 1 ∧ R % D = u := by
  obtain ⟨h1, h2, _⟩ := h
  have ht : t ≠ 0 := fun e => by subst e; omega
  obtain ⟨t', rfl⟩ : ∃ t', t = t' + 1 := ⟨t - 1, by omega⟩
  rw [Nat.add_sub_cancel]
  rw [Nat.add_mul, Nat.one_mul] at hv h2
  have hb : b = 1 := by
    rcases Nat.lt_or_ge b 1 with h3 | h3
    · have : b = 0 := by omega
      subst this; omega
    · rcases Nat.lt_or_ge 1 b with h4 | h4
      · have : M * 2 ≤ M * b := Nat.mul_le_mul_left _ h4
        omega
      · omega
  subst hb
  have hlt : u < D := by omega
  have e : R = u + D * t' := by rw [Nat.mul_comm D]; omega
  have hD0 : 0 < D := by omega
  refine ⟨ht, ?_⟩
  rw [e, Nat.add_mul_div_left _ _ hD0, Nat.div_eq_of_lt hlt, Nat.add_mul_mod_self_left, Nat.mod_eq_of_lt hlt]
  omega

end Go.Proofs.Ytpidpebgeblenaa

/-
  Plain arithmetic of a division's guesses: of digits (the program's), and of halves of a digit (the library's).
-/
namespace Go.Proofs.Ytpidpebgeblenaa

/-- What a guess sees: the two top digits of R and of D; P: what the places below the top one hold. -/
structure Seen (R D P u v1 v2 d1 r : Nat) : Prop where
  hD : D = v1 * P + d1
  hR : R = u * P + r
  hd : d1 < P
  hr : r < P
  lo : v2 * P ≤ B64 * d1
  hi : B64 * d1 < (v2 + 1) * P
  top : B64 ≤ 2 * v1
  v1lt : v1 < B64
  v2lt : v2 < B64

theorem Seen.first {R D P u v1 v2 d1 r t h : Nat} (S : Seen R D P u v1 v2 d1 r) (e : t * v1 + h = u) (hh : h < v1) : R < (t + 1) * D := by
  have h1 : R < (u + 1) * P := by rw [S.hR, Nat.add_mul]; have := S.hr; omega
  have h2 : (u + 1) * P ≤ (t + 1) * v1 * P := Nat.mul_le_mul_right _ (by rw [Nat.add_mul]; omega)
  have h3 : (t + 1) * (v1 * P) ≤ (t + 1) * D := Nat.mul_le_mul_left _ (by rw [S.hD]; omega)
  rw [← Nat.mul_assoc] at h3
  omega
theorem Seen.less {R D P u v1 v2 d1 r t h : Nat} (S : Seen R D P u v1 v2 d1 r) (e : t * v1 + h = u) (hc : (h + 1) * B64 ≤ t * v2) : R < t * D := by
  have h1 : R < (u + 1) * P := by rw [S.hR, Nat.add_mul]; have := S.hr; omega
  have h2 : t * (v2 * P) ≤ t * (B64 * d1) := Nat.mul_le_mul_left _ S.lo
  have h3 : (h + 1) * B64 * P ≤ t * v2 * P := Nat.mul_le_mul_right _ hc
  have h4 : (h + 1) * P ≤ t * d1 := by
    refine Nat.le_of_mul_le_mul_left (c := B64) ?_ B64_pos
    calc B64 * ((h + 1) * P) = (h + 1) * B64 * P := by ac_rfl
      _ ≤ t * v2 * P := h3
      _ = t * (v2 * P) := by ac_rfl
      _ ≤ t * (B64 * d1) := h2
      _ = B64 * (t * d1) := by ac_rfl
  have h5 : t * D = t * v1 * P + t * d1 := by rw [S.hD, Nat.mul_add, Nat.mul_assoc]
  have h6 : (u + 1) * P = t * v1 * P + (h + 1) * P := by rw [← Nat.add_mul]; congr 1; omega
  omega
theorem Seen.done {R D P u v1 v2 d1 r t h : Nat} (S : Seen R D P u v1 v2 d1 r) (e : t * v1 + h = u) (ht : t < B64) (hc : t * v2 < (h + 1) * B64) : t * D ≤ R + D := by
  have h5 : t * D = t * v1 * P + t * d1 := by rw [S.hD, Nat.mul_add, Nat.mul_assoc]
  have h1 : t * (B64 * d1) ≤ t * ((v2 + 1) * P) := Nat.mul_le_mul_left _ (Nat.le_of_lt S.hi)
  have h2 : t * v2 + t ≤ (h + 2) * B64 := by rw [Nat.add_mul] at hc ⊢; omega
  have h3 : t * d1 ≤ (h + 2) * P := by
    refine Nat.le_of_mul_le_mul_left (c := B64) ?_ B64_pos
    calc B64 * (t * d1) = t * (B64 * d1) := by ac_rfl
      _ ≤ t * ((v2 + 1) * P) := h1
      _ = (t * v2 + t) * P := by rw [← Nat.mul_assoc, Nat.mul_add, Nat.mul_one]
      _ ≤ (h + 2) * B64 * P := Nat.mul_le_mul_right _ h2
      _ = B64 * ((h + 2) * P) := by ac_rfl
  have h6 : u * P = t * v1 * P + h * P := by rw [← Nat.add_mul]; congr 1; omega
  have h7 : 2 * P ≤ v1 * P := Nat.mul_le_mul_right _ (by have := S.top; have := B64_gt; unfold B64 at *; omega)
  have h8 : (h + 2) * P = h * P + 2 * P := Nat.add_mul ..
  have h9 := S.hR
  have h10 := S.hD
  omega
theorem Seen.great {R D P u v1 v2 d1 r : Nat} (S : Seen R D P u v1 v2 d1 r) (hu : v1 * B64 ≤ u) (hlt : R < B64 * D) : Good R D (B64 - 1) := by
  have e : B64 - 1 + 1 = B64 := by have := B64_pos; omega
  refine ⟨by rw [e]; exact hlt, ?_, by have := B64_pos; omega⟩
  obtain ⟨b, hb⟩ : ∃ b, B64 = b + 2 := ⟨B64 - 2, by unfold B64; omega⟩
  have h1 : b * D ≤ R := by
    have h2 : b * D ≤ b * ((v1 + 1) * P) := Nat.mul_le_mul_left _ (by rw [S.hD, Nat.add_mul]; have := S.hd; omega)
    have h3 : b * (v1 + 1) ≤ v1 * B64 := by
      have := S.top
      rw [hb] at this ⊢
      rw [Nat.mul_add, Nat.mul_add, Nat.mul_comm v1 b]
      omega
    have h4 : b * (v1 + 1) * P ≤ u * P := Nat.mul_le_mul_right _ (Nat.le_trans h3 hu)
    rw [← Nat.mul_assoc] at h2
    have := S.hR
    omega
  rw [hb, show b + 2 - 1 = b + 1 by omega, Nat.add_mul, Nat.one_mul]
  omega

theorem mulHi_le_iff {a b h : Nat} : mulHi a b ≤ h ↔ a * b < (h + 1) * B64 := by
  unfold mulHi
  rw [← Nat.lt_succ_iff, Nat.div_lt_iff_lt_mul B64_pos]



/-- One half of the library's division: u is less than y, d is a half. -/
structure Half (u y y1 y0 d q r : Nat) : Prop where
  hy : y = y1 * H32 + y0
  h0 : y0 < H32
  h1 : y1 < H32
  top : H32 ≤ 2 * y1
  hu : u < y
  hd : d < H32
  hq : q * y1 + r = u
  hlt : u * H32 + d < (q + 1) * y

theorem Half.start {u y y1 y0 d : Nat} (hy : y = y1 * H32 + y0) (h0 : y0 < H32) (h1 : y1 < H32) (top : H32 ≤ 2 * y1) (hu : u < y) (hd : d < H32) : Half u y y1 y0 d (u / y1) (u % y1) := by
  have hy1 : 0 < y1 := by unfold H32 at top; omega
  have e : u / y1 * y1 + u % y1 = u := by rw [Nat.mul_comm]; exact Nat.div_add_mod u y1
  refine ⟨hy, h0, h1, top, hu, hd, e, ?_⟩
  have h2 := Nat.mod_lt u hy1
  have h3 : u + 1 ≤ (u / y1 + 1) * y1 := by rw [Nat.add_mul]; omega
  have h4 : (u + 1) * H32 ≤ (u / y1 + 1) * y1 * H32 := Nat.mul_le_mul_right _ h3
  have h5 : (u / y1 + 1) * (y1 * H32) ≤ (u / y1 + 1) * y := Nat.mul_le_mul_left _ (by omega)
  rw [← Nat.mul_assoc] at h5
  rw [Nat.add_mul, Nat.one_mul] at h4
  omega
theorem Half.r_lt {u y1 : Nat} (top : H32 ≤ 2 * y1) : u % y1 < y1 := Nat.mod_lt _ (by unfold H32 at top; omega)
/-- The test of the library's loop, read as numbers. -/
def tooBig (q y0 r d : Nat) : Prop := H32 ≤ q ∨ H32 * r + d < q * y0
theorem Half.pos {u y y1 y0 d q r : Nat} (h : Half u y y1 y0 d q r) (ht : tooBig q y0 r d) : u * H32 + d < q * y ∧ 0 < q := by
  have e : q * y = q * y1 * H32 + q * y0 := by rw [h.hy, Nat.mul_add, Nat.mul_assoc]
  have h2 : u * H32 = q * y1 * H32 + r * H32 := by rw [← Nat.add_mul, h.hq]
  have hlt : u * H32 + d < q * y := by
    rcases ht with ht | ht
    · have h3 : H32 * y ≤ q * y := Nat.mul_le_mul_right _ ht
      have h4 : (u + 1) * H32 ≤ y * H32 := Nat.mul_le_mul_right _ h.hu
      rw [Nat.add_mul, Nat.one_mul] at h4
      have := h.hd
      rw [Nat.mul_comm] at h3
      omega
    · rw [Nat.mul_comm H32] at ht
      omega
  refine ⟨hlt, ?_⟩
  rcases Nat.eq_zero_or_pos q with h3 | h3
  · subst h3; omega
  · exact h3
theorem Half.step {u y y1 y0 d q r : Nat} (h : Half u y y1 y0 d q r) (ht : tooBig q y0 r d) : Half u y y1 y0 d (q - 1) (r + y1) := by
  obtain ⟨h1, h2⟩ := h.pos ht
  refine ⟨h.hy, h.h0, h.h1, h.top, h.hu, h.hd, ?_, by rw [Nat.sub_add_cancel h2]; exact h1⟩
  have := h.hq
  obtain ⟨p, rfl⟩ : ∃ p, q = p + 1 := ⟨q - 1, by omega⟩
  rw [Nat.add_sub_cancel]
  rw [Nat.add_mul] at this
  omega
/-- It ends either way with the quotient. -/
theorem Half.fin {u y y1 y0 d q r : Nat} (h : Half u y y1 y0 d q r) (ht : H32 ≤ r ∨ ¬ tooBig q y0 r d) : q = (u * H32 + d) / y ∧ q < H32 := by
  have e : q * y = q * y1 * H32 + q * y0 := by rw [h.hy, Nat.mul_add, Nat.mul_assoc]
  have h2 : u * H32 = q * y1 * H32 + r * H32 := by rw [← Nat.add_mul, h.hq]
  have h0 := h.h0
  have key : q * y ≤ u * H32 + d ∧ q < H32 := by
    rcases ht with ht | ht
    · have hq : q < H32 := by
        rcases Nat.lt_or_ge q H32 with h3 | h3
        · exact h3
        · have h4 : H32 * y1 ≤ q * y1 := Nat.mul_le_mul_right _ h3
          have := h.hq
          have := h.hu
          have h5 := h.hy
          rw [Nat.mul_comm] at h5
          omega
      refine ⟨?_, hq⟩
      have h3 : q * y0 ≤ H32 * H32 := Nat.mul_le_mul (by omega) (by omega)
      have h4 : H32 * H32 ≤ r * H32 := Nat.mul_le_mul_right _ ht
      omega
    · unfold tooBig at ht
      have h3 : ¬ H32 ≤ q := fun k => ht (.inl k)
      have h4 : ¬ H32 * r + d < q * y0 := fun k => ht (.inr k)
      rw [Nat.mul_comm H32] at h4
      omega
  refine ⟨?_, key.2⟩
  have hlt := h.hlt
  have hy0 : 0 < y := by have := h.hu; omega
  refine (Nat.div_eq_of_lt_le ?_ ?_).symm
  · exact key.1
  · exact hlt
theorem Half.q_le {u y y1 y0 d q r : Nat} (h : Half u y y1 y0 d q r) : q ≤ 2 * H32 := by
  rcases Nat.lt_or_ge (2 * H32) q with h3 | h3
  · have h4 : 2 * H32 * y1 ≤ q * y1 := Nat.mul_le_mul_right _ (by omega)
    have := h.hq
    have := h.hu
    have h5 := h.hy
    have h6 : y1 * H32 * 2 = 2 * H32 * y1 := by ac_rfl
    have := h.h0
    have h7 : H32 ≤ y1 * H32 := Nat.le_mul_of_pos_left _ (by have := h.top; unfold H32 at this; omega)
    omega
  · exact h3

/-- Both halves together. -/
theorem both_halves {hi l1 l0 y q1 u q0 : Nat} (hy : 0 < y) (e1 : q1 = (hi * H32 + l1) / y) (eu : u = (hi * H32 + l1) % y) (e0 : q0 = (u * H32 + l0) / y) :
    q1 * H32 + q0 = (hi * B64 + (l1 * H32 + l0)) / y ∧ (u * H32 + l0) % y = (hi * B64 + (l1 * H32 + l0)) % y := by
  have h1 : hi * H32 + l1 = u + y * q1 := by rw [e1, eu]; exact (Nat.mod_add_div _ _).symm
  have h2 : hi * B64 + (l1 * H32 + l0) = (u * H32 + l0) + y * (q1 * H32) := by
    have : (hi * H32 + l1) * H32 = (u + y * q1) * H32 := by rw [h1]
    rw [Nat.add_mul, Nat.add_mul, Nat.mul_assoc, Nat.mul_assoc, H32_sq] at this
    omega
  rw [h2, Nat.add_mul_div_left _ _ hy, Nat.add_mul_mod_self_left, e0]
  exact ⟨by omega, rfl⟩

end Go.Proofs.Ytpidpebgeblenaa

/-
  The contracts of div's trim, limb, raised, isShift, and of the library's Clone.
-/
namespace Go.Proofs.Ytpidpebgeblenaa
open Go.RowKit
/-- Two digits' figures that do not meet, joined by an or. -/
theorem or_shl (x : Nat) {s c : Nat} (hs : s ≤ 64) (hc : c < 2 ^ s) : bits .or .u64 (IntKind.u64.wrap ((x : Int) * 2 ^ s)) (c : Int) = ((shlD x s + c : Nat) : Int) := by
  have hlt := shlD_add_lt x hs hc
  have e1 : IntKind.u64.wrap ((x : Int) * 2 ^ s) = ((shlD x s : Nat) : Int) := by
    rw [IntKind.wrap_u64, show (18446744073709551616 : Int) = (B64 : Int) from rfl]
    unfold shlD
    simp
  rw [e1]
  have key : (BitVec.ofInt 64 ((shlD x s : Nat) : Int) ||| BitVec.ofInt 64 (c : Int)).toNat = shlD x s + c := by
    have h1 : ((shlD x s : Nat) : Int) % ((2 ^ 64 : Nat) : Int) = ((shlD x s : Nat) : Int) := Int.emod_eq_of_lt (by omega) (by rw [← B64_two]; omega)
    have h2 : (c : Int) % ((2 ^ 64 : Nat) : Int) = (c : Int) := Int.emod_eq_of_lt (by omega) (by rw [← B64_two]; omega)
    rw [BitVec.toNat_or, BitVec.toNat_ofInt, BitVec.toNat_ofInt, h1, h2, Int.toNat_natCast, Int.toNat_natCast, shlD_mul x hs]
    exact (Nat.two_pow_add_eq_or_of_lt hc _).symm
  show IntKind.u64.wrap ((BitVec.ofInt 64 ((shlD x s : Nat) : Int) ||| BitVec.ofInt 64 (c : Int)).toNat : Nat) = _
  rw [key, IntKind.wrap_u64]
  unfold B64 at hlt
  omega

theorem shr_eq (x s : Nat) : (x : Int) / 2 ^ (64 - s) = ((shrD x s : Nat) : Int) := by
  unfold shrD
  simp

end Go.Proofs.Ytpidpebgeblenaa

/-
  The contracts of div's lowered, and of the library's Clone and LeadingZeros64.
-/
namespace Go.Proofs.Ytpidpebgeblenaa
set_option maxRecDepth 100000
open Go.RowKit

theorem or_low {x : Nat} (hx : x < B64) (y : Nat) {s : Nat} (hs : s ≤ 64) : bits .or .u64 ((x : Int) / 2 ^ s) (IntKind.u64.wrap ((y : Int) * 2 ^ (64 - s))) = ((x / 2 ^ s + shlD y (64 - s) : Nat) : Int) := by
  have h1 : x / 2 ^ s < 2 ^ (64 - s) := by
    rw [Nat.div_lt_iff_lt_mul (Nat.pow_pos (by omega)), Nat.mul_comm, B64_parts hs]; exact hx
  have h2 := or_shl y (s := 64 - s) (by omega) h1
  rw [Nat.add_comm, ← h2]
  show IntKind.u64.wrap ((BitVec.ofInt 64 _ ||| BitVec.ofInt 64 _).toNat : Nat) = IntKind.u64.wrap ((BitVec.ofInt 64 _ ||| BitVec.ofInt 64 _).toNat : Nat)
  rw [BitVec.or_comm]
  simp

/-- A number of digits, copied into new memory. -/
theorem append_src {w : World} {b off n c : Nat} {l : List Nat} (h : Lim w.heap.size w (some ⟨b, off, none⟩) n c l) (h0 : 0 < n) (o : Obj) : ∀ (j : Nat) u, (l.map encD)[j]? = some u → (w.alloc o).cell? ((⟨b, off, none⟩ : Addr).add j) = some u := by
  intro j u hu
  obtain ⟨b', off', e, hb, hcell⟩ := h.2.2.2 h0
  injection e with e
  injection e with e1 e2
  subst e1; subst e2
  have hj : j < n := by
    have := (List.getElem?_eq_some_iff.1 hu).1
    rw [List.length_map] at this
    have := h.1; omega
  have e1 : ((⟨b, off, none⟩ : Addr).add j) = ⟨b, off + j, none⟩ := by unfold Addr.add; split <;> simp_all
  rw [e1, World.cell?_alloc_lt _ _ _ hb, hcell j hj]
  rw [List.getElem?_map] at hu
  have hjl : j < l.length := by have := h.1; omega
  rw [List.getElem?_eq_getElem hjl] at hu ⊢
  exact hu

set_option maxHeartbeats 400000 in
theorem lead_any (x : Nat) (w : World) (hx : x < B64) : Calls Try.prog 94 #[.int .u64 (x : Int)] w fun e w' => e = .returned (.int .i64 ((64 - blen x : Nat) : Int)) ∧ w = w' := by
  have hb : blen x ≤ 64 := blen_le (by rw [← B64_two]; exact hx)
  go_enter Try.func94, Try.ntmps94
  go_wp2_with (go_at_call 100; refine (len64_any _ _ hx).mono ?_; rintro e w' ⟨rfl, rfl⟩)
  go_ret
  exact ⟨ret_i64 (by omega), rfl⟩

end Go.Proofs.Ytpidpebgeblenaa

/-
  The contracts of zed: signed, Right, Of, Int, Neg, Cmp.
-/
namespace Go.Proofs.Ytpidpebgeblenaa
set_option maxRecDepth 100000
open Go.RowKit
set_option linter.unusedVariables false

set_option maxHeartbeats 1000000 in
theorem signed_N {w : World} {A : Option Addr} {n c x : Nat} (b : Bool) (ha : Num w A n c x) (hn : n ≤ 1000000) : Calls Try.prog 96 #[.bool b, .slice A n c] w (GotZ w (sgn b x)) := by
  have hl := ha.len
  by_cases h0 : n = 0
  · subst h0
    have hx : x = 0 := by
      have h2 := val_limbs x
      rw [List.eq_nil_of_length_eq_zero hl.symm] at h2
      exact h2.symm
    subst hx
    have hz : Zn w false A 0 c (sgn b 0) := by
      refine ⟨by rw [sgn_abs]; exact ha, ?_⟩
      unfold sgn; split <;> rfl
    clear hl
    cases b
    all_goals
      go_enter Try.func96, Try.ntmps96
      go_wp2_with fail
      refine bodyPost_ret (v := .agg #[.bool false, .slice A 0 c]) (by simp [results, Try.results96, go_sem]) rfl ⟨_, _, _, _, rfl, hz.on ?_, ?_⟩
      all_goals exact (Below.refl _ w).alloc (Nat.le_refl _) _
  · have hx : x ≠ 0 := fun h => by rw [h, limbs_zero] at hl; simp at hl; omega
    have hn0 : (0 : Int) < (n : Int) := by omega
    have hz : Zn w b A n c (sgn b x) := by
      refine ⟨by rw [sgn_abs]; exact ha, ?_⟩
      unfold sgn
      cases b
      · simp
      · simp; omega
    clear hl
    cases b
    all_goals
      go_enter Try.func96, Try.ntmps96
      go_wp2_with fail
    · refine bodyPost_ret (v := .agg #[.bool false, .slice A n c]) (by simp [results, Try.results96, go_sem]) rfl ⟨_, _, _, _, rfl, hz.on ?_, ?_⟩
      all_goals exact (Below.refl _ w).alloc (Nat.le_refl _) _
    · refine bodyPost_ret (v := .agg #[.bool true, .slice A n c]) (by simp [results, Try.results96, go_sem]; omega) rfl ⟨_, _, _, _, rfl, hz.on ?_, ?_⟩
      all_goals exact (Below.refl _ w).alloc (Nat.le_refl _) _

set_option maxRecDepth 100000 in
set_option maxHeartbeats 2000000 in
theorem zof_N (w : World) (z : Int) (h : I64 z) : Calls Try.prog 85 #[.int .i64 z] w (GotZ w z) := by
  have hx := h.abs
  obtain ⟨x, hxe⟩ : ∃ x, z.natAbs = x := ⟨_, rfl⟩
  rw [hxe] at hx
  obtain ⟨W, hW⟩ : ∃ W, w.alloc (.cells #[.bool false, .slice none 0 0] 119) = W := ⟨_, rfl⟩
  have hB : Below w.heap.size w W := by rw [← hW]; exact below_one w _
  have hsz : W.heap.size = w.heap.size + 1 := by rw [← hW]; simp
  have c1 : W.cell? ⟨w.heap.size, 0, none⟩ = some (.bool false) := by rw [← hW]; simp [go_sem]
  have c2 : W.cell? ⟨w.heap.size, 1, none⟩ = some (.slice none 0 0) := by rw [← hW]; simp [go_sem]
  have c3 : W.frozen? ⟨w.heap.size, 0, none⟩ = false := by rw [← hW]; simp [go_sem]
  have c4 : W.frozen? ⟨w.heap.size, 1, none⟩ = false := by rw [← hW]; simp [go_sem]
  have HSZ := Lib.hid hsz
  clear hsz
  have hl := len_one hx
  by_cases hz : z < 0
  · have hs : sgn true x = z := by rw [← hxe]; exact sgn_of (by simp [hz])
    have e1 : IntKind.u64.wrap (-IntKind.u64.wrap z) = (x : Int) := by
      unfold I64 at h; rw [IntKind.wrap_u64, IntKind.wrap_u64]; omega
    have HS := Lib.hid hs
    clear hs hxe
    go_enter Try.func85, Try.ntmps85
    go_wp2_with fail
    clear hW e1
    refine (of_N W x hx).mono ?_
    rintro e w1 ⟨A1, n1, k1, rfl, hm, b1⟩
    go_wp2_with fail
    refine (signed_N _ hm (by rw [hm.len]; omega)).mono ?_
    rintro e w2 ⟨b2, A2, n2, k2, rfl, hz2, b2'⟩
    have b12 := b1.trans (b2'.mono b1.size)
    have hsz := HSZ.out
    have g1 := (b12.cell (p := ⟨w.heap.size, 0, none⟩) (by simp; omega)).trans c1
    have g2 := (b12.cell (p := ⟨w.heap.size, 1, none⟩) (by simp; omega)).trans c2
    have g3 := (b12.frozen (p := ⟨w.heap.size, 0, none⟩) (by simp; omega)).trans c3
    have g4 := (b12.frozen (p := ⟨w.heap.size, 1, none⟩) (by simp; omega)).trans c4
    rw [HS.out] at hz2
    have HZ := Lib.hid (hz2.stored g1 g2)
    have HB := hB.trans (b12.mono hB.size)
    clear hsz b12 b1 b2' hz2 hm
    go_wp2_with fail
    refine bodyPost_ret (v := .agg #[.bool b2, .slice A2 n2 k2]) (by simp [results, Try.results85, go_sem, g1, g2]) rfl ⟨_, _, _, _, rfl, HZ.out, ?_⟩
    exact (HB.setCell (p := ⟨w.heap.size, 0, none⟩) (Nat.le_refl _) _).setCell (p := ⟨w.heap.size, 1, none⟩) (Nat.le_refl _) _
  · have hs : sgn false x = z := by rw [← hxe]; exact sgn_of (by simp [hz])
    have e1 : IntKind.u64.wrap z = (x : Int) := by
      unfold I64 at h; rw [IntKind.wrap_u64]; omega
    have HS := Lib.hid hs
    clear hs hxe
    go_enter Try.func85, Try.ntmps85
    go_wp2_with fail
    clear hW e1
    refine (of_N W x hx).mono ?_
    rintro e w1 ⟨A1, n1, k1, rfl, hm, b1⟩
    go_wp2_with fail
    refine (signed_N _ hm (by rw [hm.len]; omega)).mono ?_
    rintro e w2 ⟨b2, A2, n2, k2, rfl, hz2, b2'⟩
    have b12 := b1.trans (b2'.mono b1.size)
    have hsz := HSZ.out
    have g1 := (b12.cell (p := ⟨w.heap.size, 0, none⟩) (by simp; omega)).trans c1
    have g2 := (b12.cell (p := ⟨w.heap.size, 1, none⟩) (by simp; omega)).trans c2
    have g3 := (b12.frozen (p := ⟨w.heap.size, 0, none⟩) (by simp; omega)).trans c3
    have g4 := (b12.frozen (p := ⟨w.heap.size, 1, none⟩) (by simp; omega)).trans c4
    rw [HS.out] at hz2
    have HZ := Lib.hid (hz2.stored g1 g2)
    have HB := hB.trans (b12.mono hB.size)
    clear hsz b12 b1 b2' hz2 hm
    go_wp2_with fail
    refine bodyPost_ret (v := .agg #[.bool b2, .slice A2 n2 k2]) (by simp [results, Try.results85, go_sem, g1, g2]) rfl ⟨_, _, _, _, rfl, HZ.out, ?_⟩
    exact (HB.setCell (p := ⟨w.heap.size, 0, none⟩) (Nat.le_refl _) _).setCell (p := ⟨w.heap.size, 1, none⟩) (Nat.le_refl _) _

set_option maxRecDepth 100000 in
set_option maxHeartbeats 2000000 in
theorem zint_yes {w : World} {b : Bool} {A : Option Addr} {n c : Nat} {z : Int} (ha : Zn w b A n c z) (h : I64 z) :
    Calls Try.prog 95 #[.agg #[.bool b, .slice A n c]] w (GotV w (.tuple #[.int .i64 z, .bool true])) := by
  have hx := h.abs
  obtain ⟨x, hxe⟩ : ∃ x, z.natAbs = x := ⟨_, rfl⟩
  rw [hxe] at hx
  have hB := below_one w (.cells #[.bool b, .slice A n c] 119)
  have ha' := ha.1.on hB
  rw [hxe] at ha'
  have hl := len_one hx
  have hn : n ≤ 9223372036854775807 := by rw [ha'.len]; omega
  have HC := Lib.hid (small_any A n c x _ ha' hn hx)
  have hs := ha.2
  by_cases hz : z < 0
  · have hbt := abs_sgn hs hz
    subst hbt
    have e2 : (x : Int) ≤ 9223372036854775808 := by unfold I64 at h; omega
    have e3 : IntKind.i64.wrap (IntKind.u64.wrap (-(x : Int))) = z := by
      rw [IntKind.wrap_u64, IntKind.wrap_i64]; omega
    have E3 := Lib.hid e3
    clear hxe hs ha hz
    go_enter Try.func95, Try.ntmps95
    go_wp2_with fail
    refine HC.out.mono ?_
    rintro e w' ⟨rfl, rfl⟩
    go_wp2_with fail
    go_ret2
    exact ⟨rfl, hB⟩
  · have hbt := abs_sgn' hs hz
    subst hbt
    have e2 : (x : Int) < 9223372036854775808 := by unfold I64 at h; omega
    have e3 : IntKind.i64.wrap (x : Int) = z := by rw [IntWalk.i64_in _ (by omega)]; omega
    clear hxe hs ha hz
    go_enter Try.func95, Try.ntmps95
    go_wp2_with fail
    refine HC.out.mono ?_
    rintro e w' ⟨rfl, rfl⟩
    go_wp2_with fail
    go_ret2
    exact ⟨rfl, hB⟩

set_option maxRecDepth 100000 in
set_option maxHeartbeats 2000000 in
theorem zint_no {w : World} {b : Bool} {A : Option Addr} {n c : Nat} {z : Int} (ha : Zn w b A n c z) (hx : (limbs z.natAbs).length ≤ 300) (h : ¬ I64 z) :
    Calls Try.prog 95 #[.agg #[.bool b, .slice A n c]] w (GotV w (.tuple #[.int .i64 0, .bool false])) := by
  obtain ⟨x, hxe⟩ : ∃ x, z.natAbs = x := ⟨_, rfl⟩
  rw [hxe] at hx
  have hB := below_one w (.cells #[.bool b, .slice A n c] 119)
  have ha' := ha.1.on hB
  rw [hxe] at ha'
  have hn : n ≤ 9223372036854775807 := by rw [ha'.len]; omega
  have hs := ha.2
  rcases Nat.lt_or_ge x B64 with hlt | hge
  · have HC := Lib.hid (small_any A n c x _ ha' hn hlt)
    by_cases hz : z < 0
    · have hbt := abs_sgn hs hz
      subst hbt
      have e2 : ¬ (x : Int) ≤ 9223372036854775808 := by unfold I64 at h; omega
      clear hxe hs ha hz
      go_enter Try.func95, Try.ntmps95
      go_wp2_with fail
      refine HC.out.mono ?_
      rintro e w' ⟨rfl, rfl⟩
      go_wp2_with fail
      go_ret2
      exact ⟨rfl, hB⟩
    · have hbt := abs_sgn' hs hz
      subst hbt
      have e2 : decide ((x : Int) < 9223372036854775808) = false := by simp; unfold I64 at h; omega
      clear hxe hs ha hz hn hlt
      go_enter Try.func95, Try.ntmps95
      go_wp2_with fail
      refine HC.out.mono ?_
      rintro e w' ⟨rfl, rfl⟩
      go_wp2_with fail
      go_ret2
      exact ⟨rfl, hB⟩
  · have HC := Lib.hid (small_great A n c x _ ha' hn hge)
    clear hxe hs ha
    go_enter Try.func95, Try.ntmps95
    go_wp2_with fail
    refine HC.out.mono ?_
    rintro e w' ⟨rfl, rfl⟩
    go_wp2_with fail
    go_ret2
    exact ⟨rfl, hB⟩

set_option maxHeartbeats 2000000 in
theorem zcmp_N {w : World} {b b' : Bool} {A B : Option Addr} {n c m d : Nat} {z z' : Int} (ha : Zn w b A n c z) (hb : Zn w b' B m d z') (hx : (limbs z.natAbs).length ≤ 300) (hy : (limbs z'.natAbs).length ≤ 300) :
    Calls Try.prog 87 #[.agg #[.bool b, .slice A n c], .agg #[.bool b', .slice B m d]] w (GotV w (.int .i64 (cmpZ z z'))) := by
  have hB := below_two w (.cells #[.bool b, .slice A n c] 119) (.cells #[.bool b', .slice B m d] 119)
  have ha' := ha.1.on hB
  have hb' := hb.1.on hB
  have s1 := ha.2
  have s2 := hb.2
  cases b with
  | true =>
    have hz : z < 0 := by simpa using s1.symm
    cases b' with
    | true =>
      have hz' : z' < 0 := by simpa using s2.symm
      have he : cmpZ z z' = cmpN z'.natAbs z.natAbs := by
        have h1 := cmpZ_neg hz hz'
        rw [h1]
        unfold cmpN
        by_cases h2 : z.natAbs < z'.natAbs
        · rw [if_pos h2, if_neg (by omega), if_pos (by omega)]; rfl
        · rw [if_neg h2]
          by_cases h3 : z'.natAbs < z.natAbs
          · rw [if_pos h3, if_pos (by omega)]
          · rw [if_neg h3, if_neg (by omega), if_neg (by omega)]; rfl
      have HE := Lib.hid he
      clear s1 s2 hz hz' ha hb he
      go_enter Try.func87, Try.ntmps87
      go_wp2_with fail
      refine (cmp_N hb' ha' (by omega) (by omega)).mono ?_
      rintro e w1 ⟨rfl, b1⟩
      go_wp2_with fail
      go_ret
      refine ⟨ret_i64 HE.out.symm, hB.trans (b1.mono hB.size)⟩
    | false =>
      have hz' : ¬ z' < 0 := by simpa using s2.symm
      have HE := Lib.hid (cmpZ_np hz hz')
      clear s1 s2 hz hz' ha hb
      go_enter Try.func87, Try.ntmps87
      go_wp2_with fail
      go_ret
      rw [HE.out]
      exact ⟨rfl, hB⟩
  | false =>
    have hz : ¬ z < 0 := by simpa using s1.symm
    cases b' with
    | true =>
      have hz' : z' < 0 := by simpa using s2.symm
      have HE := Lib.hid (cmpZ_pn hz hz')
      clear s1 s2 hz hz' ha hb
      go_enter Try.func87, Try.ntmps87
      go_wp2_with fail
      go_ret
      rw [HE.out]
      exact ⟨rfl, hB⟩
    | false =>
      have hz' : ¬ z' < 0 := by simpa using s2.symm
      have HE := Lib.hid (cmpZ_pos hz hz')
      clear s1 s2 hz hz' ha hb
      go_enter Try.func87, Try.ntmps87
      go_wp2_with fail
      refine (cmp_N ha' hb' (by omega) (by omega)).mono ?_
      rintro e w1 ⟨rfl, b1⟩
      go_wp2_with fail
      go_ret
      refine ⟨ret_i64 HE.out.symm, hB.trans (b1.mono hB.size)⟩

end Go.Proofs.Ytpidpebgeblenaa

/-
  Facts carried over what a call does: short names, so that texts stay short.
-/
namespace Go.Proofs.Ytpidpebgeblenaa
open Go.RowKit
theorem cK {n : Nat} {w w' : World} (b : Below n w w') {p : Addr} {v : Option Value} (h : w.cell? p = v) (l : p.block < n) : w'.cell? p = v := (b.cell l).trans h
theorem fK {n : Nat} {w w' : World} (b : Below n w w') {p : Addr} {v : Bool} (h : w.frozen? p = v) (l : p.block < n) : w'.frozen? p = v := (b.frozen l).trans h
theorem lK {n : Nat} {w w' : World} (b : Below n w w') {a : Nat} (l : a < w.heap.size) : a < w'.heap.size := Nat.lt_of_lt_of_le l b.size
theorem bK {w w1 w2 : World} (c : Below w.heap.size w w1) (b : Below w1.heap.size w1 w2) : Below w.heap.size w w2 := c.trans (b.mono c.size)
theorem cR {n : Nat} {w w' : World} (b : Below n w w') {g i : Nat} (l : g < n) : w.cell? ⟨g, i, none⟩ = w'.cell? ⟨g, i, none⟩ := (b.cell (p := ⟨g, i, none⟩) l).symm
theorem fR {n : Nat} {w w' : World} (b : Below n w w') {g i : Nat} (l : g < n) : w.frozen? ⟨g, i, none⟩ = w'.frozen? ⟨g, i, none⟩ := (b.frozen (p := ⟨g, i, none⟩) l).symm
/-- A new box's cells, and that they may be written. -/
def Cs2 (w : World) (g : Nat) (a b : Value) : Prop := w.cell? ⟨g, 0, none⟩ = some a ∧ w.cell? ⟨g, 1, none⟩ = some b
def Cs3 (w : World) (g : Nat) (a b c : Value) : Prop := w.cell? ⟨g, 0, none⟩ = some a ∧ w.cell? ⟨g, 1, none⟩ = some b ∧ w.cell? ⟨g, 2, none⟩ = some c
def Cs6 (w : World) (g : Nat) (a b c d e f : Value) : Prop := w.cell? ⟨g, 0, none⟩ = some a ∧ w.cell? ⟨g, 1, none⟩ = some b ∧ w.cell? ⟨g, 2, none⟩ = some c ∧ w.cell? ⟨g, 3, none⟩ = some d ∧ w.cell? ⟨g, 4, none⟩ = some e ∧ w.cell? ⟨g, 5, none⟩ = some f
def Fz2 (w : World) (g : Nat) : Prop := w.frozen? ⟨g, 0, none⟩ = false ∧ w.frozen? ⟨g, 1, none⟩ = false
def Fz3 (w : World) (g : Nat) : Prop := w.frozen? ⟨g, 0, none⟩ = false ∧ w.frozen? ⟨g, 1, none⟩ = false ∧ w.frozen? ⟨g, 2, none⟩ = false
def Fz6 (w : World) (g : Nat) : Prop := w.frozen? ⟨g, 0, none⟩ = false ∧ w.frozen? ⟨g, 1, none⟩ = false ∧ w.frozen? ⟨g, 2, none⟩ = false ∧ w.frozen? ⟨g, 3, none⟩ = false ∧ w.frozen? ⟨g, 4, none⟩ = false ∧ w.frozen? ⟨g, 5, none⟩ = false
theorem pT {α : Type} : (∀ (l : List α) (i : Nat) (h : i < l.toArray.size), l.toArray[i]'h = l[i]'(by simpa using h)) ∧ (∀ (a : α) (l : List α) (h : 0 < (a :: l).length), (a :: l)[0]'h = a) ∧ (∀ (a : α) (l : List α) (i : Nat) (h : i + 1 < (a :: l).length), (a :: l)[i + 1]'h = l[i]'(by simpa using h)) ∧ (∀ (l : List α) (i : Nat) (v : α), l.toArray.setIfInBounds i v = (l.set i v).toArray) ∧ (∀ (a : α) (l : List α) (v : α), (a :: l).set 0 v = v :: l) ∧ (∀ (a : α) (l : List α) (i : Nat) (v : α), (a :: l).set (i + 1) v = a :: l.set i v) :=
  ⟨fun _ _ _ => by simp, fun _ _ _ => rfl, fun _ _ _ _ => rfl, fun _ _ _ => by simp, fun _ _ _ => rfl, fun _ _ _ _ => rfl⟩
theorem cl_lt {w : World} {p : Addr} {v : Value} (h : w.cell? p = some v) : p.block < w.heap.size := by
  rcases Nat.lt_or_ge p.block w.heap.size with h1 | h1
  · exact h1
  · simp [World.cell?, Array.getElem?_eq_none h1] at h
theorem zb2 {n g : Nat} {w w' : World} (q : Below n w w') (l : g < n) (c : Cs2 w g (.bool false) (.slice none 0 0)) (f : Fz2 w g) : w'.cell? ⟨g, 0, none⟩ = some (.bool false) ∧ w'.frozen? ⟨g, 0, none⟩ = false ∧ w'.cell? ⟨g, 1, none⟩ = some (.slice none 0 0) ∧ w'.frozen? ⟨g, 1, none⟩ = false ∧ g < w'.heap.size := ⟨cK q c.1 l, fK q f.1 l, cK q c.2 l, fK q f.2 l, Nat.lt_of_lt_of_le (cl_lt c.1) q.size⟩
theorem zb3 {n g : Nat} {w w' : World} (q : Below n w w') (l : g < n) (c : Cs3 w g (.bool false) (.slice none 0 0) (.slice none 0 0)) (f : Fz3 w g) : w'.cell? ⟨g, 0, none⟩ = some (.bool false) ∧ w'.frozen? ⟨g, 0, none⟩ = false ∧ w'.cell? ⟨g, 1, none⟩ = some (.slice none 0 0) ∧ w'.frozen? ⟨g, 1, none⟩ = false ∧ w'.cell? ⟨g, 2, none⟩ = some (.slice none 0 0) ∧ w'.frozen? ⟨g, 2, none⟩ = false ∧ g < w'.heap.size := ⟨cK q c.1 l, fK q f.1 l, cK q c.2.1 l, fK q f.2.1 l, cK q c.2.2 l, fK q f.2.2 l, Nat.lt_of_lt_of_le (cl_lt c.1) q.size⟩
theorem zb6 {n g : Nat} {w w' : World} (q : Below n w w') (l : g < n) (c : Cs6 w g (.bool false) (.slice none 0 0) (.slice none 0 0) (.bool false) (.slice none 0 0) (.slice none 0 0)) (f : Fz6 w g) : w'.cell? ⟨g, 0, none⟩ = some (.bool false) ∧ w'.frozen? ⟨g, 0, none⟩ = false ∧ w'.cell? ⟨g, 1, none⟩ = some (.slice none 0 0) ∧ w'.frozen? ⟨g, 1, none⟩ = false ∧ w'.cell? ⟨g, 2, none⟩ = some (.slice none 0 0) ∧ w'.frozen? ⟨g, 2, none⟩ = false ∧ w'.cell? ⟨g, 3, none⟩ = some (.bool false) ∧ w'.frozen? ⟨g, 3, none⟩ = false ∧ w'.cell? ⟨g, 4, none⟩ = some (.slice none 0 0) ∧ w'.frozen? ⟨g, 4, none⟩ = false ∧ w'.cell? ⟨g, 5, none⟩ = some (.slice none 0 0) ∧ w'.frozen? ⟨g, 5, none⟩ = false ∧ g < w'.heap.size := ⟨cK q c.1 l, fK q f.1 l, cK q c.2.1 l, fK q f.2.1 l, cK q c.2.2.1 l, fK q f.2.2.1 l, cK q c.2.2.2.1 l, fK q f.2.2.2.1 l, cK q c.2.2.2.2.1 l, fK q f.2.2.2.2.1 l, cK q c.2.2.2.2.2 l, fK q f.2.2.2.2.2 l, Nat.lt_of_lt_of_le (cl_lt c.1) q.size⟩
theorem uK {V y z x : World} (qq : Below V.heap.size V y) (up : Below y.heap.size y z) (q : Below z.heap.size z x) : Below V.heap.size V x := (qq.trans (up.mono qq.size)).trans (q.mono (Nat.le_trans qq.size up.size))
end Go.Proofs.Ytpidpebgeblenaa

/-
  The contracts of zed: Mul, Add.
-/
namespace Go.Proofs.Ytpidpebgeblenaa
set_option maxRecDepth 100000
open Go.RowKit
set_option linter.unusedVariables false

set_option maxRecDepth 100000 in
set_option maxHeartbeats 2000000 in
theorem zmul_N {w : World} {b b' : Bool} {A B : Option Addr} {n c m d : Nat} {z z' : Int} (ha : Zn w b A n c z) (hb : Zn w b' B m d z') (hx : (limbs z.natAbs).length ≤ 1000) (hy : (limbs z'.natAbs).length ≤ 1000) :
    Calls Try.prog 84 #[.agg #[.bool b, .slice A n c], .agg #[.bool b', .slice B m d]] w (GotZ w (z * z')) := by
  obtain ⟨W, hW⟩ : ∃ W, ((w.alloc (.cells #[.bool b, .slice A n c] 119)).alloc (.cells #[.bool b', .slice B m d] 119)).alloc (.cells #[.bool false, .slice none 0 0] 119) = W := ⟨_, rfl⟩
  have hB : Below w.heap.size w W := by rw [← hW]; exact (below_two w (.cells #[.bool b, .slice A n c] 119) (.cells #[.bool b', .slice B m d] 119)).alloc (by simp; omega) (.cells #[.bool false, .slice none 0 0] 119)
  have hsz : W.heap.size = w.heap.size + 3 := by rw [← hW]; simp
  have hBd : Below w.heap.size w W.drew := below_drewN hB 1
  have ha' : Num W.drew A n c z.natAbs := ha.1.on hBd
  have hb' : Num W.drew B m d z'.natAbs := hb.1.on hBd
  have c1 : W.cell? ⟨w.heap.size, 0, none⟩ = some (.bool b) := by rw [← hW]; simp [go_sem]
  have c2 : W.cell? ⟨w.heap.size, 1, none⟩ = some (.slice A n c) := by rw [← hW]; simp [go_sem]
  have c3 : W.cell? ⟨w.heap.size + 1, 0, none⟩ = some (.bool b') := by rw [← hW]; simp [go_sem]
  have c4 : W.cell? ⟨w.heap.size + 1, 1, none⟩ = some (.slice B m d) := by rw [← hW]; simp [go_sem]
  have c5 : W.cell? ⟨w.heap.size + 1 + 1, 0, none⟩ = some (.bool false) := by rw [← hW]; simp [go_sem]
  have c6 : W.cell? ⟨w.heap.size + 1 + 1, 1, none⟩ = some (.slice none 0 0) := by rw [← hW]; simp [go_sem]
  have c7 : W.frozen? ⟨w.heap.size + 1 + 1, 0, none⟩ = false := by rw [← hW]; simp [go_sem]
  have c8 : W.frozen? ⟨w.heap.size + 1 + 1, 1, none⟩ = false := by rw [← hW]; simp [go_sem]
  have HS : Hid (sgn (!(b == b')) (z.natAbs * z'.natAbs) = z * z') := Lib.hid (sgn_mul ha.2 hb.2)
  have hl := limbs_length_mul hx hy
  have hcall : Calls Try.prog 97 #[.slice A n c, .slice B m d] W.drew fun e w' => ∃ A1 n1 c1, e = .returned (.slice A1 n1 c1) ∧ Num w' A1 n1 c1 (z.natAbs * z'.natAbs) ∧ Below W.heap.size W w' := (mul_N ha' hb' (by omega) (by omega)).mono fun _ _ ⟨A1, n1, c1, he, hm, hb⟩ => ⟨A1, n1, c1, he, hm, ⟨hb.os, hb.tape, hb.output, hb.size, hb.block⟩⟩
  have HC := Lib.hid hcall
  have HW := Lib.hid hW
  clear hcall
  go_enter Try.func84, Try.ntmps84
  go_wp2_with fail
  clear hW HW
  go_region_held3 (fun w' => w'.cell? ⟨w.heap.size, 0, none⟩ = some (.bool b) ∧ w'.cell? ⟨w.heap.size, 1, none⟩ = some (.slice A n c) ∧ w'.cell? ⟨w.heap.size + 1, 0, none⟩ = some (.bool b') ∧ w'.cell? ⟨w.heap.size + 1, 1, none⟩ = some (.slice B m d))
    (first | exact ⟨(cell_store (by omega)).trans ((hb1.cell (p := ⟨w.heap.size, 0, none⟩) (by simp; omega)).trans c1), (cell_store (by omega)).trans ((hb1.cell (p := ⟨w.heap.size, 1, none⟩) (by simp; omega)).trans c2), (cell_store (by omega)).trans ((hb1.cell (p := ⟨w.heap.size + 1, 0, none⟩) (by simp; omega)).trans c3), (cell_store (by omega)).trans ((hb1.cell (p := ⟨w.heap.size + 1, 1, none⟩) (by simp; omega)).trans c4)⟩ | go_keep | exact ⟨(hb1.cell (p := ⟨w.heap.size, 0, none⟩) (by simp; omega)).trans c1, (hb1.cell (p := ⟨w.heap.size, 1, none⟩) (by simp; omega)).trans c2, (hb1.cell (p := ⟨w.heap.size + 1, 0, none⟩) (by simp; omega)).trans c3, (hb1.cell (p := ⟨w.heap.size + 1, 1, none⟩) (by simp; omega)).trans c4⟩)
    (first
      | (go_at_call 97; (with_reducible refine HC.out.mono ?_); rintro e w1 ⟨A1, n1, k1, rfl, hm, hb1⟩)
      | (go_at_call 96; (with_reducible refine (signed_N _ hm (by rw [hm.len]; omega)).mono ?_); rintro e w2 ⟨b2, A2, n2, k2, rfl, hz2, hb2⟩; replace hb1 := bK hb1 hb2; have e5 := (hb1.cell (p := ⟨w.heap.size + 1 + 1, 0, none⟩) (by simp; omega)).trans c5; have e6 := (hb1.cell (p := ⟨w.heap.size + 1 + 1, 1, none⟩) (by simp; omega)).trans c6; have e7 := (hb1.frozen (p := ⟨w.heap.size + 1 + 1, 0, none⟩) (by simp; omega)).trans c7; have e8 := (hb1.frozen (p := ⟨w.heap.size + 1 + 1, 1, none⟩) (by simp; omega)).trans c8))
  rw [HS.out] at hz2
  have HZ := Lib.hid (hz2.stored e5 e6)
  have HB : Below w.heap.size w w2 := hB.trans (hb1.mono hB.size)
  go_wp2_with fail
  refine bodyPost_ret (v := .agg #[.bool b2, .slice A2 n2 k2]) (by simp [results, Try.results84, go_sem, e5, e6]) rfl ⟨_, _, _, _, rfl, HZ.out, ?_⟩
  exact (HB.setCell (p := ⟨w.heap.size + 1 + 1, 0, none⟩) (show w.heap.size ≤ w.heap.size + 1 + 1 by omega) _).setCell (p := ⟨w.heap.size + 1 + 1, 1, none⟩) (show w.heap.size ≤ w.heap.size + 1 + 1 by omega) _

end Go.Proofs.Ytpidpebgeblenaa

/-
  The contracts of the library's Grow and Concat.
-/
namespace Go.Proofs.Ytpidpebgeblenaa
open Go.RowKit
theorem Lim.src {w w' : World} {b off n c : Nat} {l : List Nat} (h : Lim w.heap.size w (some ⟨b, off, none⟩) n c l) (hb : Below w.heap.size w w') : ∀ (j : Nat) u, (l.map encD)[j]? = some u → w'.cell? ((⟨b, off, none⟩ : Addr).add j) = some u := by
  intro j u hu
  have hj : j < n := by
    have := (List.getElem?_eq_some_iff.1 hu).1
    rw [List.length_map] at this
    have := h.1; omega
  obtain ⟨b', off', e, hlt, hcell⟩ := h.2.2.2 (by omega)
  injection e with e
  injection e with e1 e2
  subst e1; subst e2
  have e1 : ((⟨b, off, none⟩ : Addr).add j) = ⟨b, off + j, none⟩ := by unfold Addr.add; split <;> simp_all
  rw [e1, hb.cell (p := ⟨b, off + j, none⟩) hlt, hcell j hj]
  rw [List.getElem?_map] at hu
  have hjl : j < l.length := by have := h.1; omega
  rw [List.getElem?_eq_getElem hjl] at hu ⊢
  exact hu

end Go.Proofs.Ytpidpebgeblenaa

/-
  The contracts of div's Shl and Shr.
-/
namespace Go.Proofs.Ytpidpebgeblenaa
set_option maxRecDepth 100000
open Go.RowKit

theorem val_drop {l : List Nat} (hl : Dig l) (q : Nat) : val (l.drop q) = val l / B64 ^ q := by
  induction q generalizing l with
  | zero => simp
  | succ q ih =>
    cases l with
    | nil => simp [val_nil]
    | cons x xs => rw [List.drop_succ_cons, ih hl.tail, val_cons, Nat.pow_succ, Nat.mul_comm _ B64, ← Nat.div_div_eq_div_mul, Nat.add_mul_div_left _ _ B64_pos, Nat.div_eq_of_lt hl.head, Nat.zero_add]
theorem Dig.drop {l : List Nat} (h : Dig l) (k : Nat) : Dig (l.drop k) := fun x hx => h x (List.mem_of_mem_drop hx)
theorem Lim.dropped {B : Nat} {w : World} {b off n c q : Nat} {l : List Nat} (h : Lim B w (some ⟨b, off, none⟩) n c l) (hq : q < n) : Lim B w (some ⟨b, off + q, none⟩) (n - q) (c - q) (l.drop q) := by
  refine ⟨by rw [List.length_drop, ← h.1], by have := h.2.1; omega, h.2.2.1.drop q, fun _ => ⟨b, off + q, rfl, ?_, fun j hj => ?_⟩⟩
  · obtain ⟨b', off', e, hb, _⟩ := h.2.2.2 (by omega)
    injection e with e
    injection e with e1 e2
    omega
  · obtain ⟨b', off', e, _, hc⟩ := h.2.2.2 (by omega)
    injection e with e
    injection e with e1 e2
    subst e1; subst e2
    have := hc (q + j) (by omega)
    rw [← Nat.add_assoc] at this
    rw [this, List.getElem?_drop]

theorem GotNF.from {w w1 : World} {x : Nat} {e : Ending} {w' : World} (h : GotNF w1 x e w') (hb : Below w.heap.size w w1) : GotNF w x e w' := by
  obtain ⟨A, n, c, he, hl, hb', hf⟩ := h
  exact ⟨A, n, c, he, hl, hb.trans (hb'.mono hb.size), hf.mono hb.size⟩

/-- A row's digits, shifted down and trimmed: the number that is left. -/
theorem shr_shr (x k : Nat) : x / B64 ^ (k / 64) / 2 ^ (k % 64) = x / 2 ^ k := by
  rw [B64_pow2, Nat.div_div_eq_div_mul, ← Nat.pow_add]
  congr 2
  omega
theorem shl_shl (x k : Nat) : B64 ^ (k / 64) * (x * 2 ^ (k % 64)) = x * 2 ^ k := by
  rw [B64_pow2, ← Nat.mul_assoc, Nat.mul_comm _ x, Nat.mul_assoc, ← Nat.pow_add]
  congr 2
  omega
theorem val_append (a b : List Nat) : val (a ++ b) = val a + B64 ^ a.length * val b := by
  induction a with
  | nil => simp [val_nil]
  | cons x xs ih =>
    have e : B64 * (B64 ^ xs.length * val b) = B64 ^ xs.length * B64 * val b := by ac_rfl
    rw [List.cons_append, val_cons, ih, val_cons, List.length_cons, Nat.pow_succ, Nat.mul_add, e]
    omega
/-- A row of noughts. -/
def zrow (q : Nat) : Obj := .cells (madeCells #[.int .u64 0] q) 103
theorem zrow_run (q : Nat) (hq : q ≤ 1000000) (W : World) : (Instr.makeSlice 116 (.int .i64 (q : Int)) (.int .i64 (q : Int))).run Try.prog W = .ok (.slice (some ⟨W.heap.size, 0, none⟩) q q) (W.alloc (zrow q)) := by
  obtain ⟨i0, hi, hz0, hz1, hz2⟩ := info_parts info24
  have h := run_make (P := Try.prog) W 116 103 i0 (.int .u64 0) Try.underlying116 hi hz0 .i64 .i64 (q : Int) (q : Int) (by omega) (Int.le_refl _) (by rw [hz2]; omega) (by omega)
  rw [hz1, Int.toNat_natCast, Nat.mul_one] at h
  exact h
theorem zrow_lim (q : Nat) (hq : q ≤ 1000000) (W : World) : Lim (W.alloc (zrow q)).heap.size (W.alloc (zrow q)) (some ⟨W.heap.size, 0, none⟩) q q (List.replicate q 0) := by
  refine Lim.of_own (base := 0) (e := 103) ?_ (dig_zeros q)
  refine ⟨by simp, .inr ⟨W.heap.size, q, madeCells #[.int .u64 0] q, rfl, Nat.zero_le _, heap_alloc_new W _, Nat.le_refl _, by unfold maxLen; omega, by rw [size_madeCells, Nat.mul_one], ?_⟩⟩
  rw [toList_madeCells_one, List.map_replicate, Nat.mul_one, List.take_of_length_le (by simp)]
  rfl
theorem Lim.alloc {w : World} {A : Option Addr} {n c : Nat} {l : List Nat} (h : Lim w.heap.size w A n c l) (o : Obj) : Lim (w.alloc o).heap.size (w.alloc o) A n c l :=
  (h.below ((Below.refl _ w).alloc (Nat.le_refl _) o)).more (by simp)

end Go.Proofs.Ytpidpebgeblenaa

/-
  The contract of the library's Div64, for a divisor whose top bit is set.
-/
namespace Go.Proofs.Ytpidpebgeblenaa
set_option maxRecDepth 100000
open Go.RowKit

theorem lead_zero {y : Nat} (w : World) (hy : y < B64) (ht : B64 ≤ 2 * y) : Calls Try.prog 94 #[.int .u64 (y : Int)] w fun e w' => e = .returned (.int .i64 0) ∧ w = w' := by
  have e : blen y = 64 := blen_eq (k := 63) (by rw [show (2 : Nat) ^ 63 = B64 / 2 from rfl]; omega) (by rw [← B64_two]; exact hy)
  refine (lead_any y w hy).mono ?_
  rintro e' w' ⟨rfl, rfl⟩
  rw [e]
  exact ⟨rfl, rfl⟩

theorem wrap_nat {n : Nat} (h : n < B64) : IntKind.u64.wrap (n : Int) = (n : Int) := by
  rw [IntKind.wrap_u64]
  unfold B64 at h
  omega
theorem wrap_mul {a b : Nat} (h : a * b < B64) : IntKind.u64.wrap ((a : Int) * (b : Int)) = ((a * b : Nat) : Int) := by
  rw [← wrap_nat h]
  simp
theorem wrap_fit {r d : Nat} (hr : r < H32) (hd : d < H32) : IntKind.u64.wrap (IntKind.u64.wrap (4294967296 * (r : Int)) + (d : Int)) = ((H32 * r + d : Nat) : Int) := by
  rw [IntKind.wrap_u64, IntKind.wrap_u64]
  unfold H32 at *
  omega
/-- What the library's loop asks, said in its own spelling. -/
theorem Half.ask {u y y1 y0 d q r m1 m2 : Nat} (h : Half u y y1 y0 d q r) (hb : tooBig q y0 r d) (hm1 : m1 = q * y0) (hm2 : m2 = H32 * r + d) :
    (4294967296 : Int) ≤ (q : Int) ∨ (¬ (4294967296 : Int) ≤ (q : Int) ∧ IntKind.u64.wrap ((q : Int) * (y0 : Int)) = (m1 : Int) ∧ m2 < m1) := by
  rcases Nat.lt_or_ge q H32 with h1 | h1
  · refine .inr ⟨by unfold H32 at h1; omega, ?_, ?_⟩
    · rw [hm1]
      refine wrap_mul ?_
      rw [← H32_sq]
      exact Nat.mul_lt_mul_of_lt_of_le h1 (Nat.le_of_lt h.h0) H32_pos
    · rcases hb with h2 | h2
      · omega
      · omega
  · exact .inl (by unfold H32 at h1; omega)
theorem Half.ask_no {u y y1 y0 d q r m1 m2 : Nat} (h : Half u y y1 y0 d q r) (hb : ¬ tooBig q y0 r d) (hm1 : m1 = q * y0) (hm2 : m2 = H32 * r + d) :
    ¬ (4294967296 : Int) ≤ (q : Int) ∧ IntKind.u64.wrap ((q : Int) * (y0 : Int)) = (m1 : Int) ∧ ¬ m2 < m1 := by
  unfold tooBig at hb
  have h1 : q < H32 := by
    rcases Nat.lt_or_ge q H32 with h1 | h1
    · exact h1
    · exact absurd (.inl h1) hb
  refine ⟨by unfold H32 at h1; omega, ?_, fun h2 => hb (.inr (by omega))⟩
  rw [hm1]
  refine wrap_mul ?_
  rw [← H32_sq]
  exact Nat.mul_lt_mul_of_lt_of_le h1 (Nat.le_of_lt h.h0) H32_pos

set_option maxRecDepth 100000 in
set_option maxHeartbeats 4000000 in
theorem div64_main (hi lo y : Nat) (w : World) (h0 : hi ≠ 0) (hhi : hi < y) (hlo : lo < B64) (hy : y < B64) (ht : B64 ≤ 2 * y) :
    Calls Try.prog 79 #[.int .u64 (hi : Int), .int .u64 (lo : Int), .int .u64 (y : Int)] w fun e w' => e = .returned (.tuple #[.int .u64 ((hi * B64 + lo) / y : Nat), .int .u64 ((hi * B64 + lo) % y : Nat)]) ∧ w = w' := by
  have hy0 : ((y : Int) == 0) = false := by have := B64_pos; simp; omega
  have hle : decide (y ≤ hi) = false := by simp; omega
  have hh0 : ((hi : Int) == 0) = false := by simp; omega
  obtain ⟨y1, hy1⟩ : ∃ y1, y1 = hiH y := ⟨_, rfl⟩
  obtain ⟨y0, hyl⟩ : ∃ y0, y0 = loH y := ⟨_, rfl⟩
  obtain ⟨l1, hl1⟩ : ∃ l1, l1 = hiH lo := ⟨_, rfl⟩
  obtain ⟨l0, hll⟩ : ∃ l0, l0 = loH lo := ⟨_, rfl⟩
  have a1 : IntKind.u64.wrap (y : Int) = (y : Int) := by rw [IntKind.wrap_u64]; unfold B64 at hy; omega
  have a2 : (y : Int) / 4294967296 = (y1 : Int) := by rw [hy1]; unfold hiH H32; omega
  have a3 : bits .and .u64 (y : Int) 4294967295 = (y0 : Int) := by rw [u64_and32, hyl]; unfold loH H32; omega
  have a4 : IntKind.u64.wrap (lo : Int) = (lo : Int) := by rw [IntKind.wrap_u64]; unfold B64 at hlo; omega
  have a5 : (lo : Int) / 4294967296 = (l1 : Int) := by rw [hl1]; unfold hiH H32; omega
  have a6 : bits .and .u64 (lo : Int) 4294967295 = (l0 : Int) := by rw [u64_and32, hll]; unfold loH H32; omega
  have a7 : IntKind.u64.wrap (hi : Int) = (hi : Int) := by rw [IntKind.wrap_u64]; unfold B64 at hy; omega
  have a8 : (lo : Int) / 18446744073709551616 = 0 := by unfold B64 at hlo; omega
  have a9 : bits .or .u64 (hi : Int) 0 = (hi : Int) := by
    have := or_shl hi (s := 0) (c := 0) (by omega) (by simp)
    have e : shlD hi 0 = hi := by unfold shlD; rw [Nat.pow_zero, Nat.mul_one, Nat.mod_eq_of_lt (by omega)]
    rw [e] at this
    simpa [a7] using this
  have hY := Half.start (u := hi) (y := y) (y1 := y1) (y0 := y0) (d := l1) (by rw [hy1, hyl]; unfold hiH loH; rw [Nat.mul_comm]; exact (Nat.div_add_mod y H32).symm) (by rw [hyl]; exact loH_lt y) (by rw [hy1]; exact hiH_lt hy)
    (by rw [hy1]; unfold hiH H32; unfold B64 at ht; omega) hhi (by rw [hl1]; exact hiH_lt hlo)
  have b1 : ¬ y1 = 0 := by have := hY.top; unfold H32 at this; omega
  have hr := Half.r_lt (u := hi) hY.top
  obtain ⟨q, hq⟩ : ∃ q, q = hi / y1 := ⟨_, rfl⟩
  obtain ⟨r, hr'⟩ : ∃ r, r = hi % y1 := ⟨_, rfl⟩
  rw [← hq, ← hr'] at hY
  rw [← hr'] at hr
  have a10 : IntKind.u64.wrap ((hi : Int) / (y1 : Int)) = (q : Int) := by
    rw [hq, IntKind.wrap_u64]
    have h1 : hi / y1 ≤ hi := Nat.div_le_self _ _
    have h2 : ((hi / y1 : Nat) : Int) = (hi : Int) / (y1 : Int) := by simp
    rw [← h2]
    unfold B64 at hy
    omega
  have a11 : IntKind.u64.wrap ((hi : Int) - IntKind.u64.wrap ((q : Int) * (y1 : Int))) = (r : Int) := by
    have h1 := hY.hq
    have h2 : ((q * y1 : Nat) : Int) = (q : Int) * (y1 : Int) := by simp
    rw [← h2, IntKind.wrap_u64, IntKind.wrap_u64]
    unfold B64 at hy
    omega
  have HQ := Lib.hid hq
  have HR := Lib.hid hr'
  have HY1 := Lib.hid hy1
  have HYL := Lib.hid hyl
  have HL1 := Lib.hid hl1
  have HLL := Lib.hid hll
  have HYY := Lib.hid hY
  clear hq hr' hy1 hyl hl1 hll hY
  go_enter Try.func79, Try.ntmps79
  go_upto_block 0 with (go_at_call 94; refine (lead_zero _ hy ht).mono ?_; rintro e w' ⟨rfl, rfl⟩)
  go_cut [15] (fun qv wx => ∃ q : Nat, qv = .int .u64 (q : Int) ∧ q < H32 ∧ Hid (q = (hi * H32 + l1) / y) ∧ w = wx)
  case first =>
    go_wp2_with fail
    go_loop [15, 16] (fun qv rv => ∃ q r : Nat, qv = .int .u64 (q : Int) ∧ rv = .int .u64 (r : Int) ∧ Half hi y y1 y0 l1 q r ∧ r < H32) (fun qv _ => (intOf qv).toNat)
    case atStart => exact ⟨q, r, rfl, rfl, HYY.out, by have := HYY.out.h1; omega⟩
    case round =>
      obtain ⟨q, r, rfl, rfl, hH, hr32⟩ := hrel
      have hq2 := hH.q_le
      have hd32 := hH.hd
      have hy32 := hH.h1
      obtain ⟨m1, hm1⟩ : ∃ m1, m1 = q * y0 := ⟨_, rfl⟩
      obtain ⟨m2, hm2⟩ : ∃ m2, m2 = H32 * r + l1 := ⟨_, rfl⟩
      have c4 : IntKind.u64.wrap (IntKind.u64.wrap (4294967296 * (r : Int)) + (l1 : Int)) = (m2 : Int) := by rw [hm2]; exact wrap_fit hr32 hd32
      by_cases hb : tooBig q y0 r l1
      · have hH' := hH.step hb
        have hpos := (hH.pos hb).2
        have hask := hH.ask hb hm1 hm2
        obtain ⟨q', hq'⟩ : ∃ q', q' = q - 1 := ⟨_, rfl⟩
        obtain ⟨r', hr'⟩ : ∃ r', r' = r + y1 := ⟨_, rfl⟩
        rw [← hq', ← hr'] at hH'
        have c1 : IntKind.u64.wrap ((q : Int) - 1) = (q' : Int) := by
          rw [IntKind.wrap_u64]; unfold H32 at hq2; omega
        have c2 : IntKind.u64.wrap ((r : Int) + (y1 : Int)) = (r' : Int) := by
          rw [IntKind.wrap_u64]; unfold H32 at hr32 hy32; omega
        have hlt : q' < q := by omega
        have HH := Lib.hid hH'
        clear hH' hH hb hm1 hm2 hq' hr' hpos hq2 hd32 hy32
        by_cases hx : H32 ≤ r'
        · have g2 : (4294967296 : Int) ≤ (r' : Int) := by unfold H32 at hx; omega
          have hfin := HH.out.fin (.inl hx)
          have HF := Lib.hid hfin
          clear hfin hx
          rcases hask with g1 | ⟨g1, c3, g3⟩
          all_goals
            go_wp2_with fail
            go_meet
            exact ⟨q', rfl, HF.out.2, Lib.hid HF.out.1, rfl⟩
        · have g2 : ¬ (4294967296 : Int) ≤ (r' : Int) := by unfold H32 at hx; omega
          have hr3 : r' < H32 := by omega
          clear hx
          rcases hask with g1 | ⟨g1, c3, g3⟩
          all_goals
            go_wp2_with fail
            go_round
            case rel => exact ⟨q', r', rfl, rfl, HH.out, hr3⟩
            case measure => simp [intOf]; omega
      · have hfin := hH.fin (.inr hb)
        obtain ⟨g1, c3, g3⟩ := hH.ask_no hb hm1 hm2
        have HF := Lib.hid hfin
        clear hfin hH hb hm1 hm2 hq2 hd32 hy32
        go_wp2_with fail
        go_meet
        exact ⟨q, rfl, HF.out.2, Lib.hid HF.out.1, rfl⟩
  case rest =>
    obtain ⟨q1, rfl, hq1, HQ1, rfl⟩ := hcut
    obtain ⟨u, hu⟩ : ∃ u, u = (hi * H32 + l1) % y := ⟨_, rfl⟩
    have hy0' : 0 < y := by omega
    have huy : u < y := by rw [hu]; exact Nat.mod_lt _ hy0'
    have d1 : IntKind.u64.wrap (IntKind.u64.wrap (IntKind.u64.wrap ((hi : Int) * 4294967296) + (l1 : Int)) - IntKind.u64.wrap ((q1 : Int) * (y : Int))) = (u : Int) := by
      have e : u + y * q1 = hi * H32 + l1 := by rw [hu, HQ1.out]; exact Nat.mod_add_div _ _
      have e2 : ((q1 : Int) * (y : Int)) = ((y * q1 : Nat) : Int) := by rw [Nat.mul_comm]; simp
      rw [e2, IntKind.wrap_u64, IntKind.wrap_u64, IntKind.wrap_u64, IntKind.wrap_u64]
      generalize y * q1 = z at *
      unfold H32 at e
      unfold B64 at hy
      omega
    have hY := Half.start (u := u) (d := l0) HYY.out.hy HYY.out.h0 HYY.out.h1 HYY.out.top huy (by rw [HLL.out]; exact loH_lt lo)
    have hr2 := Half.r_lt (u := u) hY.top
    obtain ⟨q2, hq2⟩ : ∃ q, q = u / y1 := ⟨_, rfl⟩
    obtain ⟨r2, hr2'⟩ : ∃ r, r = u % y1 := ⟨_, rfl⟩
    rw [← hq2, ← hr2'] at hY
    rw [← hr2'] at hr2
    have d2 : IntKind.u64.wrap ((u : Int) / (y1 : Int)) = (q2 : Int) := by
      rw [hq2, IntKind.wrap_u64]
      have h1 : u / y1 ≤ u := Nat.div_le_self _ _
      have h2 : ((u / y1 : Nat) : Int) = (u : Int) / (y1 : Int) := by simp
      rw [← h2]
      unfold B64 at hy
      omega
    have d3 : IntKind.u64.wrap ((u : Int) - IntKind.u64.wrap ((q2 : Int) * (y1 : Int))) = (r2 : Int) := by
      have h1 := hY.hq
      have h2 : ((q2 * y1 : Nat) : Int) = (q2 : Int) * (y1 : Int) := by simp
      rw [← h2, IntKind.wrap_u64, IntKind.wrap_u64]
      unfold B64 at hy
      omega
    have HU := Lib.hid hu
    have HZ := Lib.hid hY
    clear hu hY hq2 hr2'
    go_upto_block 2 with fail
    go_cut [18] (fun qv wx => ∃ q : Nat, qv = .int .u64 (q : Int) ∧ q < H32 ∧ Hid (q = (u * H32 + l0) / y) ∧ w = wx)
    case first =>
      go_wp2_with fail
      go_loop [18, 16] (fun qv rv => ∃ q r : Nat, qv = .int .u64 (q : Int) ∧ rv = .int .u64 (r : Int) ∧ Half u y y1 y0 l0 q r ∧ r < H32) (fun qv _ => (intOf qv).toNat)
      case atStart => exact ⟨q2, r2, rfl, rfl, HZ.out, by have := HZ.out.h1; omega⟩
      case round =>
        obtain ⟨q, r, rfl, rfl, hH, hr32⟩ := hrel
        have hq2 := hH.q_le
        have hd32 := hH.hd
        have hy32 := hH.h1
        obtain ⟨m1, hm1⟩ : ∃ m1, m1 = q * y0 := ⟨_, rfl⟩
        obtain ⟨m2, hm2⟩ : ∃ m2, m2 = H32 * r + l0 := ⟨_, rfl⟩
        have c4 : IntKind.u64.wrap (IntKind.u64.wrap (4294967296 * (r : Int)) + (l0 : Int)) = (m2 : Int) := by rw [hm2]; exact wrap_fit hr32 hd32
        by_cases hb : tooBig q y0 r l0
        · have hH' := hH.step hb
          have hpos := (hH.pos hb).2
          have hask := hH.ask hb hm1 hm2
          obtain ⟨q', hq'⟩ : ∃ q', q' = q - 1 := ⟨_, rfl⟩
          obtain ⟨r', hr'⟩ : ∃ r', r' = r + y1 := ⟨_, rfl⟩
          rw [← hq', ← hr'] at hH'
          have c1 : IntKind.u64.wrap ((q : Int) - 1) = (q' : Int) := by
            rw [IntKind.wrap_u64]; unfold H32 at hq2; omega
          have c2 : IntKind.u64.wrap ((r : Int) + (y1 : Int)) = (r' : Int) := by
            rw [IntKind.wrap_u64]; unfold H32 at hr32 hy32; omega
          have hlt : q' < q := by omega
          have HH := Lib.hid hH'
          clear hH' hH hb hm1 hm2 hq' hr' hpos hq2 hd32 hy32
          by_cases hx : H32 ≤ r'
          · have g2 : (4294967296 : Int) ≤ (r' : Int) := by unfold H32 at hx; omega
            have hfin := HH.out.fin (.inl hx)
            have HF := Lib.hid hfin
            clear hfin hx
            rcases hask with g1 | ⟨g1, c3, g3⟩
            all_goals
              go_wp2_with fail
              go_meet
              exact ⟨q', rfl, HF.out.2, Lib.hid HF.out.1, rfl⟩
          · have g2 : ¬ (4294967296 : Int) ≤ (r' : Int) := by unfold H32 at hx; omega
            have hr3 : r' < H32 := by omega
            clear hx
            rcases hask with g1 | ⟨g1, c3, g3⟩
            all_goals
              go_wp2_with fail
              go_round
              case rel => exact ⟨q', r', rfl, rfl, HH.out, hr3⟩
              case measure => simp [intOf]; omega
        · have hfin := hH.fin (.inr hb)
          obtain ⟨g1, c3, g3⟩ := hH.ask_no hb hm1 hm2
          have HF := Lib.hid hfin
          clear hfin hH hb hm1 hm2 hq2 hd32 hy32
          go_wp2_with fail
          go_meet
          exact ⟨q, rfl, HF.out.2, Lib.hid HF.out.1, rfl⟩
    case rest =>
      obtain ⟨q0, rfl, hq0, HQ0, rfl⟩ := hcut
      have hB := both_halves (hi := hi) (l1 := l1) (l0 := l0) hy0' HQ1.out HU.out HQ0.out
      have hlo2 : l1 * H32 + l0 = lo := by rw [HL1.out, HLL.out]; unfold hiH loH; rw [Nat.mul_comm]; exact Nat.div_add_mod lo H32
      rw [hlo2] at hB
      have e1 : IntKind.u64.wrap (IntKind.u64.wrap ((q1 : Int) * 4294967296) + (q0 : Int)) = ((q1 * H32 + q0 : Nat) : Int) := by
        rw [IntKind.wrap_u64, IntKind.wrap_u64]
        unfold H32 at hq1 hq0 ⊢
        omega
      have e2 : IntKind.u64.wrap (IntKind.u64.wrap (IntKind.u64.wrap ((u : Int) * 4294967296) + (l0 : Int)) - IntKind.u64.wrap ((q0 : Int) * (y : Int))) = (((u * H32 + l0) % y : Nat) : Int) := by
        have e : (u * H32 + l0) % y + y * q0 = u * H32 + l0 := by rw [HQ0.out]; exact Nat.mod_add_div _ _
        have hlt : (u * H32 + l0) % y < y := Nat.mod_lt _ hy0'
        have e2 : ((q0 : Int) * (y : Int)) = ((y * q0 : Nat) : Int) := by rw [Nat.mul_comm]; simp
        rw [e2, IntKind.wrap_u64, IntKind.wrap_u64, IntKind.wrap_u64, IntKind.wrap_u64]
        generalize y * q0 = z at *
        generalize (u * H32 + l0) % y = v at *
        unfold H32 at e
        unfold B64 at hy
        omega
      have HB := Lib.hid hB
      have E1 := Lib.hid e1
      have E2 := Lib.hid e2
      clear hB hlo2 e1 e2
      go_wp2_with fail
      go_ret2
      refine ⟨ret_two ?_ ?_, rfl⟩
      · rw [E1.out, HB.out.1]
      · rw [← HB.out.2, ← E2.out]

set_option maxHeartbeats 1000000 in
theorem div64_zero (lo y : Nat) (w : World) (hlo : lo < B64) (hy0 : 0 < y) :
    Calls Try.prog 79 #[.int .u64 0, .int .u64 (lo : Int), .int .u64 (y : Int)] w fun e w' => e = .returned (.tuple #[.int .u64 (lo / y : Nat), .int .u64 (lo % y : Nat)]) ∧ ∃ n, w' = w.drewN n := by
  have h1 : ((y : Int) == 0) = false := by simp; omega
  have h2 : ¬ (y : Int) ≤ 0 := by omega
  have h3 : ¬ y = 0 := by omega
  have h4 : IntKind.u64.wrap ((lo : Int) / (y : Int)) = ((lo / y : Nat) : Int) := by
    have h5 : lo / y ≤ lo := Nat.div_le_self _ _
    have h6 : ((lo / y : Nat) : Int) = (lo : Int) / (y : Int) := by simp
    rw [← h6]
    exact wrap_nat (by omega)
  have h5 : ((lo : Int)).tmod (y : Int) = ((lo % y : Nat) : Int) := by
    rw [Int.tmod_eq_emod_of_nonneg (by omega)]
    simp
  have H4 := Lib.hid h4
  have H5 := Lib.hid h5
  clear h4 h5
  go_enter Try.func79, Try.ntmps79
  go_wp2_with fail
  go_quiet (fail)
  go_wp2_with fail
  go_ret2
  exact ⟨ret_two H4.out H5.out, _, rfl⟩

theorem div64_any (hi lo y : Nat) (w : World) (hhi : hi < y) (hlo : lo < B64) (hy : y < B64) (ht : B64 ≤ 2 * y) :
    Calls Try.prog 79 #[.int .u64 (hi : Int), .int .u64 (lo : Int), .int .u64 (y : Int)] w fun e w' => e = .returned (.tuple #[.int .u64 ((hi * B64 + lo) / y : Nat), .int .u64 ((hi * B64 + lo) % y : Nat)]) ∧ ∃ n, w' = w.drewN n := by
  by_cases h0 : hi = 0
  · subst h0
    rw [Nat.zero_mul, Nat.zero_add]
    exact div64_zero lo y w hlo hhi
  · refine (div64_main hi lo y w h0 hhi hlo hy ht).mono ?_
    rintro e w' ⟨rfl, rfl⟩
    exact ⟨rfl, 0, rfl⟩
end Go.Proofs.Ytpidpebgeblenaa

/-
  The contract of div's guess.
-/
namespace Go.Proofs.Ytpidpebgeblenaa
open Go.RowKit

/-- What a guess sees of two rows of digits. -/
theorem seen_rows {Rl Dl : List Nat} {k v2 : Nat} (hR : Dig Rl) (hD : Dig Dl) (lR : Rl.length = k + 2) (lD : Dl.length = k + 1) (top : B64 ≤ 2 * Dl[k]?.getD 0) (hv2 : v2 = if k = 0 then 0 else Dl[k - 1]?.getD 0) :
    Seen (val Rl) (val Dl) (B64 ^ k) (Rl[k + 1]?.getD 0 * B64 + Rl[k]?.getD 0) (Dl[k]?.getD 0) v2 (val (Dl.take k)) (val (Rl.take k)) := by
  have e1 : val Dl = val (Dl.take k) + B64 ^ k * Dl[k]?.getD 0 := by rw [← val_take_succ, List.take_of_length_le (by omega)]
  have e2 : val Rl = val (Rl.take k) + B64 ^ k * Rl[k]?.getD 0 + B64 ^ (k + 1) * Rl[k + 1]?.getD 0 := by rw [← val_take_succ, ← val_take_succ, List.take_of_length_le (by omega)]
  have l1 : val (Dl.take k) < B64 ^ k := by have := val_lt (hD.take k); rw [List.length_take, Nat.min_eq_left (by omega)] at this; exact this
  have l2 : val (Rl.take k) < B64 ^ k := by have := val_lt (hR.take k); rw [List.length_take, Nat.min_eq_left (by omega)] at this; exact this
  have hv : v2 * B64 ^ k ≤ B64 * val (Dl.take k) ∧ B64 * val (Dl.take k) < (v2 + 1) * B64 ^ k ∧ v2 < B64 := by
    cases k with
    | zero => rw [hv2]; simp [val_nil, B64_pos]
    | succ j =>
      rw [if_neg (by omega), Nat.add_sub_cancel] at hv2
      have l3 : val (Dl.take j) < B64 ^ j := by have := val_lt (hD.take j); rw [List.length_take, Nat.min_eq_left (by omega)] at this; exact this
      rw [val_take_succ, ← hv2, Nat.pow_succ, Nat.mul_add, Nat.add_mul]
      have e3 : B64 * (B64 ^ j * v2) = v2 * (B64 ^ j * B64) := by ac_rfl
      have e4 : B64 * val (Dl.take j) < B64 ^ j * B64 := by rw [Nat.mul_comm]; exact Nat.mul_lt_mul_of_pos_right l3 B64_pos
      rw [e3]
      refine ⟨by omega, by omega, ?_⟩
      rw [hv2]; exact hD.get _
  refine ⟨by rw [e1, Nat.mul_comm]; omega, ?_, l1, l2, hv.1, hv.2.1, top, hD.get _, hv.2.2⟩
  rw [e2, Nat.add_mul, Nat.pow_succ]
  have e5 : Rl[k + 1]?.getD 0 * B64 * B64 ^ k = B64 ^ k * B64 * Rl[k + 1]?.getD 0 := by ac_rfl
  rw [e5, Nat.mul_comm (Rl[k]?.getD 0)]
  omega

theorem big_lit : (18446744073709551615 : Int) = ((B64 - 1 : Nat) : Int) := by unfold B64; omega

/-- A call has answered a guess. -/
def GotG (w : World) (R D : Nat) (e : Ending) (w' : World) : Prop := ∃ t : Nat, e = .returned (.int .u64 (t : Int)) ∧ Good R D t ∧ Below w.heap.size w w'

end Go.Proofs.Ytpidpebgeblenaa

/-
  The contracts of div's lessTimes, addBack and takeOff: a window of a row of digits is changed in place.
-/
namespace Go.Proofs.Ytpidpebgeblenaa
open Go.RowKit
/-- A slice of digits in another block than the one that is written is kept. -/
theorem Lim.apart {B : Nat} {w w' : World} {b o n c g : Nat} {l : List Nat} (h : Lim B w (some ⟨b, o, none⟩) n c l) (hg : w.grownBy w' (some g)) (hne : b ≠ g) (hB : B ≤ w.heap.size) : Lim B w' (some ⟨b, o, none⟩) n c l :=
  ⟨h.1, h.2.1, h.2.2.1, fun hn => by
    obtain ⟨b', o', e, hlt, hc⟩ := h.2.2.2 hn
    injection e with e
    injection e with e1 e2
    subst e1; subst e2
    exact ⟨b, o, rfl, hlt, fun j hj => (World.cell?_of_block (a := ⟨b, o + j, none⟩) (hg.block b (by omega) (by simp; omega))).trans (hc j hj)⟩⟩

theorem win_get {pre Q post : List Nat} {i k : Nat} (hi : pre.length = i) (hk : k < Q.length) : ((pre ++ (Q ++ post)).map encD)[i + k]? = some (.int .u64 ((Q[k]?.getD 0 : Nat) : Int)) := by
  rw [List.getElem?_map, List.getElem?_append_right (by omega), hi, Nat.add_sub_cancel_left, List.getElem?_append_left hk, List.getElem?_eq_getElem hk]
  rfl
theorem win_set {pre Q post : List Nat} {i k : Nat} (d : Nat) (hi : pre.length = i) (hk : k < Q.length) : ((pre ++ (Q ++ post)).map encD).set (i + k) (.int .u64 (d : Int)) = (pre ++ (Q.set k d ++ post)).map encD := by
  rw [show (Value.int IntKind.u64 (d : Int)) = encD d from rfl, ← List.map_set, List.set_append_right _ _ (by omega), hi, Nat.add_sub_cancel_left, List.set_append_left _ _ hk]

theorem wrap_owed {x y q c : Nat} (hx : x < B64) (hy : y < B64) (hc : c < B64) :
    IntKind.u64.wrap (IntKind.u64.wrap ((mulHi y x : Int) + (sumHi (mulLo y x) c 0 : Int)) + (subHi q (sumLo (mulLo y x) c 0) 0 : Int)) = (owed x y q c : Int) := by
  obtain ⟨h1, h2⟩ := owed_lt (q := q) hx hy hc
  unfold owed at h2 ⊢
  generalize mulHi y x = a at *
  generalize sumHi (mulLo y x) c 0 = b at *
  generalize subHi q (sumLo (mulLo y x) c 0) 0 = d at *
  simp only [IntKind.wrap_u64]
  unfold B64 at h1 h2
  omega

theorem lessD_eq (x y q c : Nat) : subLo q (sumLo (mulLo y x) c 0) 0 = lessD x y q c := rfl
theorem times_none {a p M h : Nat} (e : a = p + M * h) (hz : h = 0) : a = p := by
  subst hz
  rw [e, Nat.mul_zero, Nat.add_zero]
theorem times_once {a p M h : Nat} (e : a = p + M * h) (hz : h = 1) : a = p + M := by
  subst hz
  rw [e, Nat.mul_one]
/-- A row of the caller's, with a window. -/
def Win (w : World) (base g N cap : Nat) (pre Q post : List Nat) : Prop := w.ownsRow base 103 1 (.slice (some ⟨g, 0, none⟩) N cap) N ((pre ++ (Q ++ post)).map encD)

theorem wrap_sum (x c : Nat) : IntKind.u64.wrap ((x : Int) + (c : Int)) = ((sumLo x c 0 : Nat) : Int) := by
  rw [IntKind.wrap_u64, show (18446744073709551616 : Int) = (B64 : Int) from rfl]
  unfold sumLo
  simp

end Go.Proofs.Ytpidpebgeblenaa

/-
  The contract of div's takeOff, and the arithmetic of a round of the long division.
-/
namespace Go.Proofs.Ytpidpebgeblenaa
open Go.RowKit

theorem Win.lim {w : World} {base g N cap i cr n : Nat} {pre P post : List Nat} (h : Win w base g N cap pre P post) (hi : pre.length = i) (hP : Dig P) (lP : P.length = n) (hcr : n ≤ cr) : Lim w.heap.size w (some ⟨g, i, none⟩) n cr P := by
  refine ⟨lP.symm, hcr, hP, fun _ => ⟨g, i, rfl, (World.ownsRow.lt h g rfl).2, fun j hj => ?_⟩⟩
  have hlN : (pre ++ (P ++ post)).length = N := by have := h.1; simpa using this
  rw [World.ownsRow.cellAt h (i + j) (by simp at hlN; omega), win_get hi (by omega)]

theorem grown_of_below {w w' : World} {row : Option Nat} (h : Below w.heap.size w w') : w.grownBy w' row := ⟨h.os, h.tape, h.output, h.size, fun k hk _ => h.block k hk⟩

theorem pred_wrap {t : Nat} (h0 : t ≠ 0) (ht : t < B64) : IntKind.u64.wrap ((t : Int) - 1) = ((t - 1 : Nat) : Int) := by
  rw [IntKind.wrap_u64]
  unfold B64 at ht
  omega

theorem ret_u64 {a b : Int} (h : a = b) : Ending.returned (.int .u64 a) = .returned (.int .u64 b) := by rw [h]

/-- A round of the division: what the window holds, and what becomes of the row. -/
theorem long_step {Rl : List Nat} {t k D : Nat} (hR : Dig Rl) (hD : D < B64 ^ (k + 1)) (hD0 : 0 < D) (hl : t + (k + 2) ≤ Rl.length) (hlt : val Rl < D * B64 ^ (t + 1)) :
    val ((Rl.drop t).take (k + 2)) < B64 * D ∧ ∀ Q : List Nat, Q.length = k + 2 → val Q = val ((Rl.drop t).take (k + 2)) % D →
      val (Rl.take t ++ (Q ++ Rl.drop (t + (k + 2)))) + D * (B64 ^ t * (val ((Rl.drop t).take (k + 2)) / D)) = val Rl ∧ val (Rl.take t ++ (Q ++ Rl.drop (t + (k + 2)))) < D * B64 ^ t := by
  have e0 : Rl = Rl.take t ++ ((Rl.drop t).take (k + 2) ++ Rl.drop (t + (k + 2))) := by
    rw [← List.drop_drop, List.take_append_drop, List.take_append_drop]
  have lt : (Rl.take t).length = t := by rw [List.length_take, Nat.min_eq_left (by omega)]
  have lP : ((Rl.drop t).take (k + 2)).length = k + 2 := by rw [List.length_take, List.length_drop, Nat.min_eq_left (by omega)]
  have hpre : val (Rl.take t) < B64 ^ t := by have := val_lt (hR.take t); rw [lt] at this; exact this
  have ev : val Rl = val (Rl.take t) + B64 ^ t * (val ((Rl.drop t).take (k + 2)) + B64 ^ (k + 2) * val (Rl.drop (t + (k + 2)))) := by
    have h := congrArg val e0
    rw [val_append, val_append, lt, lP] at h
    exact h
  have hBt : 0 < B64 ^ t := Nat.pow_pos B64_pos
  generalize hp : val (Rl.take t) = pre at *
  generalize hP : val ((Rl.drop t).take (k + 2)) = P at *
  generalize hpo : val (Rl.drop (t + (k + 2))) = po at *
  generalize val Rl = X at *
  have h1 : P + B64 ^ (k + 2) * po < D * B64 := by
    rcases Nat.lt_or_ge (P + B64 ^ (k + 2) * po) (D * B64) with h | h
    · exact h
    · have h2 : B64 ^ t * (D * B64) ≤ B64 ^ t * (P + B64 ^ (k + 2) * po) := Nat.mul_le_mul_left _ h
      have h3 : D * B64 ^ (t + 1) = B64 ^ t * (D * B64) := by rw [Nat.pow_succ]; ac_rfl
      omega
  have h2 : D * B64 ≤ B64 ^ (k + 2) := by
    rw [Nat.pow_succ B64 (k + 1)]
    exact Nat.mul_le_mul_right _ (Nat.le_of_lt hD)
  have hpo0 : po = 0 := by
    rcases Nat.eq_zero_or_pos po with h | h
    · exact h
    · have h3 : B64 ^ (k + 2) * 1 ≤ B64 ^ (k + 2) * po := Nat.mul_le_mul_left _ h
      rw [Nat.mul_one] at h3
      omega
  subst hpo0
  rw [Nat.mul_zero, Nat.add_zero] at h1 ev
  refine ⟨by rw [Nat.mul_comm]; exact h1, fun Q hQ hv => ?_⟩
  rw [val_append, val_append, lt, hp, hQ, hpo, hv, Nat.mul_zero, Nat.add_zero]
  have h4 := Nat.mod_add_div P D
  have h5 := Nat.mod_lt P hD0
  generalize P % D = m at *
  generalize P / D = q at *
  have h6 : D * (B64 ^ t * q) = B64 ^ t * (D * q) := by ac_rfl
  have h7 : B64 ^ t * (m + D * q) = B64 ^ t * m + B64 ^ t * (D * q) := Nat.mul_add ..
  rw [h4] at h7
  refine ⟨by rw [h6]; omega, ?_⟩
  have h8 : B64 ^ t * (m + 1) ≤ B64 ^ t * D := Nat.mul_le_mul_left _ h5
  rw [Nat.mul_add, Nat.mul_one] at h8
  rw [Nat.mul_comm D]
  omega

/-- The divisor's top bit is set by the shift. -/
theorem norm_top {y k s : Nat} (hl : (limbs y).length = k + 1) (hs : s = 64 - blen ((limbs y)[k]?.getD 0)) : s < 64 ∧ y * 2 ^ s < B64 ^ (k + 1) ∧ (limbs (y * 2 ^ s)).length = k + 1 ∧ B64 ≤ 2 * (limbs (y * 2 ^ s))[k]?.getD 0 := by
  have hd := limbs_dig y
  have hv : val ((limbs y).take k) + B64 ^ k * (limbs y)[k]?.getD 0 = y := by rw [← val_take_succ, List.take_of_length_le (by omega), val_limbs]
  have hlo : val ((limbs y).take k) < B64 ^ k := by have := val_lt (hd.take k); rw [List.length_take, Nat.min_eq_left (by omega)] at this; exact this
  have htl : (limbs y)[k]?.getD 0 < B64 := hd.get k
  have ht0 : (limbs y)[k]?.getD 0 ≠ 0 := fun h => by
    have hge := limbs_ge (n := y) (by omega)
    rw [hl, Nat.add_sub_cancel] at hge
    rw [h, Nat.mul_zero, Nat.add_zero] at hv
    omega
  generalize (limbs y)[k]?.getD 0 = T at *
  have hb1 := blen_pos ht0
  have hb2 : blen T ≤ 64 := blen_le (by rw [← B64_two]; exact htl)
  have hs64 : s < 64 := by omega
  have h1 : T + 1 ≤ 2 ^ blen T := lt_blen T
  have h2 := blen_ge ht0
  have e1 : 2 ^ blen T * 2 ^ s = B64 := by rw [B64_two, ← Nat.pow_add]; congr 1; omega
  have e2 : 2 * (2 ^ (blen T - 1) * 2 ^ s) = B64 := by
    rw [← e1, ← Nat.mul_assoc]
    congr 1
    rw [Nat.mul_comm, ← Nat.pow_succ]
    congr 1
    omega
  have h3 : (T + 1) * 2 ^ s ≤ B64 := by rw [← e1]; exact Nat.mul_le_mul_right _ h1
  have h4 : B64 ≤ 2 * (T * 2 ^ s) := by rw [← e2]; exact Nat.mul_le_mul_left _ (Nat.mul_le_mul_right _ h2)
  have hp : 0 < 2 ^ s := Nat.pow_pos (by omega)
  have h5 : y * 2 ^ s < B64 ^ (k + 1) := by
    have h6 : y < B64 ^ k * (T + 1) := by rw [Nat.mul_add, Nat.mul_one]; omega
    have h7 : y * 2 ^ s < B64 ^ k * (T + 1) * 2 ^ s := Nat.mul_lt_mul_of_pos_right h6 hp
    have h8 : B64 ^ k * ((T + 1) * 2 ^ s) ≤ B64 ^ k * B64 := Nat.mul_le_mul_left _ h3
    rw [Nat.pow_succ]
    rw [Nat.mul_assoc] at h7
    omega
  have h6 : B64 ^ k * (T * 2 ^ s) ≤ y * 2 ^ s := by
    rw [← Nat.mul_assoc]
    exact Nat.mul_le_mul_right _ (by omega)
  have hBk : 0 < B64 ^ k := Nat.pow_pos B64_pos
  have hlen : (limbs (y * 2 ^ s)).length = k + 1 := by
    have a := limbs_length_le h5
    rcases Nat.lt_or_ge (limbs (y * 2 ^ s)).length (k + 1) with b | b
    · have c := lt_of_limbs_length (n := y * 2 ^ s) (k := k) (by omega)
      have d : B64 ^ k * 1 ≤ B64 ^ k * (T * 2 ^ s) := Nat.mul_le_mul_left _ (by have := B64_pos; omega)
      omega
    · omega
  refine ⟨hs64, h5, hlen, ?_⟩
  rw [limbs_get]
  unfold dig
  have h7 : y * 2 ^ s / B64 ^ k < B64 := by rw [Nat.div_lt_iff_lt_mul hBk, Nat.mul_comm B64, ← Nat.pow_succ]; exact h5
  rw [Nat.mod_eq_of_lt h7]
  have h8 : T * 2 ^ s ≤ y * 2 ^ s / B64 ^ k := by rw [Nat.le_div_iff_mul_le hBk, Nat.mul_comm _ (B64 ^ k)]; exact h6
  omega

/-- The end of the division. -/
theorem long_end {x y s R q : Nat} (hy : 0 < y) (hR : R < y * 2 ^ s) (e : R + y * 2 ^ s * q = x * 2 ^ s) : q = x / y ∧ R / 2 ^ s = x % y := by
  have hp : 0 < 2 ^ s := Nat.pow_pos (by omega)
  have hD : 0 < y * 2 ^ s := Nat.mul_pos hy hp
  have h1 : x * 2 ^ s / (y * 2 ^ s) = q := by rw [← e, Nat.add_mul_div_left _ _ hD, Nat.div_eq_of_lt hR, Nat.zero_add]
  have h2 : x * 2 ^ s % (y * 2 ^ s) = R := by rw [← e, Nat.add_mul_mod_self_left, Nat.mod_eq_of_lt hR]
  rw [Nat.mul_div_mul_right _ _ hp] at h1
  rw [Nat.mul_mod_mul_right] at h2
  exact ⟨h1.symm, by rw [← h2, Nat.mul_div_cancel _ hp]⟩

theorem long_start {x y k n s : Nat} (hn : (limbs x).length = n) (hl : (limbs y).length = k + 1) (hkn : k + 1 ≤ n) : x * 2 ^ s < y * 2 ^ s * B64 ^ (n - (k + 1) + 1) := by
  have h1 : x < B64 ^ n := lt_of_limbs_length (by omega)
  have h2 := limbs_ge (n := y) (by omega)
  rw [hl, Nat.add_sub_cancel] at h2
  have h3 : B64 ^ k * B64 ^ (n - (k + 1) + 1) ≤ y * B64 ^ (n - (k + 1) + 1) := Nat.mul_le_mul_right _ h2
  rw [← Nat.pow_add, show k + (n - (k + 1) + 1) = n by omega] at h3
  have h4 : y * 2 ^ s * B64 ^ (n - (k + 1) + 1) = y * B64 ^ (n - (k + 1) + 1) * 2 ^ s := by ac_rfl
  rw [h4]
  exact Nat.mul_lt_mul_of_pos_right (by omega) (Nat.pow_pos (by omega))

end Go.Proofs.Ytpidpebgeblenaa

/-
  The contracts of package div in one style, over numbers.
-/
namespace Go.Proofs.Ytpidpebgeblenaa
open Go.RowKit
end Go.Proofs.Ytpidpebgeblenaa

/-
  The contracts of rat: quotient, isNought, times, less, reduced.
-/
namespace Go.Proofs.Ytpidpebgeblenaa
open Go.RowKit
set_option linter.unusedVariables false
set_option linter.unusedSimpArgs false






end Go.Proofs.Ytpidpebgeblenaa

/-
  The contracts of rat: join, Add, Sub, Mul.
-/
namespace Go.Proofs.Ytpidpebgeblenaa
open Go.RowKit
set_option linter.unusedVariables false
set_option linter.unusedSimpArgs false






end Go.Proofs.Ytpidpebgeblenaa

/-
  The contracts of rat: Make, Of, Cmp, Div, Right.
-/
namespace Go.Proofs.Ytpidpebgeblenaa
open Go.RowKit
set_option linter.unusedVariables false
set_option linter.unusedSimpArgs false





theorem rt_inv {w : World} {b : Bool} {A B : Option Addr} {n c m d : Nat} {x : Rat} (h : Rt w b A n c B m d x) (hne : x.num ≠ 0) : Rt w b B m d A n c x⁻¹ := by
  refine ⟨?_, ?_⟩
  · rw [inv_num x hne]; exact zn_side h.1 h.2 x.den_nz
  · rw [inv_den x hne]; exact h.1.1




theorem gcd_any {p q k : Nat} (hp : (limbs p).length ≤ k) (hq : (limbs q).length ≤ k) : (limbs (Nat.gcd p q)).length ≤ k := by
  rcases Nat.eq_zero_or_pos q with h | h
  · subst h; rw [Nat.gcd_zero_right]; exact hp
  · exact gcd_len (by omega) hq





end Go.Proofs.Ytpidpebgeblenaa
