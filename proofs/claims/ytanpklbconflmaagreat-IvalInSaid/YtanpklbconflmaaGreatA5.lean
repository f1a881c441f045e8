/-
  Several texts in one: KS, H7, H10, KA, H11, H8.
-/
import Derived.Test.YtanpklbconflmaaGreatA4
import Derived.Test.YtanpklbconflmaaGreatA3

/-
  Spans: values, boxes, what is answered.
-/
namespace Go.Proofs.YtanpklbconflmaaGreat
open Go.RowKit
set_option linter.unusedVariables false
set_option linter.unusedSimpArgs false

/-- A span: both ends. -/
def St (w : World) (b : Bool) (A : Option Addr) (n c : Nat) (B : Option Addr) (m d : Nat) (v : Bool) (V : Option Addr) (r k : Nat) (U : Option Addr) (o q : Nat) (x y : Rat) : Prop := Rt w b A n c B m d x ∧ Rt w v V r k U o q y
/-- A call has answered a span; and one with a code. -/
def GotSt (w : World) (x y : Rat) (e : Ending) (w' : World) : Prop := ∃ b A n c B m d v V r k U o q, e = .returned (.agg #[.bool b, .slice A n c, .slice B m d, .bool v, .slice V r k, .slice U o q]) ∧ St w' b A n c B m d v V r k U o q x y ∧ Below w.heap.size w w'
def GotSp (w : World) (x y : Rat) (z : Int) (e : Ending) (w' : World) : Prop := ∃ b A n c B m d v V r k U o q, e = .returned (.tuple #[.agg #[.bool b, .slice A n c, .slice B m d, .bool v, .slice V r k, .slice U o q], .int .i64 z]) ∧ St w' b A n c B m d v V r k U o q x y ∧ Below w.heap.size w w'
/-- A box of six cells, none of which is a digit. -/
def Held (W : World) (g : Nat) : Prop := ∀ i, i < 6 → ∃ u, W.cell? ⟨g, i, none⟩ = some u ∧ ∀ k n, u ≠ .int k n
theorem held6 {W : World} {g : Nat} {b v : Bool} {A B V U : Option Addr} {n c m d r k o q : Nat} (h0 : W.cell? ⟨g, 0, none⟩ = some (.bool b)) (h1 : W.cell? ⟨g, 1, none⟩ = some (.slice A n c)) (h2 : W.cell? ⟨g, 2, none⟩ = some (.slice B m d)) (h3 : W.cell? ⟨g, 3, none⟩ = some (.bool v)) (h4 : W.cell? ⟨g, 4, none⟩ = some (.slice V r k)) (h5 : W.cell? ⟨g, 5, none⟩ = some (.slice U o q)) : Held W g := by
  intro i hi
  match i, hi with
  | 0, _ => exact ⟨_, h0, fun _ _ e => by cases e⟩
  | 1, _ => exact ⟨_, h1, fun _ _ e => by cases e⟩
  | 2, _ => exact ⟨_, h2, fun _ _ e => by cases e⟩
  | 3, _ => exact ⟨_, h3, fun _ _ e => by cases e⟩
  | 4, _ => exact ⟨_, h4, fun _ _ e => by cases e⟩
  | 5, _ => exact ⟨_, h5, fun _ _ e => by cases e⟩
theorem Held.set {W : World} {g j : Nat} {v : Value} (h : Held W g) (hj : j < 6) (hv : ∀ k n, v ≠ .int k n) : Held (W.setCell ⟨g, j, none⟩ v) g := by
  intro i hi
  obtain ⟨u, h1, h2⟩ := h i hi
  by_cases e : j = i
  · subst e
    exact ⟨v, World.cell?_setCell_same _ _ _ h1, hv⟩
  · exact ⟨u, (World.cell?_setCell_other _ _ _ _ (addr_ne e)).trans h1, h2⟩
theorem Num.held {W : World} {g j : Nat} {v : Value} {A : Option Addr} {n c x : Nat} (hn : Num W A n c x) (h : Held W g) (hj : j < 6) : Num (W.setCell ⟨g, j, none⟩ v) A n c x := by
  obtain ⟨u, h1, h2⟩ := h j hj
  exact hn.set_other h1 h2
/-- All six cells are written. -/
@[reducible] def putS (W : World) (g : Nat) (a b c d e f : Value) : World := (((((W.setCell ⟨g, 0, none⟩ a).setCell ⟨g, 1, none⟩ b).setCell ⟨g, 2, none⟩ c).setCell ⟨g, 3, none⟩ d).setCell ⟨g, 4, none⟩ e).setCell ⟨g, 5, none⟩ f
theorem cell_putS {w : World} {s b o : Nat} {u1 u2 u3 u4 u5 u6 : Value} (h : b ≠ s) : (putS w s u1 u2 u3 u4 u5 u6).cell? ⟨b, o, none⟩ = w.cell? ⟨b, o, none⟩ := by
  unfold putS
  iterate 6 rw [World.cell?_setCell_other (h := addr_ne' (Ne.symm h))]
theorem below_putS {C g : Nat} {V W : World} (h : Below C V W) (hg : C ≤ g) (a b c d e f : Value) : Below C V (putS W g a b c d e f) := (((((h.setCell (p := ⟨g, 0, none⟩) hg a).setCell (p := ⟨g, 1, none⟩) hg b).setCell (p := ⟨g, 2, none⟩) hg c).setCell (p := ⟨g, 3, none⟩) hg d).setCell (p := ⟨g, 4, none⟩) hg e).setCell (p := ⟨g, 5, none⟩) hg f
section
variable {W : World} {g : Nat}
theorem Num.putS {A : Option Addr} {n c x : Nat} (hn : Num W A n c x) (h : Held W g) (b v : Bool) (u1 u2 u4 u5 : Option Addr × Nat × Nat) : Num (putS W g (.bool b) (.slice u1.1 u1.2.1 u1.2.2) (.slice u2.1 u2.2.1 u2.2.2) (.bool v) (.slice u4.1 u4.2.1 u4.2.2) (.slice u5.1 u5.2.1 u5.2.2)) A n c x := by
  have k0 := h.set (j := 0) (v := .bool b) (by omega) (fun _ _ e => by cases e)
  have k1 := k0.set (j := 1) (v := .slice u1.1 u1.2.1 u1.2.2) (by omega) (fun _ _ e => by cases e)
  have k2 := k1.set (j := 2) (v := .slice u2.1 u2.2.1 u2.2.2) (by omega) (fun _ _ e => by cases e)
  have k3 := k2.set (j := 3) (v := .bool v) (by omega) (fun _ _ e => by cases e)
  have k4 := k3.set (j := 4) (v := .slice u4.1 u4.2.1 u4.2.2) (by omega) (fun _ _ e => by cases e)
  exact (((((hn.held h (by omega)).held k0 (by omega)).held k1 (by omega)).held k2 (by omega)).held k3 (by omega)).held k4 (by omega)
theorem Rt.putS {b0 : Bool} {A0 B0 : Option Addr} {n0 c0 m0 d0 : Nat} {x : Rat} (hr : Rt W b0 A0 n0 c0 B0 m0 d0 x) (h : Held W g) (b v : Bool) {A1 A2 A4 A5 : Option Addr} {n1 c1 n2 c2 n4 c4 n5 c5 : Nat} : Rt (putS W g (.bool b) (.slice A1 n1 c1) (.slice A2 n2 c2) (.bool v) (.slice A4 n4 c4) (.slice A5 n5 c5)) b0 A0 n0 c0 B0 m0 d0 x :=
  ⟨⟨hr.1.1.putS h b v (A1, n1, c1) (A2, n2, c2) (A4, n4, c4) (A5, n5, c5), hr.1.2⟩, hr.2.putS h b v (A1, n1, c1) (A2, n2, c2) (A4, n4, c4) (A5, n5, c5)⟩
end

end Go.Proofs.YtanpklbconflmaaGreat

/-
  The contracts of the seventh reference: Same, Has, In.
-/
namespace Go.Proofs.YtanpklbconflmaaGreat
set_option maxRecDepth 100000
set_option maxHeartbeats 8000000
open Go.RowKit
set_option linter.unusedVariables false
set_option linter.unusedSimpArgs false

theorem stsame_no {w : World} {b0 p0 : Bool} {A0 B0 V0 U0 : Option Addr} {n0 c0 m0 d0 r0 k0 o0 q0 : Nat} {b1 p1 : Bool} {A1 B1 V1 U1 : Option Addr} {n1 c1 m1 d1 r1 k1 o1 q1 : Nat} {x0 y0 : Rat} (h0 : Rt w b0 A0 n0 c0 B0 m0 d0 x0) (g0 : Rt w p0 V0 r0 k0 U0 o0 q0 y0) (s0 : Sz x0 500) (t0 : Sz y0 500) {x1 y1 : Rat} (h1 : Rt w b1 A1 n1 c1 B1 m1 d1 x1) (g1 : Rt w p1 V1 r1 k1 U1 o1 q1 y1) (s1 : Sz x1 500) (t1 : Sz y1 500) (hp : decide (x0 = x1) = false) :
    Calls Tryz.prog 14 #[.agg #[.bool b0, .slice A0 n0 c0, .slice B0 m0 d0, .bool p0, .slice V0 r0 k0, .slice U0 o0 q0], .agg #[.bool b1, .slice A1 n1 c1, .slice B1 m1 d1, .bool p1, .slice V1 r1 k1, .slice U1 o1 q1]] w (GotV w (.bool false)) := by
  have cc := Below.refl w.heap.size w
  go_enter Tryz.func14, Tryz.ntmps14
  go_wp2_with fail
  generalize hv_ : (w.alloc (.cells #[.bool b0, .slice A0 n0 c0, .slice B0 m0 d0, .bool p0, .slice V0 r0 k0, .slice U0 o0 q0] 29)).alloc (.cells #[.bool b1, .slice A1 n1 c1, .slice B1 m1 d1, .bool p1, .slice V1 r1 k1, .slice U1 o1 q1] 29) = v1
  have bA : Below w.heap.size w v1 := by rw [← hv_]; exact (((Below.refl _ w).alloc (by simp) _).alloc (by simp) _)
  replace h0 := h0.on bA
  replace g0 := g0.on bA
  replace h1 := h1.on bA
  replace g1 := g1.on bA
  replace cc := bK cc bA
  clear bA
  obtain ⟨ka0, ka1, ka2, ka3, ka4, ka5⟩ : Cs6 v1 w.heap.size (.bool b0) (.slice A0 n0 c0) (.slice B0 m0 d0) (.bool p0) (.slice V0 r0 k0) (.slice U0 o0 q0) := by simp [Cs6, ← hv_, go_sem]
  have kal : w.heap.size < v1.heap.size := by simp [← hv_] <;> omega
  obtain ⟨kb0, kb1, kb2, kb3, kb4, kb5⟩ : Cs6 v1 (w.heap.size + 1) (.bool b1) (.slice A1 n1 c1) (.slice B1 m1 d1) (.bool p1) (.slice V1 r1 k1) (.slice U1 o1 q1) := by simp [Cs6, ← hv_, go_sem]
  have kbl : w.heap.size + 1 < v1.heap.size := by simp [← hv_] <;> omega
  clear hv_
  refine (rtsame_N h0 (s0.le (by omega)) h1 (s1.le (by omega)) false hp).mono ?_
  rintro e w2 ⟨rfl, b⟩
  replace h0 := h0.on b
  replace g0 := g0.on b
  replace h1 := h1.on b
  replace g1 := g1.on b
  rewrite [cR b kal] at ka0 ka1 ka2 ka3 ka4 ka5
  replace kal := lK b kal
  rewrite [cR b kbl] at kb0 kb1 kb2 kb3 kb4 kb5
  replace kbl := lK b kbl
  replace cc := bK cc b
  clear b
  go_wp2_with fail
  go_ret
  exact ⟨rfl, cc⟩

theorem stsame_yes {w : World} {b0 p0 : Bool} {A0 B0 V0 U0 : Option Addr} {n0 c0 m0 d0 r0 k0 o0 q0 : Nat} {b1 p1 : Bool} {A1 B1 V1 U1 : Option Addr} {n1 c1 m1 d1 r1 k1 o1 q1 : Nat} {x0 y0 : Rat} (h0 : Rt w b0 A0 n0 c0 B0 m0 d0 x0) (g0 : Rt w p0 V0 r0 k0 U0 o0 q0 y0) (s0 : Sz x0 500) (t0 : Sz y0 500) {x1 y1 : Rat} (h1 : Rt w b1 A1 n1 c1 B1 m1 d1 x1) (g1 : Rt w p1 V1 r1 k1 U1 o1 q1 y1) (s1 : Sz x1 500) (t1 : Sz y1 500) (z : Bool) (hp : decide (x0 = x1) = true) (hq : decide (y0 = y1) = z) :
    Calls Tryz.prog 14 #[.agg #[.bool b0, .slice A0 n0 c0, .slice B0 m0 d0, .bool p0, .slice V0 r0 k0, .slice U0 o0 q0], .agg #[.bool b1, .slice A1 n1 c1, .slice B1 m1 d1, .bool p1, .slice V1 r1 k1, .slice U1 o1 q1]] w (GotV w (.bool z)) := by
  have cc := Below.refl w.heap.size w
  go_enter Tryz.func14, Tryz.ntmps14
  go_wp2_with fail
  generalize hv_ : (w.alloc (.cells #[.bool b0, .slice A0 n0 c0, .slice B0 m0 d0, .bool p0, .slice V0 r0 k0, .slice U0 o0 q0] 29)).alloc (.cells #[.bool b1, .slice A1 n1 c1, .slice B1 m1 d1, .bool p1, .slice V1 r1 k1, .slice U1 o1 q1] 29) = v1
  have bA : Below w.heap.size w v1 := by rw [← hv_]; exact (((Below.refl _ w).alloc (by simp) _).alloc (by simp) _)
  replace h0 := h0.on bA
  replace g0 := g0.on bA
  replace h1 := h1.on bA
  replace g1 := g1.on bA
  replace cc := bK cc bA
  clear bA
  obtain ⟨ka0, ka1, ka2, ka3, ka4, ka5⟩ : Cs6 v1 w.heap.size (.bool b0) (.slice A0 n0 c0) (.slice B0 m0 d0) (.bool p0) (.slice V0 r0 k0) (.slice U0 o0 q0) := by simp [Cs6, ← hv_, go_sem]
  have kal : w.heap.size < v1.heap.size := by simp [← hv_] <;> omega
  obtain ⟨kb0, kb1, kb2, kb3, kb4, kb5⟩ : Cs6 v1 (w.heap.size + 1) (.bool b1) (.slice A1 n1 c1) (.slice B1 m1 d1) (.bool p1) (.slice V1 r1 k1) (.slice U1 o1 q1) := by simp [Cs6, ← hv_, go_sem]
  have kbl : w.heap.size + 1 < v1.heap.size := by simp [← hv_] <;> omega
  clear hv_
  refine (rtsame_N h0 (s0.le (by omega)) h1 (s1.le (by omega)) true hp).mono ?_
  rintro e w2 ⟨rfl, b⟩
  replace h0 := h0.on b
  replace g0 := g0.on b
  replace h1 := h1.on b
  replace g1 := g1.on b
  rewrite [cR b kal] at ka0 ka1 ka2 ka3 ka4 ka5
  replace kal := lK b kal
  rewrite [cR b kbl] at kb0 kb1 kb2 kb3 kb4 kb5
  replace kbl := lK b kbl
  replace cc := bK cc b
  clear b
  go_wp2_with fail
  refine (rtsame_N g0 (t0.le (by omega)) g1 (t1.le (by omega)) z hq).mono ?_
  rintro e w3 ⟨rfl, b⟩
  replace h0 := h0.on b
  replace g0 := g0.on b
  replace h1 := h1.on b
  replace g1 := g1.on b
  rewrite [cR b kal] at ka0 ka1 ka2 ka3 ka4 ka5
  replace kal := lK b kal
  rewrite [cR b kbl] at kb0 kb1 kb2 kb3 kb4 kb5
  replace kbl := lK b kbl
  replace cc := bK cc b
  clear b
  go_wp2_with fail
  go_ret
  exact ⟨rfl, cc⟩

theorem stsame_N {w : World} {b0 p0 : Bool} {A0 B0 V0 U0 : Option Addr} {n0 c0 m0 d0 r0 k0 o0 q0 : Nat} {b1 p1 : Bool} {A1 B1 V1 U1 : Option Addr} {n1 c1 m1 d1 r1 k1 o1 q1 : Nat} {x0 y0 : Rat} (h0 : Rt w b0 A0 n0 c0 B0 m0 d0 x0) (g0 : Rt w p0 V0 r0 k0 U0 o0 q0 y0) (s0 : Sz x0 500) (t0 : Sz y0 500) {x1 y1 : Rat} (h1 : Rt w b1 A1 n1 c1 B1 m1 d1 x1) (g1 : Rt w p1 V1 r1 k1 U1 o1 q1 y1) (s1 : Sz x1 500) (t1 : Sz y1 500) (z : Bool) (hz : decide (x0 = x1 ∧ y0 = y1) = z) :
    Calls Tryz.prog 14 #[.agg #[.bool b0, .slice A0 n0 c0, .slice B0 m0 d0, .bool p0, .slice V0 r0 k0, .slice U0 o0 q0], .agg #[.bool b1, .slice A1 n1 c1, .slice B1 m1 d1, .bool p1, .slice V1 r1 k1, .slice U1 o1 q1]] w (GotV w (.bool z)) := by
  by_cases hp : x0 = x1
  · exact stsame_yes h0 g0 s0 t0 h1 g1 s1 t1 z (decide_eq_true hp) (by rw [← hz]; simp [hp])
  · have : z = false := by rw [← hz]; simp [hp]
    subst this
    exact stsame_no h0 g0 s0 t0 h1 g1 s1 t1 (decide_eq_false hp)

theorem sthas_no {w : World} {b0 p0 : Bool} {A0 B0 V0 U0 : Option Addr} {n0 c0 m0 d0 r0 k0 o0 q0 : Nat} {b1 : Bool} {A1 B1 : Option Addr} {n1 c1 m1 d1 : Nat} {x0 y0 : Rat} (h0 : Rt w b0 A0 n0 c0 B0 m0 d0 x0) (g0 : Rt w p0 V0 r0 k0 U0 o0 q0 y0) (s0 : Sz x0 100) (t0 : Sz y0 100) {x1 : Rat} (h1 : Rt w b1 A1 n1 c1 B1 m1 d1 x1) (s1 : Sz x1 100) (hp : decide (cmpQ x0 x1 ≤ 0) = false) :
    Calls Tryz.prog 19 #[.agg #[.bool b0, .slice A0 n0 c0, .slice B0 m0 d0, .bool p0, .slice V0 r0 k0, .slice U0 o0 q0], .agg #[.bool b1, .slice A1 n1 c1, .slice B1 m1 d1]] w (GotV w (.bool false)) := by
  obtain ⟨ca, ea⟩ : ∃ c, cmpQ x0 x1 = c := ⟨_, rfl⟩
  obtain ⟨cb, eb⟩ : ∃ c, cmpQ x1 y0 = c := ⟨_, rfl⟩
  have EA := Lib.hid ea
  have EB := Lib.hid eb
  rw [ea] at hp
  clear ea eb
  have cc := Below.refl w.heap.size w
  go_enter Tryz.func19, Tryz.ntmps19
  go_wp2_with fail
  generalize hv_ : (w.alloc (.cells #[.bool b0, .slice A0 n0 c0, .slice B0 m0 d0, .bool p0, .slice V0 r0 k0, .slice U0 o0 q0] 29)).alloc (.cells #[.bool b1, .slice A1 n1 c1, .slice B1 m1 d1] 27) = v1
  have bA : Below w.heap.size w v1 := by rw [← hv_]; exact (((Below.refl _ w).alloc (by simp) _).alloc (by simp) _)
  replace h0 := h0.on bA
  replace g0 := g0.on bA
  replace h1 := h1.on bA
  replace cc := bK cc bA
  clear bA
  obtain ⟨ka0, ka1, ka2, ka3, ka4, ka5⟩ : Cs6 v1 w.heap.size (.bool b0) (.slice A0 n0 c0) (.slice B0 m0 d0) (.bool p0) (.slice V0 r0 k0) (.slice U0 o0 q0) := by simp [Cs6, ← hv_, go_sem]
  have kal : w.heap.size < v1.heap.size := by simp [← hv_] <;> omega
  obtain ⟨kb0, kb1, kb2⟩ : Cs3 v1 (w.heap.size + 1) (.bool b1) (.slice A1 n1 c1) (.slice B1 m1 d1) := by simp [Cs3, ← hv_, go_sem]
  have kbl : w.heap.size + 1 < v1.heap.size := by simp [← hv_] <;> omega
  clear hv_
  refine (rtcmp_v ca h0 s0 h1 s1 EA.out).mono ?_
  rintro e w2 ⟨rfl, b⟩
  replace h0 := h0.on b
  replace g0 := g0.on b
  replace h1 := h1.on b
  rewrite [cR b kal] at ka0 ka1 ka2 ka3 ka4 ka5
  replace kal := lK b kal
  rewrite [cR b kbl] at kb0 kb1 kb2
  replace kbl := lK b kbl
  replace cc := bK cc b
  clear b
  go_wp2_with fail
  go_ret
  exact ⟨rfl, cc⟩

theorem sthas_yes {w : World} {b0 p0 : Bool} {A0 B0 V0 U0 : Option Addr} {n0 c0 m0 d0 r0 k0 o0 q0 : Nat} {b1 : Bool} {A1 B1 : Option Addr} {n1 c1 m1 d1 : Nat} {x0 y0 : Rat} (h0 : Rt w b0 A0 n0 c0 B0 m0 d0 x0) (g0 : Rt w p0 V0 r0 k0 U0 o0 q0 y0) (s0 : Sz x0 100) (t0 : Sz y0 100) {x1 : Rat} (h1 : Rt w b1 A1 n1 c1 B1 m1 d1 x1) (s1 : Sz x1 100) (z : Bool) (hp : decide (cmpQ x0 x1 ≤ 0) = true) (hq : decide (cmpQ x1 y0 ≤ 0) = z) :
    Calls Tryz.prog 19 #[.agg #[.bool b0, .slice A0 n0 c0, .slice B0 m0 d0, .bool p0, .slice V0 r0 k0, .slice U0 o0 q0], .agg #[.bool b1, .slice A1 n1 c1, .slice B1 m1 d1]] w (GotV w (.bool z)) := by
  obtain ⟨ca, ea⟩ : ∃ c, cmpQ x0 x1 = c := ⟨_, rfl⟩
  obtain ⟨cb, eb⟩ : ∃ c, cmpQ x1 y0 = c := ⟨_, rfl⟩
  have EA := Lib.hid ea
  have EB := Lib.hid eb
  rw [ea] at hp
  rw [eb] at hq
  clear ea eb
  have cc := Below.refl w.heap.size w
  go_enter Tryz.func19, Tryz.ntmps19
  go_wp2_with fail
  generalize hv_ : (w.alloc (.cells #[.bool b0, .slice A0 n0 c0, .slice B0 m0 d0, .bool p0, .slice V0 r0 k0, .slice U0 o0 q0] 29)).alloc (.cells #[.bool b1, .slice A1 n1 c1, .slice B1 m1 d1] 27) = v1
  have bA : Below w.heap.size w v1 := by rw [← hv_]; exact (((Below.refl _ w).alloc (by simp) _).alloc (by simp) _)
  replace h0 := h0.on bA
  replace g0 := g0.on bA
  replace h1 := h1.on bA
  replace cc := bK cc bA
  clear bA
  obtain ⟨ka0, ka1, ka2, ka3, ka4, ka5⟩ : Cs6 v1 w.heap.size (.bool b0) (.slice A0 n0 c0) (.slice B0 m0 d0) (.bool p0) (.slice V0 r0 k0) (.slice U0 o0 q0) := by simp [Cs6, ← hv_, go_sem]
  have kal : w.heap.size < v1.heap.size := by simp [← hv_] <;> omega
  obtain ⟨kb0, kb1, kb2⟩ : Cs3 v1 (w.heap.size + 1) (.bool b1) (.slice A1 n1 c1) (.slice B1 m1 d1) := by simp [Cs3, ← hv_, go_sem]
  have kbl : w.heap.size + 1 < v1.heap.size := by simp [← hv_] <;> omega
  clear hv_
  refine (rtcmp_v ca h0 s0 h1 s1 EA.out).mono ?_
  rintro e w2 ⟨rfl, b⟩
  replace h0 := h0.on b
  replace g0 := g0.on b
  replace h1 := h1.on b
  rewrite [cR b kal] at ka0 ka1 ka2 ka3 ka4 ka5
  replace kal := lK b kal
  rewrite [cR b kbl] at kb0 kb1 kb2
  replace kbl := lK b kbl
  replace cc := bK cc b
  clear b
  go_wp2_with fail
  refine (rtcmp_v cb h1 s1 g0 t0 EB.out).mono ?_
  rintro e w3 ⟨rfl, b⟩
  replace h0 := h0.on b
  replace g0 := g0.on b
  replace h1 := h1.on b
  rewrite [cR b kal] at ka0 ka1 ka2 ka3 ka4 ka5
  replace kal := lK b kal
  rewrite [cR b kbl] at kb0 kb1 kb2
  replace kbl := lK b kbl
  replace cc := bK cc b
  clear b
  go_wp2_with fail
  go_ret
  exact ⟨rfl, cc⟩

theorem cmpQ_le {a b : Rat} : cmpQ a b ≤ 0 ↔ a ≤ b := by unfold cmpQ; grind

theorem sthas_N {w : World} {b0 p0 : Bool} {A0 B0 V0 U0 : Option Addr} {n0 c0 m0 d0 r0 k0 o0 q0 : Nat} {b1 : Bool} {A1 B1 : Option Addr} {n1 c1 m1 d1 : Nat} {x0 y0 : Rat} (h0 : Rt w b0 A0 n0 c0 B0 m0 d0 x0) (g0 : Rt w p0 V0 r0 k0 U0 o0 q0 y0) (s0 : Sz x0 100) (t0 : Sz y0 100) {x1 : Rat} (h1 : Rt w b1 A1 n1 c1 B1 m1 d1 x1) (s1 : Sz x1 100) (z : Bool) (hz : decide (x0 ≤ x1 ∧ x1 ≤ y0) = z) :
    Calls Tryz.prog 19 #[.agg #[.bool b0, .slice A0 n0 c0, .slice B0 m0 d0, .bool p0, .slice V0 r0 k0, .slice U0 o0 q0], .agg #[.bool b1, .slice A1 n1 c1, .slice B1 m1 d1]] w (GotV w (.bool z)) := by
  by_cases hp : x0 ≤ x1
  · exact sthas_yes h0 g0 s0 t0 h1 s1 z (decide_eq_true (cmpQ_le.2 hp)) (by rw [← hz]; simp only [cmpQ_le, hp, true_and])
  · have : z = false := by rw [← hz]; simp [hp]
    subst this
    exact sthas_no h0 g0 s0 t0 h1 s1 (decide_eq_false (fun h => hp (cmpQ_le.1 h)))

theorem stin_no {w : World} {b0 p0 : Bool} {A0 B0 V0 U0 : Option Addr} {n0 c0 m0 d0 r0 k0 o0 q0 : Nat} {b1 p1 : Bool} {A1 B1 V1 U1 : Option Addr} {n1 c1 m1 d1 r1 k1 o1 q1 : Nat} {x0 y0 : Rat} (h0 : Rt w b0 A0 n0 c0 B0 m0 d0 x0) (g0 : Rt w p0 V0 r0 k0 U0 o0 q0 y0) (s0 : Sz x0 100) (t0 : Sz y0 100) {x1 y1 : Rat} (h1 : Rt w b1 A1 n1 c1 B1 m1 d1 x1) (g1 : Rt w p1 V1 r1 k1 U1 o1 q1 y1) (s1 : Sz x1 100) (t1 : Sz y1 100) (hp : decide (x1 ≤ x0 ∧ x0 ≤ y1) = false) :
    Calls Tryz.prog 21 #[.agg #[.bool b0, .slice A0 n0 c0, .slice B0 m0 d0, .bool p0, .slice V0 r0 k0, .slice U0 o0 q0], .agg #[.bool b1, .slice A1 n1 c1, .slice B1 m1 d1, .bool p1, .slice V1 r1 k1, .slice U1 o1 q1]] w (GotV w (.bool false)) := by
  have cc := Below.refl w.heap.size w
  go_enter Tryz.func21, Tryz.ntmps21
  go_wp2_with fail
  generalize hv_ : (w.alloc (.cells #[.bool b0, .slice A0 n0 c0, .slice B0 m0 d0, .bool p0, .slice V0 r0 k0, .slice U0 o0 q0] 29)).alloc (.cells #[.bool b1, .slice A1 n1 c1, .slice B1 m1 d1, .bool p1, .slice V1 r1 k1, .slice U1 o1 q1] 29) = v1
  have bA : Below w.heap.size w v1 := by rw [← hv_]; exact (((Below.refl _ w).alloc (by simp) _).alloc (by simp) _)
  replace h0 := h0.on bA
  replace g0 := g0.on bA
  replace h1 := h1.on bA
  replace g1 := g1.on bA
  replace cc := bK cc bA
  clear bA
  obtain ⟨ka0, ka1, ka2, ka3, ka4, ka5⟩ : Cs6 v1 w.heap.size (.bool b0) (.slice A0 n0 c0) (.slice B0 m0 d0) (.bool p0) (.slice V0 r0 k0) (.slice U0 o0 q0) := by simp [Cs6, ← hv_, go_sem]
  have kal : w.heap.size < v1.heap.size := by simp [← hv_] <;> omega
  obtain ⟨kb0, kb1, kb2, kb3, kb4, kb5⟩ : Cs6 v1 (w.heap.size + 1) (.bool b1) (.slice A1 n1 c1) (.slice B1 m1 d1) (.bool p1) (.slice V1 r1 k1) (.slice U1 o1 q1) := by simp [Cs6, ← hv_, go_sem]
  have kbl : w.heap.size + 1 < v1.heap.size := by simp [← hv_] <;> omega
  clear hv_
  refine (sthas_N h1 g1 s1 t1 h0 s0 false hp).mono ?_
  rintro e w2 ⟨rfl, b⟩
  replace h0 := h0.on b
  replace g0 := g0.on b
  replace h1 := h1.on b
  replace g1 := g1.on b
  rewrite [cR b kal] at ka0 ka1 ka2 ka3 ka4 ka5
  replace kal := lK b kal
  rewrite [cR b kbl] at kb0 kb1 kb2 kb3 kb4 kb5
  replace kbl := lK b kbl
  replace cc := bK cc b
  clear b
  go_wp2_with fail
  go_ret
  exact ⟨rfl, cc⟩

theorem stin_yes {w : World} {b0 p0 : Bool} {A0 B0 V0 U0 : Option Addr} {n0 c0 m0 d0 r0 k0 o0 q0 : Nat} {b1 p1 : Bool} {A1 B1 V1 U1 : Option Addr} {n1 c1 m1 d1 r1 k1 o1 q1 : Nat} {x0 y0 : Rat} (h0 : Rt w b0 A0 n0 c0 B0 m0 d0 x0) (g0 : Rt w p0 V0 r0 k0 U0 o0 q0 y0) (s0 : Sz x0 100) (t0 : Sz y0 100) {x1 y1 : Rat} (h1 : Rt w b1 A1 n1 c1 B1 m1 d1 x1) (g1 : Rt w p1 V1 r1 k1 U1 o1 q1 y1) (s1 : Sz x1 100) (t1 : Sz y1 100) (z : Bool) (hp : decide (x1 ≤ x0 ∧ x0 ≤ y1) = true) (hq : decide (x1 ≤ y0 ∧ y0 ≤ y1) = z) :
    Calls Tryz.prog 21 #[.agg #[.bool b0, .slice A0 n0 c0, .slice B0 m0 d0, .bool p0, .slice V0 r0 k0, .slice U0 o0 q0], .agg #[.bool b1, .slice A1 n1 c1, .slice B1 m1 d1, .bool p1, .slice V1 r1 k1, .slice U1 o1 q1]] w (GotV w (.bool z)) := by
  have cc := Below.refl w.heap.size w
  go_enter Tryz.func21, Tryz.ntmps21
  go_wp2_with fail
  generalize hv_ : (w.alloc (.cells #[.bool b0, .slice A0 n0 c0, .slice B0 m0 d0, .bool p0, .slice V0 r0 k0, .slice U0 o0 q0] 29)).alloc (.cells #[.bool b1, .slice A1 n1 c1, .slice B1 m1 d1, .bool p1, .slice V1 r1 k1, .slice U1 o1 q1] 29) = v1
  have bA : Below w.heap.size w v1 := by rw [← hv_]; exact (((Below.refl _ w).alloc (by simp) _).alloc (by simp) _)
  replace h0 := h0.on bA
  replace g0 := g0.on bA
  replace h1 := h1.on bA
  replace g1 := g1.on bA
  replace cc := bK cc bA
  clear bA
  obtain ⟨ka0, ka1, ka2, ka3, ka4, ka5⟩ : Cs6 v1 w.heap.size (.bool b0) (.slice A0 n0 c0) (.slice B0 m0 d0) (.bool p0) (.slice V0 r0 k0) (.slice U0 o0 q0) := by simp [Cs6, ← hv_, go_sem]
  have kal : w.heap.size < v1.heap.size := by simp [← hv_] <;> omega
  obtain ⟨kb0, kb1, kb2, kb3, kb4, kb5⟩ : Cs6 v1 (w.heap.size + 1) (.bool b1) (.slice A1 n1 c1) (.slice B1 m1 d1) (.bool p1) (.slice V1 r1 k1) (.slice U1 o1 q1) := by simp [Cs6, ← hv_, go_sem]
  have kbl : w.heap.size + 1 < v1.heap.size := by simp [← hv_] <;> omega
  clear hv_
  refine (sthas_N h1 g1 s1 t1 h0 s0 true hp).mono ?_
  rintro e w2 ⟨rfl, b⟩
  replace h0 := h0.on b
  replace g0 := g0.on b
  replace h1 := h1.on b
  replace g1 := g1.on b
  rewrite [cR b kal] at ka0 ka1 ka2 ka3 ka4 ka5
  replace kal := lK b kal
  rewrite [cR b kbl] at kb0 kb1 kb2 kb3 kb4 kb5
  replace kbl := lK b kbl
  replace cc := bK cc b
  clear b
  go_wp2_with fail
  refine (sthas_N h1 g1 s1 t1 g0 t0 z hq).mono ?_
  rintro e w3 ⟨rfl, b⟩
  replace h0 := h0.on b
  replace g0 := g0.on b
  replace h1 := h1.on b
  replace g1 := g1.on b
  rewrite [cR b kal] at ka0 ka1 ka2 ka3 ka4 ka5
  replace kal := lK b kal
  rewrite [cR b kbl] at kb0 kb1 kb2 kb3 kb4 kb5
  replace kbl := lK b kbl
  replace cc := bK cc b
  clear b
  go_wp2_with fail
  go_ret
  exact ⟨rfl, cc⟩

theorem stin_N {w : World} {b0 p0 : Bool} {A0 B0 V0 U0 : Option Addr} {n0 c0 m0 d0 r0 k0 o0 q0 : Nat} {b1 p1 : Bool} {A1 B1 V1 U1 : Option Addr} {n1 c1 m1 d1 r1 k1 o1 q1 : Nat} {x0 y0 : Rat} (h0 : Rt w b0 A0 n0 c0 B0 m0 d0 x0) (g0 : Rt w p0 V0 r0 k0 U0 o0 q0 y0) (s0 : Sz x0 100) (t0 : Sz y0 100) {x1 y1 : Rat} (h1 : Rt w b1 A1 n1 c1 B1 m1 d1 x1) (g1 : Rt w p1 V1 r1 k1 U1 o1 q1 y1) (s1 : Sz x1 100) (t1 : Sz y1 100) (z : Bool) (hz : decide ((x1 ≤ x0 ∧ x0 ≤ y1) ∧ (x1 ≤ y0 ∧ y0 ≤ y1)) = z) :
    Calls Tryz.prog 21 #[.agg #[.bool b0, .slice A0 n0 c0, .slice B0 m0 d0, .bool p0, .slice V0 r0 k0, .slice U0 o0 q0], .agg #[.bool b1, .slice A1 n1 c1, .slice B1 m1 d1, .bool p1, .slice V1 r1 k1, .slice U1 o1 q1]] w (GotV w (.bool z)) := by
  by_cases hp : x1 ≤ x0 ∧ x0 ≤ y1
  · exact stin_yes h0 g0 s0 t0 h1 g1 s1 t1 z (decide_eq_true hp) (by rw [← hz]; simp only [hp, true_and])
  · have : z = false := by rw [← hz]; simp only [hp, false_and]; rfl
    subst this
    exact stin_no h0 g0 s0 t0 h1 g1 s1 t1 (decide_eq_false hp)

end Go.Proofs.YtanpklbconflmaaGreat

/-
  The contracts of the seventh reference: Of.
-/
namespace Go.Proofs.YtanpklbconflmaaGreat
set_option maxRecDepth 100000
open Go.RowKit
set_option linter.unusedVariables false
set_option linter.unusedSimpArgs false

set_option maxHeartbeats 8000000 in
theorem stof_N {w : World} {b : Bool} {A B : Option Addr} {n c m d : Nat} {x : Rat} (h : Rt w b A n c B m d x) :
    Calls Tryz.prog 16 #[.agg #[.bool b, .slice A n c, .slice B m d]] w (GotSt w x x) := by
  obtain ⟨W, hW⟩ : ∃ W, (w.alloc (.cells #[.bool b, .slice A n c, .slice B m d] 27)).alloc (.cells #[.bool false, .slice none 0 0, .slice none 0 0, .bool false, .slice none 0 0, .slice none 0 0] 29) = W := ⟨_, rfl⟩
  have hB : Below w.heap.size w W := by rw [← hW]; exact below_two w _ _
  have hr := h.on hB
  have c0_ : W.cell? ⟨w.heap.size, 0, none⟩ = some (.bool b) := by rw [← hW]; simp [go_sem]
  have c1_ : W.cell? ⟨w.heap.size, 1, none⟩ = some (.slice A n c) := by rw [← hW]; simp [go_sem]
  have c2_ : W.cell? ⟨w.heap.size, 2, none⟩ = some (.slice B m d) := by rw [← hW]; simp [go_sem]
  have d0_ : W.cell? ⟨w.heap.size + 1, 0, none⟩ = some (.bool false) := by rw [← hW]; simp [go_sem]
  have f0_ : W.frozen? ⟨w.heap.size + 1, 0, none⟩ = false := by rw [← hW]; simp [go_sem]
  have d1_ : W.cell? ⟨w.heap.size + 1, 1, none⟩ = some (.slice none 0 0) := by rw [← hW]; simp [go_sem]
  have f1_ : W.frozen? ⟨w.heap.size + 1, 1, none⟩ = false := by rw [← hW]; simp [go_sem]
  have d2_ : W.cell? ⟨w.heap.size + 1, 2, none⟩ = some (.slice none 0 0) := by rw [← hW]; simp [go_sem]
  have f2_ : W.frozen? ⟨w.heap.size + 1, 2, none⟩ = false := by rw [← hW]; simp [go_sem]
  have d3_ : W.cell? ⟨w.heap.size + 1, 3, none⟩ = some (.bool false) := by rw [← hW]; simp [go_sem]
  have f3_ : W.frozen? ⟨w.heap.size + 1, 3, none⟩ = false := by rw [← hW]; simp [go_sem]
  have d4_ : W.cell? ⟨w.heap.size + 1, 4, none⟩ = some (.slice none 0 0) := by rw [← hW]; simp [go_sem]
  have f4_ : W.frozen? ⟨w.heap.size + 1, 4, none⟩ = false := by rw [← hW]; simp [go_sem]
  have d5_ : W.cell? ⟨w.heap.size + 1, 5, none⟩ = some (.slice none 0 0) := by rw [← hW]; simp [go_sem]
  have f5_ : W.frozen? ⟨w.heap.size + 1, 5, none⟩ = false := by rw [← hW]; simp [go_sem]
  have hb_ : Held W (w.heap.size + 1) := held6 d0_ d1_ d2_ d3_ d4_ d5_
  have HZ : Hid (Rt (putS W (w.heap.size + 1) (.bool b) (.slice A n c) (.slice B m d) (.bool b) (.slice A n c) (.slice B m d)) b A n c B m d x) := Lib.hid (Rt.putS hr hb_ _ _)
  clear hr h hb_
  go_enter Tryz.func16, Tryz.ntmps16
  go_wp2_with fail
  clear hW
  refine bodyPost_ret (v := .agg #[.bool b, .slice A n c, .slice B m d, .bool b, .slice A n c, .slice B m d]) (by simp [results, Tryz.results16, go_sem, d0_, d1_, d2_, d3_, d4_, d5_]) rfl ⟨_, _, _, _, _, _, _, _, _, _, _, _, _, _, rfl, ⟨HZ.out, HZ.out⟩, below_putS hB (by omega) _ _ _ _ _ _⟩

end Go.Proofs.YtanpklbconflmaaGreat

/-
  Rows of rationals; a span whose ends are written one by one.
-/
namespace Go.Proofs.YtanpklbconflmaaGreat
open Go.RowKit
set_option linter.unusedVariables false
set_option linter.unusedSimpArgs false

/-- Rationals one behind the other in memory: number i is X i. -/
def RowR (w : World) (g n : Nat) (X : Nat → Rat) : Prop := ∀ i, i < n → ∃ (b : Bool) (A : Option Addr) (k c : Nat) (B : Option Addr) (m d : Nat), w.cell? ⟨g, i * 3, none⟩ = some (.bool b) ∧ w.cell? ⟨g, i * 3 + 1, none⟩ = some (.slice A k c) ∧ w.cell? ⟨g, i * 3 + 2, none⟩ = some (.slice B m d) ∧ Rt w b A k c B m d (X i)
theorem RowR.on {w w' : World} {g n : Nat} {X : Nat → Rat} (h : RowR w g n X) (hg : g < w.heap.size) (hb : Below w.heap.size w w') : RowR w' g n X := by
  intro i hi
  obtain ⟨b, A, k, c, B, m, d, h0, h1, h2, h3⟩ := h i hi
  exact ⟨b, A, k, c, B, m, d, cK hb h0 hg, cK hb h1 hg, cK hb h2 hg, h3.on hb⟩
/-- The least, the greatest of X 0 and the first i. -/
def lowR (X : Nat → Rat) : Nat → Rat | 0 => X 0 | i + 1 => if X i < lowR X i then X i else lowR X i
def highR (X : Nat → Rat) : Nat → Rat | 0 => X 0 | i + 1 => if highR X i < X i then X i else highR X i
theorem lowR_sz {X : Nat → Rat} {n k : Nat} (h : ∀ i, i < n → Sz (X i) k) (h0 : 0 < n) : ∀ i, i ≤ n → Sz (lowR X i) k := by
  intro i
  induction i with
  | zero => intro _; exact h 0 h0
  | succ i ih =>
    intro hi
    show Sz (if X i < lowR X i then X i else lowR X i) k
    split
    · exact h i (by omega)
    · exact ih (by omega)
theorem highR_sz {X : Nat → Rat} {n k : Nat} (h : ∀ i, i < n → Sz (X i) k) (h0 : 0 < n) : ∀ i, i ≤ n → Sz (highR X i) k := by
  intro i
  induction i with
  | zero => intro _; exact h 0 h0
  | succ i ih =>
    intro hi
    show Sz (if highR X i < X i then X i else highR X i) k
    split
    · exact h i (by omega)
    · exact ih (by omega)
/-- Six cells that may be written. -/
def Free6 (W : World) (g : Nat) : Prop := W.frozen? ⟨g, 0, none⟩ = false ∧ W.frozen? ⟨g, 1, none⟩ = false ∧ W.frozen? ⟨g, 2, none⟩ = false ∧ W.frozen? ⟨g, 3, none⟩ = false ∧ W.frozen? ⟨g, 4, none⟩ = false ∧ W.frozen? ⟨g, 5, none⟩ = false
def Box6 (W : World) (g : Nat) (b : Bool) (A : Option Addr) (n c : Nat) (B : Option Addr) (m d : Nat) (p : Bool) (V : Option Addr) (r k : Nat) (U : Option Addr) (o q : Nat) : Prop := W.cell? ⟨g, 0, none⟩ = some (.bool b) ∧ W.cell? ⟨g, 1, none⟩ = some (.slice A n c) ∧ W.cell? ⟨g, 2, none⟩ = some (.slice B m d) ∧ W.cell? ⟨g, 3, none⟩ = some (.bool p) ∧ W.cell? ⟨g, 4, none⟩ = some (.slice V r k) ∧ W.cell? ⟨g, 5, none⟩ = some (.slice U o q)

theorem Held.of {W : World} {g : Nat} {b : Bool} {A : Option Addr} {n c : Nat} {B : Option Addr} {m d : Nat} {p : Bool} {V : Option Addr} {r k : Nat} {U : Option Addr} {o q : Nat} (h : Box6 W g b A n c B m d p V r k U o q) : Held W g := held6 h.1 h.2.1 h.2.2.1 h.2.2.2.1 h.2.2.2.2.1 h.2.2.2.2.2
/-- The lower end is written; the upper end. -/
@[reducible] def putH (W : World) (g : Nat) (u v x : Value) : World := ((W.setCell ⟨g, 3, none⟩ u).setCell ⟨g, 4, none⟩ v).setCell ⟨g, 5, none⟩ x
section
variable {W : World} {g : Nat} {b b1 : Bool} {A A1 B B1 : Option Addr} {n c m d n1 c1 m1 d1 : Nat} {p : Bool} {V U : Option Addr} {r k o q : Nat}
theorem box6_low (h : Box6 W g b A n c B m d p V r k U o q) : Box6 (putR W g (.bool b1) (.slice A1 n1 c1) (.slice B1 m1 d1)) g b1 A1 n1 c1 B1 m1 d1 p V r k U o q := by
  obtain ⟨h0, h1, h2, h3, h4, h5⟩ := h
  have e := BoxR.put (W := W) (g := g) ⟨h0, h1, h2⟩ b1 A1 n1 c1 B1 m1 d1
  refine ⟨e.1, e.2.1, e.2.2, ?_, ?_, ?_⟩
  · iterate 3 rw [World.cell?_setCell_other (h := addr_ne (by omega))]
    exact h3
  · iterate 3 rw [World.cell?_setCell_other (h := addr_ne (by omega))]
    exact h4
  · iterate 3 rw [World.cell?_setCell_other (h := addr_ne (by omega))]
    exact h5
theorem box6_high (h : Box6 W g b A n c B m d p V r k U o q) : Box6 (putH W g (.bool b1) (.slice A1 n1 c1) (.slice B1 m1 d1)) g b A n c B m d b1 A1 n1 c1 B1 m1 d1 := by
  obtain ⟨h0, h1, h2, h3, h4, h5⟩ := h
  have e4 : (W.setCell ⟨g, 3, none⟩ (.bool b1)).cell? ⟨g, 4, none⟩ = some (.slice V r k) := (World.cell?_setCell_other W _ _ _ (addr_ne (by omega))).trans h4
  have e5 : ((W.setCell ⟨g, 3, none⟩ (.bool b1)).setCell ⟨g, 4, none⟩ (.slice A1 n1 c1)).cell? ⟨g, 5, none⟩ = some (.slice U o q) := (World.cell?_setCell_other _ _ _ _ (addr_ne (by omega))).trans ((World.cell?_setCell_other W _ _ _ (addr_ne (by omega))).trans h5)
  refine ⟨?_, ?_, ?_, ?_, ?_, ?_⟩
  · iterate 3 rw [World.cell?_setCell_other (h := addr_ne (by omega))]
    exact h0
  · iterate 3 rw [World.cell?_setCell_other (h := addr_ne (by omega))]
    exact h1
  · iterate 3 rw [World.cell?_setCell_other (h := addr_ne (by omega))]
    exact h2
  · iterate 2 rw [World.cell?_setCell_other (h := addr_ne (by omega))]
    exact World.cell?_setCell_same _ _ _ h3
  · rw [World.cell?_setCell_other (h := addr_ne (by omega))]
    exact World.cell?_setCell_same _ _ _ e4
  · exact World.cell?_setCell_same _ _ _ e5
theorem rt_low {b0 : Bool} {A0 B0 : Option Addr} {n0 c0 m0 d0 : Nat} {x : Rat} (hr : Rt W b0 A0 n0 c0 B0 m0 d0 x) (h : Held W g) : Rt (putR W g (.bool b1) (.slice A1 n1 c1) (.slice B1 m1 d1)) b0 A0 n0 c0 B0 m0 d0 x := by
  have k0 := h.set (j := 0) (v := .bool b1) (by omega) (fun _ _ e => by cases e)
  have k1 := k0.set (j := 1) (v := .slice A1 n1 c1) (by omega) (fun _ _ e => by cases e)
  exact ⟨⟨((hr.1.1.held h (by omega)).held k0 (by omega)).held k1 (by omega), hr.1.2⟩, ((hr.2.held h (by omega)).held k0 (by omega)).held k1 (by omega)⟩
theorem rt_high {b0 : Bool} {A0 B0 : Option Addr} {n0 c0 m0 d0 : Nat} {x : Rat} (hr : Rt W b0 A0 n0 c0 B0 m0 d0 x) (h : Held W g) : Rt (putH W g (.bool b1) (.slice A1 n1 c1) (.slice B1 m1 d1)) b0 A0 n0 c0 B0 m0 d0 x := by
  have k0 := h.set (j := 3) (v := .bool b1) (by omega) (fun _ _ e => by cases e)
  have k1 := k0.set (j := 4) (v := .slice A1 n1 c1) (by omega) (fun _ _ e => by cases e)
  exact ⟨⟨((hr.1.1.held h (by omega)).held k0 (by omega)).held k1 (by omega), hr.1.2⟩, ((hr.2.held h (by omega)).held k0 (by omega)).held k1 (by omega)⟩
theorem below_putH {C g : Nat} {V W : World} (h : Below C V W) (hg : C ≤ g) (u v y : Value) : Below C V (putH W g u v y) := ((h.setCell (p := ⟨g, 3, none⟩) hg u).setCell (p := ⟨g, 4, none⟩) hg v).setCell (p := ⟨g, 5, none⟩) hg y
theorem free6_set {W : World} {g i : Nat} {v : Value} (h : Free6 W g) : Free6 (W.setCell ⟨g, i, none⟩ v) g := by
  obtain ⟨h0, h1, h2, h3, h4, h5⟩ := h
  exact ⟨by simpa [go_sem] using h0, by simpa [go_sem] using h1, by simpa [go_sem] using h2, by simpa [go_sem] using h3, by simpa [go_sem] using h4, by simpa [go_sem] using h5⟩
end

end Go.Proofs.YtanpklbconflmaaGreat

/-
  The contracts of the seventh reference: around.
-/
namespace Go.Proofs.YtanpklbconflmaaGreat
set_option maxRecDepth 100000
open Go.RowKit
set_option linter.unusedVariables false
set_option linter.unusedSimpArgs false

theorem cmpQ_neg {a b : Rat} : cmpQ a b < 0 ↔ a < b := by unfold cmpQ; grind
theorem cmpQ_pos {a b : Rat} : 0 < cmpQ a b ↔ b < a := by unfold cmpQ; grind

set_option maxHeartbeats 8000000 in
theorem around_N {w : World} {gl N : Nat} {X : Nat → Rat} (hgl : gl < w.heap.size) (h4 : 0 < N) (hN : N ≤ 100) (hrow : RowR w gl N X) (hs : ∀ i, i < N → Sz (X i) 100) :
    Calls Tryz.prog 51 #[.slice (some ⟨gl, 0, none⟩) N N] w (GotSt w (lowR X N) (highR X N)) := by
  have hr0 := hrow 0 h4
  obtain ⟨b0, A0, n0, c0, B0, m0, d0, r0, r1, r2, h0⟩ := hr0
  rw [Nat.zero_mul] at r0 r1 r2
  have HR := Lib.hid hrow
  have HS := Lib.hid hs
  have HL := Lib.hid hgl
  clear hrow hs
  have rl : gl < w.heap.size := hgl
  have cc := Below.refl w.heap.size w
  go_enter Tryz.func51, Tryz.ntmps51
  go_wp2_with fail
  generalize hv_ : w.alloc (.cells #[.bool false, .slice none 0 0, .slice none 0 0, .bool false, .slice none 0 0, .slice none 0 0] 29) = v1
  obtain ⟨f0, f1, f2, f3, f4, f5⟩ : Fz6 v1 w.heap.size := by simp [Fz6, ← hv_, go_sem]
  have bA : Below w.heap.size w v1 := by rw [← hv_]; exact ((Below.refl _ w).alloc (by simp) _)
  replace h0 := h0.on bA
  rewrite [cR bA rl] at r0 r1 r2
  replace rl := lK bA rl
  replace cc := bK cc bA
  clear bA
  obtain ⟨g_0, g_1, g_2, g_3, g_4, g_5⟩ : Cs6 v1 w.heap.size (.bool false) (.slice none 0 0) (.slice none 0 0) (.bool false) (.slice none 0 0) (.slice none 0 0) := by simp [Cs6, ← hv_, go_sem]
  have g_l : w.heap.size < v1.heap.size := by simp [← hv_] <;> omega
  clear hv_
  refine (stof_N h0).mono ?_
  rintro e w2 ⟨bz, Az, nz, cz, Bz, mz, dz, pz, Vz, rz, kz, Uz, oz, qz, rfl, ⟨hz, gz⟩, b⟩
  rewrite [fR b g_l] at f0 f1 f2 f3 f4 f5
  replace h0 := h0.on b
  rewrite [cR b rl] at r0 r1 r2
  replace rl := lK b rl
  rewrite [cR b g_l] at g_0 g_1 g_2 g_3 g_4 g_5
  replace g_l := lK b g_l
  replace cc := bK cc b
  clear b
  have gq : w.heap.size < w2.heap.size := g_l
  go_wp2_with fail
  generalize hv_ : w2.alloc (.cells #[.bool bz, .slice Az nz cz, .slice Bz mz dz, .bool pz, .slice Vz rz kz, .slice Uz oz qz] 29) = v3
  have bA : Below w2.heap.size w2 v3 := by rw [← hv_]; exact below_one _ _
  rewrite [fR bA g_l] at f0 f1 f2 f3 f4 f5
  replace h0 := h0.on bA
  replace hz := hz.on bA
  replace gz := gz.on bA
  rewrite [cR bA rl] at r0 r1 r2
  replace rl := lK bA rl
  rewrite [cR bA g_l] at g_0 g_1 g_2 g_3 g_4 g_5
  replace g_l := lK bA g_l
  replace cc := bK cc bA
  clear bA
  obtain ⟨u0, u1, u2, u3, u4, u5⟩ : Cs6 v3 w2.heap.size (.bool bz) (.slice Az nz cz) (.slice Bz mz dz) (.bool pz) (.slice Vz rz kz) (.slice Uz oz qz) := by simp [Cs6, ← hv_, go_sem]
  have ul : w2.heap.size < v3.heap.size := by simp [← hv_]
  have uf : Free6 v3 w2.heap.size := ⟨by simp [← hv_, go_sem], by simp [← hv_, go_sem], by simp [← hv_, go_sem], by simp [← hv_, go_sem], by simp [← hv_, go_sem], by simp [← hv_, go_sem]⟩
  clear hv_
  have gf : Free6 v3 w.heap.size := ⟨f0, f1, f2, f3, f4, f5⟩
  have gb : Box6 v3 w.heap.size false none 0 0 none 0 0 false none 0 0 none 0 0 := ⟨g_0, g_1, g_2, g_3, g_4, g_5⟩
  have ub : Box6 v3 w2.heap.size bz Az nz cz Bz mz dz pz Vz rz kz Uz oz qz := ⟨u0, u1, u2, u3, u4, u5⟩
  clear f0 f1 f2 f3 f4 f5 g_0 g_1 g_2 g_3 g_4 g_5 u0 u1 u2 u3 u4 u5 r0 r1 r2 rl h0
  go_loopw [4] (fun iv wr => ∃ (wv : World) (i : Nat) (bu : Bool) (Au : Option Addr) (nu cu : Nat) (Bu : Option Addr) (mu du : Nat) (pu : Bool) (Vu : Option Addr) (ru ku : Nat) (Uu : Option Addr) (ou qu : Nat), wv = wr ∧ iv = .int .i64 (i : Int) ∧ i ≤ N ∧ Box6 wr w2.heap.size bu Au nu cu Bu mu du pu Vu ru ku Uu ou qu ∧ Free6 wr w2.heap.size ∧ Rt wr bu Au nu cu Bu mu du (lowR X i) ∧ Rt wr pu Vu ru ku Uu ou qu (highR X i) ∧ Below w2.heap.size v3 wr) (fun iv _ => N - (intOf iv).toNat)
  case atStart => exact ⟨_, 0, bz, Az, nz, cz, Bz, mz, dz, pz, Vz, rz, kz, Uz, oz, qz, rfl, rfl, Nat.zero_le _, ub, uf, hz, gz, Below.refl _ _⟩
  case round =>
    obtain ⟨wv, i, bu, Au, nu, cu, Bu, mu, du, pu, Vu, ru, ku, Uu, ou, qu, e, rfl, hi, ⟨u0, u1, u2, u3, u4, u5⟩, ⟨z0_, z1_, z2_, z3_, z4_, z5_⟩, hlo, hhi, hB⟩ := hrel
    subst e
    have ccv := cc.trans (hB.mono (Nat.le_of_lt gq))
    clear ub uf hz gz
    have hrow := HR.out.on HL.out ccv
    have ul := cell_lt u0
    simp only at ul
    by_cases hlt : i < N
    · obtain ⟨bi, Ai, ni, ci, Bi, mi, di, e0, e1, e2, hr⟩ := hrow i hlt
      have sl := lowR_sz HS.out h4 i (by omega)
      have sh := highR_sz HS.out h4 i (by omega)
      have si := HS.out i hlt
      have el : gl < wv.heap.size := Nat.lt_of_lt_of_le HL.out ccv.size
      have hne : gl ≠ w2.heap.size := by have := HL.out; omega
      obtain ⟨c1_, h1⟩ : ∃ c, cmpQ (X i) (lowR X i) = c := ⟨_, rfl⟩
      obtain ⟨c2_, h2⟩ : ∃ c, cmpQ (X i) (highR X i) = c := ⟨_, rfl⟩
      have H1 := Lib.hid h1
      have H2 := Lib.hid h2
      have HI := Lib.hid hlt
      obtain ⟨lo, hlo_⟩ : ∃ v, lowR X i = v := ⟨_, rfl⟩
      obtain ⟨hi_, hhi_⟩ : ∃ v, highR X i = v := ⟨_, rfl⟩
      rw [hlo_] at hlo sl H1
      rw [hhi_] at hhi sh H2
      obtain ⟨xi, hxi⟩ : ∃ v, X i = v := ⟨_, rfl⟩
      rw [hxi] at hr si H1 H2
      have DL : Hid (lowR X (i + 1) = if xi < lo then xi else lo) := Lib.hid (by rw [← hxi, ← hlo_]; rfl)
      have DH : Hid (highR X (i + 1) = if hi_ < xi then xi else hi_) := Lib.hid (by rw [← hxi, ← hhi_]; rfl)
      clear hrow h1 h2 hlo_ hhi_ hxi
      by_cases q1 : c1_ < 0
      · by_cases q2 : 0 < c2_
        · skip
          have t1 : decide (c1_ < 0) = true := decide_eq_true q1
          have t2 : decide (0 < c2_) = true := decide_eq_true q2
          have DL2 : Hid (lowR X (i + 1) = xi) := Lib.hid (by rw [DL.out, if_pos (cmpQ_neg.1 (by rw [H1.out]; exact q1))])
          have DH2 : Hid (highR X (i + 1) = xi) := Lib.hid (by rw [DH.out, if_pos (cmpQ_pos.1 (by rw [H2.out]; exact q2))])
          clear q1 q2 DL DH
          replace cc := ccv
          clear ccv
          go_wp2_with fail
          have bD : Below wv.heap.size wv wv.drew := below_drewN (Below.refl _ wv) 1
          replace hB := hB.trans (bD.mono (Nat.le_of_lt ul))
          rewrite [fR bD ul] at z0_ z1_ z2_ z3_ z4_ z5_
          rewrite [cR bD el] at e0 e1 e2
          replace el := lK bD el
          replace hr := hr.on bD
          replace hlo := hlo.on bD
          replace hhi := hhi.on bD
          rewrite [cR bD ul] at u0 u1 u2 u3 u4 u5
          replace ul := lK bD ul
          replace cc := bK cc bD
          clear bD
          refine wp_region_held_drew (S := fun w' => w'.cell? ⟨gl, i * 3, none⟩ = some (.bool bi) ∧ w'.cell? ⟨gl, i * 3 + 1, none⟩ = some (.slice Ai ni ci) ∧ w'.cell? ⟨gl, i * 3 + 2, none⟩ = some (.slice Bi mi di) ∧ w'.cell? ⟨w2.heap.size, 0, none⟩ = some (.bool bu) ∧ w'.cell? ⟨w2.heap.size, 1, none⟩ = some (.slice Au nu cu) ∧ w'.cell? ⟨w2.heap.size, 2, none⟩ = some (.slice Bu mu du) ∧ w'.cell? ⟨w2.heap.size, 3, none⟩ = some (.bool pu) ∧ w'.cell? ⟨w2.heap.size, 4, none⟩ = some (.slice Vu ru ku) ∧ w'.cell? ⟨w2.heap.size, 5, none⟩ = some (.slice Uu ou qu)) (by kernel_rfl) ?_ (fun hHeld => ?_)
          · exact ⟨e0, e1, e2, u0, u1, u2, u3, u4, u5⟩
          refine wpAnyH_take (i := 0) (v := ?_) rfl (by kernel_rfl) (by kernel_rfl) (by kernel_rfl) (fun _ _ _ h => h) (Or.inl ⟨by rfl, ?_⟩) hHeld ?_
          rotate_left
          · (intro w hSw; (try dsimp only at hSw); go_simp; (try with_reducible rfl))
          try simp only [Act.put, pT]
          refine wpAnyH_take (i := 1) (v := ?_) rfl (by kernel_rfl) (by kernel_rfl) (by kernel_rfl) (fun _ _ _ h => h) (Or.inl ⟨by rfl, ?_⟩) hHeld ?_
          rotate_left
          · (intro w hSw; (try dsimp only at hSw); go_simp; (try with_reducible rfl))
          try simp only [Act.put, pT]
          refine wpAnyH_take (i := 2) (v := ?_) rfl (by kernel_rfl) (by kernel_rfl) (by kernel_rfl) (fun _ _ _ h => h) (Or.inl ⟨by rfl, ?_⟩) hHeld ?_
          rotate_left
          · (intro w hSw; (try dsimp only at hSw); go_simp; (try with_reducible rfl))
          try simp only [Act.put, pT]
          refine wpAnyH_take (i := 3) (v := ?_) rfl (by kernel_rfl) (by kernel_rfl) (by kernel_rfl) (fun _ _ _ h => h) (Or.inl ⟨by rfl, ?_⟩) hHeld ?_
          rotate_left
          · (intro w hSw; (try dsimp only at hSw); go_simp; (try with_reducible rfl))
          try simp only [Act.put, pT]
          refine wpAnyH_take (i := 4) (v := ?_) rfl (by kernel_rfl) (by kernel_rfl) (by kernel_rfl) (fun _ _ _ h => h) (Or.inl ⟨by rfl, ?_⟩) hHeld ?_
          rotate_left
          · (intro w hSw; (try dsimp only at hSw); go_simp; (try with_reducible rfl))
          try simp only [Act.put, pT]
          refine wpAnyH_take (i := 5) (v := ?_) rfl (by kernel_rfl) (by kernel_rfl) (by kernel_rfl) (fun _ _ _ h => h) (Or.inl ⟨by rfl, ?_⟩) hHeld ?_
          rotate_left
          · (intro w hSw; (try dsimp only at hSw); go_simp; (try with_reducible rfl))
          try simp only [Act.put, pT]
          refine wpAnyH_ready (rs := [6]) (by kernel_rfl) (by simp) ?_
          refine AllReadyH.cons rfl (fun K hK => ?_) AllReadyH.nil
          (try simp only [pT])
          rw [if_pos (by rfl)]
          go_simp
          go_at_call 39
          refine (rtcmp_v c1_ hr si hlo sl H1.out).mono ?_
          rintro e w51 ⟨rfl, b⟩
          replace hB := hB.trans (b.mono (Nat.le_of_lt ul))
          rewrite [fR b ul] at z0_ z1_ z2_ z3_ z4_ z5_
          rewrite [cR b el] at e0 e1 e2
          replace el := lK b el
          replace hr := hr.on b
          replace hlo := hlo.on b
          replace hhi := hhi.on b
          rewrite [cR b ul] at u0 u1 u2 u3 u4 u5
          replace ul := lK b ul
          replace cc := bK cc b
          clear b
          refine hK.out _ _ ?_ (fun hHeld => ?_)
          · exact ⟨e0, e1, e2, u0, u1, u2, u3, u4, u5⟩
          clear hK K
          try simp only [Act.put, pT]
          refine wpAnyH_take (i := 7) (v := ?_) rfl (by kernel_rfl) (by kernel_rfl) (by kernel_rfl) (fun _ _ _ h => h) (Or.inl ⟨by rfl, ?_⟩) hHeld ?_
          rotate_left
          · (intro w hSw; (try dsimp only at hSw); go_simp; (try with_reducible rfl))
          try simp only [Act.put, pT]
          refine wpAnyH_done (by kernel_rfl) ?_ _
          clear hHeld
          go_wp2_with fail
          have hh_ : Held w51 w2.heap.size := Held.of ⟨u0, u1, u2, u3, u4, u5⟩
          have bx : Box6 (((w51.setCell ⟨w2.heap.size, 0, none⟩ (.bool bi)).setCell ⟨w2.heap.size, 1, none⟩ (.slice Ai ni ci)).setCell ⟨w2.heap.size, 2, none⟩ (.slice Bi mi di)) w2.heap.size bi Ai ni ci Bi mi di pu Vu ru ku Uu ou qu := box6_low (b1 := bi) (A1 := Ai) (n1 := ni) (c1 := ci) (B1 := Bi) (m1 := mi) (d1 := di) ⟨u0, u1, u2, u3, u4, u5⟩
          have fx : Free6 (((w51.setCell ⟨w2.heap.size, 0, none⟩ (.bool bi)).setCell ⟨w2.heap.size, 1, none⟩ (.slice Ai ni ci)).setCell ⟨w2.heap.size, 2, none⟩ (.slice Bi mi di)) w2.heap.size := free6_set (free6_set (free6_set ⟨z0_, z1_, z2_, z3_, z4_, z5_⟩))
          replace hr : Rt (((w51.setCell ⟨w2.heap.size, 0, none⟩ (.bool bi)).setCell ⟨w2.heap.size, 1, none⟩ (.slice Ai ni ci)).setCell ⟨w2.heap.size, 2, none⟩ (.slice Bi mi di)) bi Ai ni ci Bi mi di xi := rt_low hr hh_
          replace hlo : Rt (((w51.setCell ⟨w2.heap.size, 0, none⟩ (.bool bi)).setCell ⟨w2.heap.size, 1, none⟩ (.slice Ai ni ci)).setCell ⟨w2.heap.size, 2, none⟩ (.slice Bi mi di)) bu Au nu cu Bu mu du lo := rt_low hlo hh_
          replace hhi : Rt (((w51.setCell ⟨w2.heap.size, 0, none⟩ (.bool bi)).setCell ⟨w2.heap.size, 1, none⟩ (.slice Ai ni ci)).setCell ⟨w2.heap.size, 2, none⟩ (.slice Bi mi di)) pu Vu ru ku Uu ou qu hi_ := rt_low hhi hh_
          replace e0 : (((w51.setCell ⟨w2.heap.size, 0, none⟩ (.bool bi)).setCell ⟨w2.heap.size, 1, none⟩ (.slice Ai ni ci)).setCell ⟨w2.heap.size, 2, none⟩ (.slice Bi mi di)).cell? ⟨gl, i * 3, none⟩ = some (.bool bi) := (cell_putR (u := .bool bi) (v := .slice Ai ni ci) (x := .slice Bi mi di) hne).trans e0
          replace e1 : (((w51.setCell ⟨w2.heap.size, 0, none⟩ (.bool bi)).setCell ⟨w2.heap.size, 1, none⟩ (.slice Ai ni ci)).setCell ⟨w2.heap.size, 2, none⟩ (.slice Bi mi di)).cell? ⟨gl, i * 3 + 1, none⟩ = some (.slice Ai ni ci) := (cell_putR (u := .bool bi) (v := .slice Ai ni ci) (x := .slice Bi mi di) hne).trans e1
          replace e2 : (((w51.setCell ⟨w2.heap.size, 0, none⟩ (.bool bi)).setCell ⟨w2.heap.size, 1, none⟩ (.slice Ai ni ci)).setCell ⟨w2.heap.size, 2, none⟩ (.slice Bi mi di)).cell? ⟨gl, i * 3 + 2, none⟩ = some (.slice Bi mi di) := (cell_putR (u := .bool bi) (v := .slice Ai ni ci) (x := .slice Bi mi di) hne).trans e2
          replace hB : Below w2.heap.size v3 (((w51.setCell ⟨w2.heap.size, 0, none⟩ (.bool bi)).setCell ⟨w2.heap.size, 1, none⟩ (.slice Ai ni ci)).setCell ⟨w2.heap.size, 2, none⟩ (.slice Bi mi di)) := below_putR hB (Nat.le_refl _) (.bool bi) (.slice Ai ni ci) (.slice Bi mi di)
          replace cc : Below w.heap.size w (((w51.setCell ⟨w2.heap.size, 0, none⟩ (.bool bi)).setCell ⟨w2.heap.size, 1, none⟩ (.slice Ai ni ci)).setCell ⟨w2.heap.size, 2, none⟩ (.slice Bi mi di)) := below_putR cc (Nat.le_of_lt gq) (.bool bi) (.slice Ai ni ci) (.slice Bi mi di)
          have es : (((w51.setCell ⟨w2.heap.size, 0, none⟩ (.bool bi)).setCell ⟨w2.heap.size, 1, none⟩ (.slice Ai ni ci)).setCell ⟨w2.heap.size, 2, none⟩ (.slice Bi mi di)).heap.size = w51.heap.size := by simp
          rw [← es] at el ul
          clear u0 u1 u2 u3 u4 u5 z0_ z1_ z2_ z3_ z4_ z5_ hh_ es
          generalize ((w51.setCell ⟨w2.heap.size, 0, none⟩ (.bool bi)).setCell ⟨w2.heap.size, 1, none⟩ (.slice Ai ni ci)).setCell ⟨w2.heap.size, 2, none⟩ (.slice Bi mi di) = wp at *
          obtain ⟨u0, u1, u2, u3, u4, u5⟩ := bx
          obtain ⟨z0_, z1_, z2_, z3_, z4_, z5_⟩ := fx
          have bD : Below wp.heap.size wp wp.drew := below_drewN (Below.refl _ wp) 1
          replace hB := hB.trans (bD.mono (Nat.le_of_lt ul))
          rewrite [fR bD ul] at z0_ z1_ z2_ z3_ z4_ z5_
          rewrite [cR bD el] at e0 e1 e2
          replace el := lK bD el
          replace hr := hr.on bD
          replace hlo := hlo.on bD
          replace hhi := hhi.on bD
          rewrite [cR bD ul] at u0 u1 u2 u3 u4 u5
          replace ul := lK bD ul
          replace cc := bK cc bD
          clear bD
          refine wp_region_held_drew (S := fun w' => w'.cell? ⟨gl, i * 3, none⟩ = some (.bool bi) ∧ w'.cell? ⟨gl, i * 3 + 1, none⟩ = some (.slice Ai ni ci) ∧ w'.cell? ⟨gl, i * 3 + 2, none⟩ = some (.slice Bi mi di) ∧ w'.cell? ⟨w2.heap.size, 0, none⟩ = some (.bool bi) ∧ w'.cell? ⟨w2.heap.size, 1, none⟩ = some (.slice Ai ni ci) ∧ w'.cell? ⟨w2.heap.size, 2, none⟩ = some (.slice Bi mi di) ∧ w'.cell? ⟨w2.heap.size, 3, none⟩ = some (.bool pu) ∧ w'.cell? ⟨w2.heap.size, 4, none⟩ = some (.slice Vu ru ku) ∧ w'.cell? ⟨w2.heap.size, 5, none⟩ = some (.slice Uu ou qu)) (by kernel_rfl) ?_ (fun hHeld => ?_)
          · exact ⟨e0, e1, e2, u0, u1, u2, u3, u4, u5⟩
          refine wpAnyH_take (i := 0) (v := ?_) rfl (by kernel_rfl) (by kernel_rfl) (by kernel_rfl) (fun _ _ _ h => h) (Or.inl ⟨by rfl, ?_⟩) hHeld ?_
          rotate_left
          · (intro w hSw; (try dsimp only at hSw); go_simp; (try with_reducible rfl))
          try simp only [Act.put, pT]
          refine wpAnyH_take (i := 1) (v := ?_) rfl (by kernel_rfl) (by kernel_rfl) (by kernel_rfl) (fun _ _ _ h => h) (Or.inl ⟨by rfl, ?_⟩) hHeld ?_
          rotate_left
          · (intro w hSw; (try dsimp only at hSw); go_simp; (try with_reducible rfl))
          try simp only [Act.put, pT]
          refine wpAnyH_take (i := 2) (v := ?_) rfl (by kernel_rfl) (by kernel_rfl) (by kernel_rfl) (fun _ _ _ h => h) (Or.inl ⟨by rfl, ?_⟩) hHeld ?_
          rotate_left
          · (intro w hSw; (try dsimp only at hSw); go_simp; (try with_reducible rfl))
          try simp only [Act.put, pT]
          refine wpAnyH_take (i := 3) (v := ?_) rfl (by kernel_rfl) (by kernel_rfl) (by kernel_rfl) (fun _ _ _ h => h) (Or.inl ⟨by rfl, ?_⟩) hHeld ?_
          rotate_left
          · (intro w hSw; (try dsimp only at hSw); go_simp; (try with_reducible rfl))
          try simp only [Act.put, pT]
          refine wpAnyH_take (i := 4) (v := ?_) rfl (by kernel_rfl) (by kernel_rfl) (by kernel_rfl) (fun _ _ _ h => h) (Or.inl ⟨by rfl, ?_⟩) hHeld ?_
          rotate_left
          · (intro w hSw; (try dsimp only at hSw); go_simp; (try with_reducible rfl))
          try simp only [Act.put, pT]
          refine wpAnyH_take (i := 5) (v := ?_) rfl (by kernel_rfl) (by kernel_rfl) (by kernel_rfl) (fun _ _ _ h => h) (Or.inl ⟨by rfl, ?_⟩) hHeld ?_
          rotate_left
          · (intro w hSw; (try dsimp only at hSw); go_simp; (try with_reducible rfl))
          try simp only [Act.put, pT]
          refine wpAnyH_ready (rs := [6]) (by kernel_rfl) (by simp) ?_
          refine AllReadyH.cons rfl (fun K hK => ?_) AllReadyH.nil
          (try simp only [pT])
          rw [if_pos (by rfl)]
          go_simp
          go_at_call 39
          refine (rtcmp_v c2_ hr si hhi sh H2.out).mono ?_
          rintro e w52 ⟨rfl, b⟩
          replace hB := hB.trans (b.mono (Nat.le_of_lt ul))
          rewrite [fR b ul] at z0_ z1_ z2_ z3_ z4_ z5_
          rewrite [cR b el] at e0 e1 e2
          replace el := lK b el
          replace hr := hr.on b
          replace hlo := hlo.on b
          replace hhi := hhi.on b
          rewrite [cR b ul] at u0 u1 u2 u3 u4 u5
          replace ul := lK b ul
          replace cc := bK cc b
          clear b
          refine hK.out _ _ ?_ (fun hHeld => ?_)
          · exact ⟨e0, e1, e2, u0, u1, u2, u3, u4, u5⟩
          clear hK K
          try simp only [Act.put, pT]
          refine wpAnyH_take (i := 7) (v := ?_) rfl (by kernel_rfl) (by kernel_rfl) (by kernel_rfl) (fun _ _ _ h => h) (Or.inl ⟨by rfl, ?_⟩) hHeld ?_
          rotate_left
          · (intro w hSw; (try dsimp only at hSw); go_simp; (try with_reducible rfl))
          try simp only [Act.put, pT]
          refine wpAnyH_done (by kernel_rfl) ?_ _
          clear hHeld
          have hh_ : Held w52 w2.heap.size := Held.of ⟨u0, u1, u2, u3, u4, u5⟩
          have BX := Lib.hid (box6_high (b1 := bi) (A1 := Ai) (n1 := ni) (c1 := ci) (B1 := Bi) (m1 := mi) (d1 := di) ⟨u0, u1, u2, u3, u4, u5⟩)
          have FX : Hid (Free6 (putH w52 w2.heap.size (.bool bi) (.slice Ai ni ci) (.slice Bi mi di)) w2.heap.size) := Lib.hid (free6_set (free6_set (free6_set ⟨z0_, z1_, z2_, z3_, z4_, z5_⟩)))
          have RL : Hid (Rt (putH w52 w2.heap.size (.bool bi) (.slice Ai ni ci) (.slice Bi mi di)) bi Ai ni ci Bi mi di xi) := Lib.hid (rt_high hr hh_)
          have RH : Hid (Rt (putH w52 w2.heap.size (.bool bi) (.slice Ai ni ci) (.slice Bi mi di)) bi Ai ni ci Bi mi di xi) := Lib.hid (rt_high hr hh_)
          have HBX := Lib.hid (below_putH hB (Nat.le_refl _) (.bool bi) (.slice Ai ni ci) (.slice Bi mi di))
          clear hh_ hr hlo hhi
          go_wp2_with fail
          go_roundw
          case rel => exact ⟨_, i + 1, bi, Ai, ni, ci, Bi, mi, di, bi, Ai, ni, ci, Bi, mi, di, rfl, by go_num, HI.out, BX.out, FX.out, by rw [DL2.out]; exact RL.out, by rw [DH2.out]; exact RH.out, HBX.out⟩
          case measure => have := HI.out; simp [intOf]; omega
        · skip
          have t1 : decide (c1_ < 0) = true := decide_eq_true q1
          have t2 : decide (0 < c2_) = false := decide_eq_false q2
          have DL2 : Hid (lowR X (i + 1) = xi) := Lib.hid (by rw [DL.out, if_pos (cmpQ_neg.1 (by rw [H1.out]; exact q1))])
          have DH2 : Hid (highR X (i + 1) = hi_) := Lib.hid (by rw [DH.out, if_neg (fun h => q2 (by rw [← H2.out]; exact cmpQ_pos.2 h))])
          clear q1 q2 DL DH
          replace cc := ccv
          clear ccv
          go_wp2_with fail
          have bD : Below wv.heap.size wv wv.drew := below_drewN (Below.refl _ wv) 1
          replace hB := hB.trans (bD.mono (Nat.le_of_lt ul))
          rewrite [fR bD ul] at z0_ z1_ z2_ z3_ z4_ z5_
          rewrite [cR bD el] at e0 e1 e2
          replace el := lK bD el
          replace hr := hr.on bD
          replace hlo := hlo.on bD
          replace hhi := hhi.on bD
          rewrite [cR bD ul] at u0 u1 u2 u3 u4 u5
          replace ul := lK bD ul
          replace cc := bK cc bD
          clear bD
          refine wp_region_held_drew (S := fun w' => w'.cell? ⟨gl, i * 3, none⟩ = some (.bool bi) ∧ w'.cell? ⟨gl, i * 3 + 1, none⟩ = some (.slice Ai ni ci) ∧ w'.cell? ⟨gl, i * 3 + 2, none⟩ = some (.slice Bi mi di) ∧ w'.cell? ⟨w2.heap.size, 0, none⟩ = some (.bool bu) ∧ w'.cell? ⟨w2.heap.size, 1, none⟩ = some (.slice Au nu cu) ∧ w'.cell? ⟨w2.heap.size, 2, none⟩ = some (.slice Bu mu du) ∧ w'.cell? ⟨w2.heap.size, 3, none⟩ = some (.bool pu) ∧ w'.cell? ⟨w2.heap.size, 4, none⟩ = some (.slice Vu ru ku) ∧ w'.cell? ⟨w2.heap.size, 5, none⟩ = some (.slice Uu ou qu)) (by kernel_rfl) ?_ (fun hHeld => ?_)
          · exact ⟨e0, e1, e2, u0, u1, u2, u3, u4, u5⟩
          refine wpAnyH_take (i := 0) (v := ?_) rfl (by kernel_rfl) (by kernel_rfl) (by kernel_rfl) (fun _ _ _ h => h) (Or.inl ⟨by rfl, ?_⟩) hHeld ?_
          rotate_left
          · (intro w hSw; (try dsimp only at hSw); go_simp; (try with_reducible rfl))
          try simp only [Act.put, pT]
          refine wpAnyH_take (i := 1) (v := ?_) rfl (by kernel_rfl) (by kernel_rfl) (by kernel_rfl) (fun _ _ _ h => h) (Or.inl ⟨by rfl, ?_⟩) hHeld ?_
          rotate_left
          · (intro w hSw; (try dsimp only at hSw); go_simp; (try with_reducible rfl))
          try simp only [Act.put, pT]
          refine wpAnyH_take (i := 2) (v := ?_) rfl (by kernel_rfl) (by kernel_rfl) (by kernel_rfl) (fun _ _ _ h => h) (Or.inl ⟨by rfl, ?_⟩) hHeld ?_
          rotate_left
          · (intro w hSw; (try dsimp only at hSw); go_simp; (try with_reducible rfl))
          try simp only [Act.put, pT]
          refine wpAnyH_take (i := 3) (v := ?_) rfl (by kernel_rfl) (by kernel_rfl) (by kernel_rfl) (fun _ _ _ h => h) (Or.inl ⟨by rfl, ?_⟩) hHeld ?_
          rotate_left
          · (intro w hSw; (try dsimp only at hSw); go_simp; (try with_reducible rfl))
          try simp only [Act.put, pT]
          refine wpAnyH_take (i := 4) (v := ?_) rfl (by kernel_rfl) (by kernel_rfl) (by kernel_rfl) (fun _ _ _ h => h) (Or.inl ⟨by rfl, ?_⟩) hHeld ?_
          rotate_left
          · (intro w hSw; (try dsimp only at hSw); go_simp; (try with_reducible rfl))
          try simp only [Act.put, pT]
          refine wpAnyH_take (i := 5) (v := ?_) rfl (by kernel_rfl) (by kernel_rfl) (by kernel_rfl) (fun _ _ _ h => h) (Or.inl ⟨by rfl, ?_⟩) hHeld ?_
          rotate_left
          · (intro w hSw; (try dsimp only at hSw); go_simp; (try with_reducible rfl))
          try simp only [Act.put, pT]
          refine wpAnyH_ready (rs := [6]) (by kernel_rfl) (by simp) ?_
          refine AllReadyH.cons rfl (fun K hK => ?_) AllReadyH.nil
          (try simp only [pT])
          rw [if_pos (by rfl)]
          go_simp
          go_at_call 39
          refine (rtcmp_v c1_ hr si hlo sl H1.out).mono ?_
          rintro e w51 ⟨rfl, b⟩
          replace hB := hB.trans (b.mono (Nat.le_of_lt ul))
          rewrite [fR b ul] at z0_ z1_ z2_ z3_ z4_ z5_
          rewrite [cR b el] at e0 e1 e2
          replace el := lK b el
          replace hr := hr.on b
          replace hlo := hlo.on b
          replace hhi := hhi.on b
          rewrite [cR b ul] at u0 u1 u2 u3 u4 u5
          replace ul := lK b ul
          replace cc := bK cc b
          clear b
          refine hK.out _ _ ?_ (fun hHeld => ?_)
          · exact ⟨e0, e1, e2, u0, u1, u2, u3, u4, u5⟩
          clear hK K
          try simp only [Act.put, pT]
          refine wpAnyH_take (i := 7) (v := ?_) rfl (by kernel_rfl) (by kernel_rfl) (by kernel_rfl) (fun _ _ _ h => h) (Or.inl ⟨by rfl, ?_⟩) hHeld ?_
          rotate_left
          · (intro w hSw; (try dsimp only at hSw); go_simp; (try with_reducible rfl))
          try simp only [Act.put, pT]
          refine wpAnyH_done (by kernel_rfl) ?_ _
          clear hHeld
          go_wp2_with fail
          have hh_ : Held w51 w2.heap.size := Held.of ⟨u0, u1, u2, u3, u4, u5⟩
          have bx : Box6 (((w51.setCell ⟨w2.heap.size, 0, none⟩ (.bool bi)).setCell ⟨w2.heap.size, 1, none⟩ (.slice Ai ni ci)).setCell ⟨w2.heap.size, 2, none⟩ (.slice Bi mi di)) w2.heap.size bi Ai ni ci Bi mi di pu Vu ru ku Uu ou qu := box6_low (b1 := bi) (A1 := Ai) (n1 := ni) (c1 := ci) (B1 := Bi) (m1 := mi) (d1 := di) ⟨u0, u1, u2, u3, u4, u5⟩
          have fx : Free6 (((w51.setCell ⟨w2.heap.size, 0, none⟩ (.bool bi)).setCell ⟨w2.heap.size, 1, none⟩ (.slice Ai ni ci)).setCell ⟨w2.heap.size, 2, none⟩ (.slice Bi mi di)) w2.heap.size := free6_set (free6_set (free6_set ⟨z0_, z1_, z2_, z3_, z4_, z5_⟩))
          replace hr : Rt (((w51.setCell ⟨w2.heap.size, 0, none⟩ (.bool bi)).setCell ⟨w2.heap.size, 1, none⟩ (.slice Ai ni ci)).setCell ⟨w2.heap.size, 2, none⟩ (.slice Bi mi di)) bi Ai ni ci Bi mi di xi := rt_low hr hh_
          replace hlo : Rt (((w51.setCell ⟨w2.heap.size, 0, none⟩ (.bool bi)).setCell ⟨w2.heap.size, 1, none⟩ (.slice Ai ni ci)).setCell ⟨w2.heap.size, 2, none⟩ (.slice Bi mi di)) bu Au nu cu Bu mu du lo := rt_low hlo hh_
          replace hhi : Rt (((w51.setCell ⟨w2.heap.size, 0, none⟩ (.bool bi)).setCell ⟨w2.heap.size, 1, none⟩ (.slice Ai ni ci)).setCell ⟨w2.heap.size, 2, none⟩ (.slice Bi mi di)) pu Vu ru ku Uu ou qu hi_ := rt_low hhi hh_
          replace e0 : (((w51.setCell ⟨w2.heap.size, 0, none⟩ (.bool bi)).setCell ⟨w2.heap.size, 1, none⟩ (.slice Ai ni ci)).setCell ⟨w2.heap.size, 2, none⟩ (.slice Bi mi di)).cell? ⟨gl, i * 3, none⟩ = some (.bool bi) := (cell_putR (u := .bool bi) (v := .slice Ai ni ci) (x := .slice Bi mi di) hne).trans e0
          replace e1 : (((w51.setCell ⟨w2.heap.size, 0, none⟩ (.bool bi)).setCell ⟨w2.heap.size, 1, none⟩ (.slice Ai ni ci)).setCell ⟨w2.heap.size, 2, none⟩ (.slice Bi mi di)).cell? ⟨gl, i * 3 + 1, none⟩ = some (.slice Ai ni ci) := (cell_putR (u := .bool bi) (v := .slice Ai ni ci) (x := .slice Bi mi di) hne).trans e1
          replace e2 : (((w51.setCell ⟨w2.heap.size, 0, none⟩ (.bool bi)).setCell ⟨w2.heap.size, 1, none⟩ (.slice Ai ni ci)).setCell ⟨w2.heap.size, 2, none⟩ (.slice Bi mi di)).cell? ⟨gl, i * 3 + 2, none⟩ = some (.slice Bi mi di) := (cell_putR (u := .bool bi) (v := .slice Ai ni ci) (x := .slice Bi mi di) hne).trans e2
          replace hB : Below w2.heap.size v3 (((w51.setCell ⟨w2.heap.size, 0, none⟩ (.bool bi)).setCell ⟨w2.heap.size, 1, none⟩ (.slice Ai ni ci)).setCell ⟨w2.heap.size, 2, none⟩ (.slice Bi mi di)) := below_putR hB (Nat.le_refl _) (.bool bi) (.slice Ai ni ci) (.slice Bi mi di)
          replace cc : Below w.heap.size w (((w51.setCell ⟨w2.heap.size, 0, none⟩ (.bool bi)).setCell ⟨w2.heap.size, 1, none⟩ (.slice Ai ni ci)).setCell ⟨w2.heap.size, 2, none⟩ (.slice Bi mi di)) := below_putR cc (Nat.le_of_lt gq) (.bool bi) (.slice Ai ni ci) (.slice Bi mi di)
          have es : (((w51.setCell ⟨w2.heap.size, 0, none⟩ (.bool bi)).setCell ⟨w2.heap.size, 1, none⟩ (.slice Ai ni ci)).setCell ⟨w2.heap.size, 2, none⟩ (.slice Bi mi di)).heap.size = w51.heap.size := by simp
          rw [← es] at el ul
          clear u0 u1 u2 u3 u4 u5 z0_ z1_ z2_ z3_ z4_ z5_ hh_ es
          generalize ((w51.setCell ⟨w2.heap.size, 0, none⟩ (.bool bi)).setCell ⟨w2.heap.size, 1, none⟩ (.slice Ai ni ci)).setCell ⟨w2.heap.size, 2, none⟩ (.slice Bi mi di) = wp at *
          obtain ⟨u0, u1, u2, u3, u4, u5⟩ := bx
          obtain ⟨z0_, z1_, z2_, z3_, z4_, z5_⟩ := fx
          have bD : Below wp.heap.size wp wp.drew := below_drewN (Below.refl _ wp) 1
          replace hB := hB.trans (bD.mono (Nat.le_of_lt ul))
          rewrite [fR bD ul] at z0_ z1_ z2_ z3_ z4_ z5_
          rewrite [cR bD el] at e0 e1 e2
          replace el := lK bD el
          replace hr := hr.on bD
          replace hlo := hlo.on bD
          replace hhi := hhi.on bD
          rewrite [cR bD ul] at u0 u1 u2 u3 u4 u5
          replace ul := lK bD ul
          replace cc := bK cc bD
          clear bD
          refine wp_region_held_drew (S := fun w' => w'.cell? ⟨gl, i * 3, none⟩ = some (.bool bi) ∧ w'.cell? ⟨gl, i * 3 + 1, none⟩ = some (.slice Ai ni ci) ∧ w'.cell? ⟨gl, i * 3 + 2, none⟩ = some (.slice Bi mi di) ∧ w'.cell? ⟨w2.heap.size, 0, none⟩ = some (.bool bi) ∧ w'.cell? ⟨w2.heap.size, 1, none⟩ = some (.slice Ai ni ci) ∧ w'.cell? ⟨w2.heap.size, 2, none⟩ = some (.slice Bi mi di) ∧ w'.cell? ⟨w2.heap.size, 3, none⟩ = some (.bool pu) ∧ w'.cell? ⟨w2.heap.size, 4, none⟩ = some (.slice Vu ru ku) ∧ w'.cell? ⟨w2.heap.size, 5, none⟩ = some (.slice Uu ou qu)) (by kernel_rfl) ?_ (fun hHeld => ?_)
          · exact ⟨e0, e1, e2, u0, u1, u2, u3, u4, u5⟩
          refine wpAnyH_take (i := 0) (v := ?_) rfl (by kernel_rfl) (by kernel_rfl) (by kernel_rfl) (fun _ _ _ h => h) (Or.inl ⟨by rfl, ?_⟩) hHeld ?_
          rotate_left
          · (intro w hSw; (try dsimp only at hSw); go_simp; (try with_reducible rfl))
          try simp only [Act.put, pT]
          refine wpAnyH_take (i := 1) (v := ?_) rfl (by kernel_rfl) (by kernel_rfl) (by kernel_rfl) (fun _ _ _ h => h) (Or.inl ⟨by rfl, ?_⟩) hHeld ?_
          rotate_left
          · (intro w hSw; (try dsimp only at hSw); go_simp; (try with_reducible rfl))
          try simp only [Act.put, pT]
          refine wpAnyH_take (i := 2) (v := ?_) rfl (by kernel_rfl) (by kernel_rfl) (by kernel_rfl) (fun _ _ _ h => h) (Or.inl ⟨by rfl, ?_⟩) hHeld ?_
          rotate_left
          · (intro w hSw; (try dsimp only at hSw); go_simp; (try with_reducible rfl))
          try simp only [Act.put, pT]
          refine wpAnyH_take (i := 3) (v := ?_) rfl (by kernel_rfl) (by kernel_rfl) (by kernel_rfl) (fun _ _ _ h => h) (Or.inl ⟨by rfl, ?_⟩) hHeld ?_
          rotate_left
          · (intro w hSw; (try dsimp only at hSw); go_simp; (try with_reducible rfl))
          try simp only [Act.put, pT]
          refine wpAnyH_take (i := 4) (v := ?_) rfl (by kernel_rfl) (by kernel_rfl) (by kernel_rfl) (fun _ _ _ h => h) (Or.inl ⟨by rfl, ?_⟩) hHeld ?_
          rotate_left
          · (intro w hSw; (try dsimp only at hSw); go_simp; (try with_reducible rfl))
          try simp only [Act.put, pT]
          refine wpAnyH_take (i := 5) (v := ?_) rfl (by kernel_rfl) (by kernel_rfl) (by kernel_rfl) (fun _ _ _ h => h) (Or.inl ⟨by rfl, ?_⟩) hHeld ?_
          rotate_left
          · (intro w hSw; (try dsimp only at hSw); go_simp; (try with_reducible rfl))
          try simp only [Act.put, pT]
          refine wpAnyH_ready (rs := [6]) (by kernel_rfl) (by simp) ?_
          refine AllReadyH.cons rfl (fun K hK => ?_) AllReadyH.nil
          (try simp only [pT])
          rw [if_pos (by rfl)]
          go_simp
          go_at_call 39
          refine (rtcmp_v c2_ hr si hhi sh H2.out).mono ?_
          rintro e w52 ⟨rfl, b⟩
          replace hB := hB.trans (b.mono (Nat.le_of_lt ul))
          rewrite [fR b ul] at z0_ z1_ z2_ z3_ z4_ z5_
          rewrite [cR b el] at e0 e1 e2
          replace el := lK b el
          replace hr := hr.on b
          replace hlo := hlo.on b
          replace hhi := hhi.on b
          rewrite [cR b ul] at u0 u1 u2 u3 u4 u5
          replace ul := lK b ul
          replace cc := bK cc b
          clear b
          refine hK.out _ _ ?_ (fun hHeld => ?_)
          · exact ⟨e0, e1, e2, u0, u1, u2, u3, u4, u5⟩
          clear hK K
          try simp only [Act.put, pT]
          refine wpAnyH_take (i := 7) (v := ?_) rfl (by kernel_rfl) (by kernel_rfl) (by kernel_rfl) (fun _ _ _ h => h) (Or.inl ⟨by rfl, ?_⟩) hHeld ?_
          rotate_left
          · (intro w hSw; (try dsimp only at hSw); go_simp; (try with_reducible rfl))
          try simp only [Act.put, pT]
          refine wpAnyH_done (by kernel_rfl) ?_ _
          clear hHeld
          have BX := Lib.hid (show Box6 w52 w2.heap.size bi Ai ni ci Bi mi di pu Vu ru ku Uu ou qu from ⟨u0, u1, u2, u3, u4, u5⟩)
          have FX := Lib.hid (show Free6 w52 w2.heap.size from ⟨z0_, z1_, z2_, z3_, z4_, z5_⟩)
          have RL := Lib.hid hr
          have RH := Lib.hid hhi
          have HBX := Lib.hid hB
          go_wp2_with fail
          go_roundw
          case rel => exact ⟨_, i + 1, bi, Ai, ni, ci, Bi, mi, di, pu, Vu, ru, ku, Uu, ou, qu, rfl, by go_num, HI.out, BX.out, FX.out, by rw [DL2.out]; exact RL.out, by rw [DH2.out]; exact RH.out, HBX.out⟩
          case measure => have := HI.out; simp [intOf]; omega
      · by_cases q2 : 0 < c2_
        · skip
          have t1 : decide (c1_ < 0) = false := decide_eq_false q1
          have t2 : decide (0 < c2_) = true := decide_eq_true q2
          have DL2 : Hid (lowR X (i + 1) = lo) := Lib.hid (by rw [DL.out, if_neg (fun h => q1 (by rw [← H1.out]; exact cmpQ_neg.2 h))])
          have DH2 : Hid (highR X (i + 1) = xi) := Lib.hid (by rw [DH.out, if_pos (cmpQ_pos.1 (by rw [H2.out]; exact q2))])
          clear q1 q2 DL DH
          replace cc := ccv
          clear ccv
          go_wp2_with fail
          have bD : Below wv.heap.size wv wv.drew := below_drewN (Below.refl _ wv) 1
          replace hB := hB.trans (bD.mono (Nat.le_of_lt ul))
          rewrite [fR bD ul] at z0_ z1_ z2_ z3_ z4_ z5_
          rewrite [cR bD el] at e0 e1 e2
          replace el := lK bD el
          replace hr := hr.on bD
          replace hlo := hlo.on bD
          replace hhi := hhi.on bD
          rewrite [cR bD ul] at u0 u1 u2 u3 u4 u5
          replace ul := lK bD ul
          replace cc := bK cc bD
          clear bD
          refine wp_region_held_drew (S := fun w' => w'.cell? ⟨gl, i * 3, none⟩ = some (.bool bi) ∧ w'.cell? ⟨gl, i * 3 + 1, none⟩ = some (.slice Ai ni ci) ∧ w'.cell? ⟨gl, i * 3 + 2, none⟩ = some (.slice Bi mi di) ∧ w'.cell? ⟨w2.heap.size, 0, none⟩ = some (.bool bu) ∧ w'.cell? ⟨w2.heap.size, 1, none⟩ = some (.slice Au nu cu) ∧ w'.cell? ⟨w2.heap.size, 2, none⟩ = some (.slice Bu mu du) ∧ w'.cell? ⟨w2.heap.size, 3, none⟩ = some (.bool pu) ∧ w'.cell? ⟨w2.heap.size, 4, none⟩ = some (.slice Vu ru ku) ∧ w'.cell? ⟨w2.heap.size, 5, none⟩ = some (.slice Uu ou qu)) (by kernel_rfl) ?_ (fun hHeld => ?_)
          · exact ⟨e0, e1, e2, u0, u1, u2, u3, u4, u5⟩
          refine wpAnyH_take (i := 0) (v := ?_) rfl (by kernel_rfl) (by kernel_rfl) (by kernel_rfl) (fun _ _ _ h => h) (Or.inl ⟨by rfl, ?_⟩) hHeld ?_
          rotate_left
          · (intro w hSw; (try dsimp only at hSw); go_simp; (try with_reducible rfl))
          try simp only [Act.put, pT]
          refine wpAnyH_take (i := 1) (v := ?_) rfl (by kernel_rfl) (by kernel_rfl) (by kernel_rfl) (fun _ _ _ h => h) (Or.inl ⟨by rfl, ?_⟩) hHeld ?_
          rotate_left
          · (intro w hSw; (try dsimp only at hSw); go_simp; (try with_reducible rfl))
          try simp only [Act.put, pT]
          refine wpAnyH_take (i := 2) (v := ?_) rfl (by kernel_rfl) (by kernel_rfl) (by kernel_rfl) (fun _ _ _ h => h) (Or.inl ⟨by rfl, ?_⟩) hHeld ?_
          rotate_left
          · (intro w hSw; (try dsimp only at hSw); go_simp; (try with_reducible rfl))
          try simp only [Act.put, pT]
          refine wpAnyH_take (i := 3) (v := ?_) rfl (by kernel_rfl) (by kernel_rfl) (by kernel_rfl) (fun _ _ _ h => h) (Or.inl ⟨by rfl, ?_⟩) hHeld ?_
          rotate_left
          · (intro w hSw; (try dsimp only at hSw); go_simp; (try with_reducible rfl))
          try simp only [Act.put, pT]
          refine wpAnyH_take (i := 4) (v := ?_) rfl (by kernel_rfl) (by kernel_rfl) (by kernel_rfl) (fun _ _ _ h => h) (Or.inl ⟨by rfl, ?_⟩) hHeld ?_
          rotate_left
          · (intro w hSw; (try dsimp only at hSw); go_simp; (try with_reducible rfl))
          try simp only [Act.put, pT]
          refine wpAnyH_take (i := 5) (v := ?_) rfl (by kernel_rfl) (by kernel_rfl) (by kernel_rfl) (fun _ _ _ h => h) (Or.inl ⟨by rfl, ?_⟩) hHeld ?_
          rotate_left
          · (intro w hSw; (try dsimp only at hSw); go_simp; (try with_reducible rfl))
          try simp only [Act.put, pT]
          refine wpAnyH_ready (rs := [6]) (by kernel_rfl) (by simp) ?_
          refine AllReadyH.cons rfl (fun K hK => ?_) AllReadyH.nil
          (try simp only [pT])
          rw [if_pos (by rfl)]
          go_simp
          go_at_call 39
          refine (rtcmp_v c1_ hr si hlo sl H1.out).mono ?_
          rintro e w51 ⟨rfl, b⟩
          replace hB := hB.trans (b.mono (Nat.le_of_lt ul))
          rewrite [fR b ul] at z0_ z1_ z2_ z3_ z4_ z5_
          rewrite [cR b el] at e0 e1 e2
          replace el := lK b el
          replace hr := hr.on b
          replace hlo := hlo.on b
          replace hhi := hhi.on b
          rewrite [cR b ul] at u0 u1 u2 u3 u4 u5
          replace ul := lK b ul
          replace cc := bK cc b
          clear b
          refine hK.out _ _ ?_ (fun hHeld => ?_)
          · exact ⟨e0, e1, e2, u0, u1, u2, u3, u4, u5⟩
          clear hK K
          try simp only [Act.put, pT]
          refine wpAnyH_take (i := 7) (v := ?_) rfl (by kernel_rfl) (by kernel_rfl) (by kernel_rfl) (fun _ _ _ h => h) (Or.inl ⟨by rfl, ?_⟩) hHeld ?_
          rotate_left
          · (intro w hSw; (try dsimp only at hSw); go_simp; (try with_reducible rfl))
          try simp only [Act.put, pT]
          refine wpAnyH_done (by kernel_rfl) ?_ _
          clear hHeld
          go_wp2_with fail
          have bD : Below w51.heap.size w51 w51.drew := below_drewN (Below.refl _ w51) 1
          replace hB := hB.trans (bD.mono (Nat.le_of_lt ul))
          rewrite [fR bD ul] at z0_ z1_ z2_ z3_ z4_ z5_
          rewrite [cR bD el] at e0 e1 e2
          replace el := lK bD el
          replace hr := hr.on bD
          replace hlo := hlo.on bD
          replace hhi := hhi.on bD
          rewrite [cR bD ul] at u0 u1 u2 u3 u4 u5
          replace ul := lK bD ul
          replace cc := bK cc bD
          clear bD
          refine wp_region_held_drew (S := fun w' => w'.cell? ⟨gl, i * 3, none⟩ = some (.bool bi) ∧ w'.cell? ⟨gl, i * 3 + 1, none⟩ = some (.slice Ai ni ci) ∧ w'.cell? ⟨gl, i * 3 + 2, none⟩ = some (.slice Bi mi di) ∧ w'.cell? ⟨w2.heap.size, 0, none⟩ = some (.bool bu) ∧ w'.cell? ⟨w2.heap.size, 1, none⟩ = some (.slice Au nu cu) ∧ w'.cell? ⟨w2.heap.size, 2, none⟩ = some (.slice Bu mu du) ∧ w'.cell? ⟨w2.heap.size, 3, none⟩ = some (.bool pu) ∧ w'.cell? ⟨w2.heap.size, 4, none⟩ = some (.slice Vu ru ku) ∧ w'.cell? ⟨w2.heap.size, 5, none⟩ = some (.slice Uu ou qu)) (by kernel_rfl) ?_ (fun hHeld => ?_)
          · exact ⟨e0, e1, e2, u0, u1, u2, u3, u4, u5⟩
          refine wpAnyH_take (i := 0) (v := ?_) rfl (by kernel_rfl) (by kernel_rfl) (by kernel_rfl) (fun _ _ _ h => h) (Or.inl ⟨by rfl, ?_⟩) hHeld ?_
          rotate_left
          · (intro w hSw; (try dsimp only at hSw); go_simp; (try with_reducible rfl))
          try simp only [Act.put, pT]
          refine wpAnyH_take (i := 1) (v := ?_) rfl (by kernel_rfl) (by kernel_rfl) (by kernel_rfl) (fun _ _ _ h => h) (Or.inl ⟨by rfl, ?_⟩) hHeld ?_
          rotate_left
          · (intro w hSw; (try dsimp only at hSw); go_simp; (try with_reducible rfl))
          try simp only [Act.put, pT]
          refine wpAnyH_take (i := 2) (v := ?_) rfl (by kernel_rfl) (by kernel_rfl) (by kernel_rfl) (fun _ _ _ h => h) (Or.inl ⟨by rfl, ?_⟩) hHeld ?_
          rotate_left
          · (intro w hSw; (try dsimp only at hSw); go_simp; (try with_reducible rfl))
          try simp only [Act.put, pT]
          refine wpAnyH_take (i := 3) (v := ?_) rfl (by kernel_rfl) (by kernel_rfl) (by kernel_rfl) (fun _ _ _ h => h) (Or.inl ⟨by rfl, ?_⟩) hHeld ?_
          rotate_left
          · (intro w hSw; (try dsimp only at hSw); go_simp; (try with_reducible rfl))
          try simp only [Act.put, pT]
          refine wpAnyH_take (i := 4) (v := ?_) rfl (by kernel_rfl) (by kernel_rfl) (by kernel_rfl) (fun _ _ _ h => h) (Or.inl ⟨by rfl, ?_⟩) hHeld ?_
          rotate_left
          · (intro w hSw; (try dsimp only at hSw); go_simp; (try with_reducible rfl))
          try simp only [Act.put, pT]
          refine wpAnyH_take (i := 5) (v := ?_) rfl (by kernel_rfl) (by kernel_rfl) (by kernel_rfl) (fun _ _ _ h => h) (Or.inl ⟨by rfl, ?_⟩) hHeld ?_
          rotate_left
          · (intro w hSw; (try dsimp only at hSw); go_simp; (try with_reducible rfl))
          try simp only [Act.put, pT]
          refine wpAnyH_ready (rs := [6]) (by kernel_rfl) (by simp) ?_
          refine AllReadyH.cons rfl (fun K hK => ?_) AllReadyH.nil
          (try simp only [pT])
          rw [if_pos (by rfl)]
          go_simp
          go_at_call 39
          refine (rtcmp_v c2_ hr si hhi sh H2.out).mono ?_
          rintro e w52 ⟨rfl, b⟩
          replace hB := hB.trans (b.mono (Nat.le_of_lt ul))
          rewrite [fR b ul] at z0_ z1_ z2_ z3_ z4_ z5_
          rewrite [cR b el] at e0 e1 e2
          replace el := lK b el
          replace hr := hr.on b
          replace hlo := hlo.on b
          replace hhi := hhi.on b
          rewrite [cR b ul] at u0 u1 u2 u3 u4 u5
          replace ul := lK b ul
          replace cc := bK cc b
          clear b
          refine hK.out _ _ ?_ (fun hHeld => ?_)
          · exact ⟨e0, e1, e2, u0, u1, u2, u3, u4, u5⟩
          clear hK K
          try simp only [Act.put, pT]
          refine wpAnyH_take (i := 7) (v := ?_) rfl (by kernel_rfl) (by kernel_rfl) (by kernel_rfl) (fun _ _ _ h => h) (Or.inl ⟨by rfl, ?_⟩) hHeld ?_
          rotate_left
          · (intro w hSw; (try dsimp only at hSw); go_simp; (try with_reducible rfl))
          try simp only [Act.put, pT]
          refine wpAnyH_done (by kernel_rfl) ?_ _
          clear hHeld
          have hh_ : Held w52 w2.heap.size := Held.of ⟨u0, u1, u2, u3, u4, u5⟩
          have BX := Lib.hid (box6_high (b1 := bi) (A1 := Ai) (n1 := ni) (c1 := ci) (B1 := Bi) (m1 := mi) (d1 := di) ⟨u0, u1, u2, u3, u4, u5⟩)
          have FX : Hid (Free6 (putH w52 w2.heap.size (.bool bi) (.slice Ai ni ci) (.slice Bi mi di)) w2.heap.size) := Lib.hid (free6_set (free6_set (free6_set ⟨z0_, z1_, z2_, z3_, z4_, z5_⟩)))
          have RL : Hid (Rt (putH w52 w2.heap.size (.bool bi) (.slice Ai ni ci) (.slice Bi mi di)) bu Au nu cu Bu mu du lo) := Lib.hid (rt_high hlo hh_)
          have RH : Hid (Rt (putH w52 w2.heap.size (.bool bi) (.slice Ai ni ci) (.slice Bi mi di)) bi Ai ni ci Bi mi di xi) := Lib.hid (rt_high hr hh_)
          have HBX := Lib.hid (below_putH hB (Nat.le_refl _) (.bool bi) (.slice Ai ni ci) (.slice Bi mi di))
          clear hh_ hr hlo hhi
          go_wp2_with fail
          go_roundw
          case rel => exact ⟨_, i + 1, bu, Au, nu, cu, Bu, mu, du, bi, Ai, ni, ci, Bi, mi, di, rfl, by go_num, HI.out, BX.out, FX.out, by rw [DL2.out]; exact RL.out, by rw [DH2.out]; exact RH.out, HBX.out⟩
          case measure => have := HI.out; simp [intOf]; omega
        · skip
          have t1 : decide (c1_ < 0) = false := decide_eq_false q1
          have t2 : decide (0 < c2_) = false := decide_eq_false q2
          have DL2 : Hid (lowR X (i + 1) = lo) := Lib.hid (by rw [DL.out, if_neg (fun h => q1 (by rw [← H1.out]; exact cmpQ_neg.2 h))])
          have DH2 : Hid (highR X (i + 1) = hi_) := Lib.hid (by rw [DH.out, if_neg (fun h => q2 (by rw [← H2.out]; exact cmpQ_pos.2 h))])
          clear q1 q2 DL DH
          replace cc := ccv
          clear ccv
          go_wp2_with fail
          have bD : Below wv.heap.size wv wv.drew := below_drewN (Below.refl _ wv) 1
          replace hB := hB.trans (bD.mono (Nat.le_of_lt ul))
          rewrite [fR bD ul] at z0_ z1_ z2_ z3_ z4_ z5_
          rewrite [cR bD el] at e0 e1 e2
          replace el := lK bD el
          replace hr := hr.on bD
          replace hlo := hlo.on bD
          replace hhi := hhi.on bD
          rewrite [cR bD ul] at u0 u1 u2 u3 u4 u5
          replace ul := lK bD ul
          replace cc := bK cc bD
          clear bD
          refine wp_region_held_drew (S := fun w' => w'.cell? ⟨gl, i * 3, none⟩ = some (.bool bi) ∧ w'.cell? ⟨gl, i * 3 + 1, none⟩ = some (.slice Ai ni ci) ∧ w'.cell? ⟨gl, i * 3 + 2, none⟩ = some (.slice Bi mi di) ∧ w'.cell? ⟨w2.heap.size, 0, none⟩ = some (.bool bu) ∧ w'.cell? ⟨w2.heap.size, 1, none⟩ = some (.slice Au nu cu) ∧ w'.cell? ⟨w2.heap.size, 2, none⟩ = some (.slice Bu mu du) ∧ w'.cell? ⟨w2.heap.size, 3, none⟩ = some (.bool pu) ∧ w'.cell? ⟨w2.heap.size, 4, none⟩ = some (.slice Vu ru ku) ∧ w'.cell? ⟨w2.heap.size, 5, none⟩ = some (.slice Uu ou qu)) (by kernel_rfl) ?_ (fun hHeld => ?_)
          · exact ⟨e0, e1, e2, u0, u1, u2, u3, u4, u5⟩
          refine wpAnyH_take (i := 0) (v := ?_) rfl (by kernel_rfl) (by kernel_rfl) (by kernel_rfl) (fun _ _ _ h => h) (Or.inl ⟨by rfl, ?_⟩) hHeld ?_
          rotate_left
          · (intro w hSw; (try dsimp only at hSw); go_simp; (try with_reducible rfl))
          try simp only [Act.put, pT]
          refine wpAnyH_take (i := 1) (v := ?_) rfl (by kernel_rfl) (by kernel_rfl) (by kernel_rfl) (fun _ _ _ h => h) (Or.inl ⟨by rfl, ?_⟩) hHeld ?_
          rotate_left
          · (intro w hSw; (try dsimp only at hSw); go_simp; (try with_reducible rfl))
          try simp only [Act.put, pT]
          refine wpAnyH_take (i := 2) (v := ?_) rfl (by kernel_rfl) (by kernel_rfl) (by kernel_rfl) (fun _ _ _ h => h) (Or.inl ⟨by rfl, ?_⟩) hHeld ?_
          rotate_left
          · (intro w hSw; (try dsimp only at hSw); go_simp; (try with_reducible rfl))
          try simp only [Act.put, pT]
          refine wpAnyH_take (i := 3) (v := ?_) rfl (by kernel_rfl) (by kernel_rfl) (by kernel_rfl) (fun _ _ _ h => h) (Or.inl ⟨by rfl, ?_⟩) hHeld ?_
          rotate_left
          · (intro w hSw; (try dsimp only at hSw); go_simp; (try with_reducible rfl))
          try simp only [Act.put, pT]
          refine wpAnyH_take (i := 4) (v := ?_) rfl (by kernel_rfl) (by kernel_rfl) (by kernel_rfl) (fun _ _ _ h => h) (Or.inl ⟨by rfl, ?_⟩) hHeld ?_
          rotate_left
          · (intro w hSw; (try dsimp only at hSw); go_simp; (try with_reducible rfl))
          try simp only [Act.put, pT]
          refine wpAnyH_take (i := 5) (v := ?_) rfl (by kernel_rfl) (by kernel_rfl) (by kernel_rfl) (fun _ _ _ h => h) (Or.inl ⟨by rfl, ?_⟩) hHeld ?_
          rotate_left
          · (intro w hSw; (try dsimp only at hSw); go_simp; (try with_reducible rfl))
          try simp only [Act.put, pT]
          refine wpAnyH_ready (rs := [6]) (by kernel_rfl) (by simp) ?_
          refine AllReadyH.cons rfl (fun K hK => ?_) AllReadyH.nil
          (try simp only [pT])
          rw [if_pos (by rfl)]
          go_simp
          go_at_call 39
          refine (rtcmp_v c1_ hr si hlo sl H1.out).mono ?_
          rintro e w51 ⟨rfl, b⟩
          replace hB := hB.trans (b.mono (Nat.le_of_lt ul))
          rewrite [fR b ul] at z0_ z1_ z2_ z3_ z4_ z5_
          rewrite [cR b el] at e0 e1 e2
          replace el := lK b el
          replace hr := hr.on b
          replace hlo := hlo.on b
          replace hhi := hhi.on b
          rewrite [cR b ul] at u0 u1 u2 u3 u4 u5
          replace ul := lK b ul
          replace cc := bK cc b
          clear b
          refine hK.out _ _ ?_ (fun hHeld => ?_)
          · exact ⟨e0, e1, e2, u0, u1, u2, u3, u4, u5⟩
          clear hK K
          try simp only [Act.put, pT]
          refine wpAnyH_take (i := 7) (v := ?_) rfl (by kernel_rfl) (by kernel_rfl) (by kernel_rfl) (fun _ _ _ h => h) (Or.inl ⟨by rfl, ?_⟩) hHeld ?_
          rotate_left
          · (intro w hSw; (try dsimp only at hSw); go_simp; (try with_reducible rfl))
          try simp only [Act.put, pT]
          refine wpAnyH_done (by kernel_rfl) ?_ _
          clear hHeld
          go_wp2_with fail
          have bD : Below w51.heap.size w51 w51.drew := below_drewN (Below.refl _ w51) 1
          replace hB := hB.trans (bD.mono (Nat.le_of_lt ul))
          rewrite [fR bD ul] at z0_ z1_ z2_ z3_ z4_ z5_
          rewrite [cR bD el] at e0 e1 e2
          replace el := lK bD el
          replace hr := hr.on bD
          replace hlo := hlo.on bD
          replace hhi := hhi.on bD
          rewrite [cR bD ul] at u0 u1 u2 u3 u4 u5
          replace ul := lK bD ul
          replace cc := bK cc bD
          clear bD
          refine wp_region_held_drew (S := fun w' => w'.cell? ⟨gl, i * 3, none⟩ = some (.bool bi) ∧ w'.cell? ⟨gl, i * 3 + 1, none⟩ = some (.slice Ai ni ci) ∧ w'.cell? ⟨gl, i * 3 + 2, none⟩ = some (.slice Bi mi di) ∧ w'.cell? ⟨w2.heap.size, 0, none⟩ = some (.bool bu) ∧ w'.cell? ⟨w2.heap.size, 1, none⟩ = some (.slice Au nu cu) ∧ w'.cell? ⟨w2.heap.size, 2, none⟩ = some (.slice Bu mu du) ∧ w'.cell? ⟨w2.heap.size, 3, none⟩ = some (.bool pu) ∧ w'.cell? ⟨w2.heap.size, 4, none⟩ = some (.slice Vu ru ku) ∧ w'.cell? ⟨w2.heap.size, 5, none⟩ = some (.slice Uu ou qu)) (by kernel_rfl) ?_ (fun hHeld => ?_)
          · exact ⟨e0, e1, e2, u0, u1, u2, u3, u4, u5⟩
          refine wpAnyH_take (i := 0) (v := ?_) rfl (by kernel_rfl) (by kernel_rfl) (by kernel_rfl) (fun _ _ _ h => h) (Or.inl ⟨by rfl, ?_⟩) hHeld ?_
          rotate_left
          · (intro w hSw; (try dsimp only at hSw); go_simp; (try with_reducible rfl))
          try simp only [Act.put, pT]
          refine wpAnyH_take (i := 1) (v := ?_) rfl (by kernel_rfl) (by kernel_rfl) (by kernel_rfl) (fun _ _ _ h => h) (Or.inl ⟨by rfl, ?_⟩) hHeld ?_
          rotate_left
          · (intro w hSw; (try dsimp only at hSw); go_simp; (try with_reducible rfl))
          try simp only [Act.put, pT]
          refine wpAnyH_take (i := 2) (v := ?_) rfl (by kernel_rfl) (by kernel_rfl) (by kernel_rfl) (fun _ _ _ h => h) (Or.inl ⟨by rfl, ?_⟩) hHeld ?_
          rotate_left
          · (intro w hSw; (try dsimp only at hSw); go_simp; (try with_reducible rfl))
          try simp only [Act.put, pT]
          refine wpAnyH_take (i := 3) (v := ?_) rfl (by kernel_rfl) (by kernel_rfl) (by kernel_rfl) (fun _ _ _ h => h) (Or.inl ⟨by rfl, ?_⟩) hHeld ?_
          rotate_left
          · (intro w hSw; (try dsimp only at hSw); go_simp; (try with_reducible rfl))
          try simp only [Act.put, pT]
          refine wpAnyH_take (i := 4) (v := ?_) rfl (by kernel_rfl) (by kernel_rfl) (by kernel_rfl) (fun _ _ _ h => h) (Or.inl ⟨by rfl, ?_⟩) hHeld ?_
          rotate_left
          · (intro w hSw; (try dsimp only at hSw); go_simp; (try with_reducible rfl))
          try simp only [Act.put, pT]
          refine wpAnyH_take (i := 5) (v := ?_) rfl (by kernel_rfl) (by kernel_rfl) (by kernel_rfl) (fun _ _ _ h => h) (Or.inl ⟨by rfl, ?_⟩) hHeld ?_
          rotate_left
          · (intro w hSw; (try dsimp only at hSw); go_simp; (try with_reducible rfl))
          try simp only [Act.put, pT]
          refine wpAnyH_ready (rs := [6]) (by kernel_rfl) (by simp) ?_
          refine AllReadyH.cons rfl (fun K hK => ?_) AllReadyH.nil
          (try simp only [pT])
          rw [if_pos (by rfl)]
          go_simp
          go_at_call 39
          refine (rtcmp_v c2_ hr si hhi sh H2.out).mono ?_
          rintro e w52 ⟨rfl, b⟩
          replace hB := hB.trans (b.mono (Nat.le_of_lt ul))
          rewrite [fR b ul] at z0_ z1_ z2_ z3_ z4_ z5_
          rewrite [cR b el] at e0 e1 e2
          replace el := lK b el
          replace hr := hr.on b
          replace hlo := hlo.on b
          replace hhi := hhi.on b
          rewrite [cR b ul] at u0 u1 u2 u3 u4 u5
          replace ul := lK b ul
          replace cc := bK cc b
          clear b
          refine hK.out _ _ ?_ (fun hHeld => ?_)
          · exact ⟨e0, e1, e2, u0, u1, u2, u3, u4, u5⟩
          clear hK K
          try simp only [Act.put, pT]
          refine wpAnyH_take (i := 7) (v := ?_) rfl (by kernel_rfl) (by kernel_rfl) (by kernel_rfl) (fun _ _ _ h => h) (Or.inl ⟨by rfl, ?_⟩) hHeld ?_
          rotate_left
          · (intro w hSw; (try dsimp only at hSw); go_simp; (try with_reducible rfl))
          try simp only [Act.put, pT]
          refine wpAnyH_done (by kernel_rfl) ?_ _
          clear hHeld
          have BX := Lib.hid (show Box6 w52 w2.heap.size bu Au nu cu Bu mu du pu Vu ru ku Uu ou qu from ⟨u0, u1, u2, u3, u4, u5⟩)
          have FX := Lib.hid (show Free6 w52 w2.heap.size from ⟨z0_, z1_, z2_, z3_, z4_, z5_⟩)
          have RL := Lib.hid hlo
          have RH := Lib.hid hhi
          have HBX := Lib.hid hB
          go_wp2_with fail
          go_roundw
          case rel => exact ⟨_, i + 1, bu, Au, nu, cu, Bu, mu, du, pu, Vu, ru, ku, Uu, ou, qu, rfl, by go_num, HI.out, BX.out, FX.out, by rw [DL2.out]; exact RL.out, by rw [DH2.out]; exact RH.out, HBX.out⟩
          case measure => have := HI.out; simp [intOf]; omega
    · obtain rfl : i = N := by omega
      have gb2 : Box6 wv w.heap.size false none 0 0 none 0 0 false none 0 0 none 0 0 := ⟨(hB.cell (p := ⟨w.heap.size, 0, none⟩) gq).trans gb.1, (hB.cell (p := ⟨w.heap.size, 1, none⟩) gq).trans gb.2.1, (hB.cell (p := ⟨w.heap.size, 2, none⟩) gq).trans gb.2.2.1, (hB.cell (p := ⟨w.heap.size, 3, none⟩) gq).trans gb.2.2.2.1, (hB.cell (p := ⟨w.heap.size, 4, none⟩) gq).trans gb.2.2.2.2.1, (hB.cell (p := ⟨w.heap.size, 5, none⟩) gq).trans gb.2.2.2.2.2⟩
      obtain ⟨g_0, g_1, g_2, g_3, g_4, g_5⟩ := gb2
      have f0 := (hB.frozen (p := ⟨w.heap.size, 0, none⟩) gq).trans gf.1
      have f1 := (hB.frozen (p := ⟨w.heap.size, 1, none⟩) gq).trans gf.2.1
      have f2 := (hB.frozen (p := ⟨w.heap.size, 2, none⟩) gq).trans gf.2.2.1
      have f3 := (hB.frozen (p := ⟨w.heap.size, 3, none⟩) gq).trans gf.2.2.2.1
      have f4 := (hB.frozen (p := ⟨w.heap.size, 4, none⟩) gq).trans gf.2.2.2.2.1
      have f5 := (hB.frozen (p := ⟨w.heap.size, 5, none⟩) gq).trans gf.2.2.2.2.2
      replace cc := ccv
      clear ccv hrow gb gf
      have hb_ : Held wv (w.heap.size) := held6 g_0 g_1 g_2 g_3 g_4 g_5
      have HL : Hid (Rt (putS wv (w.heap.size) (.bool bu) (.slice Au nu cu) (.slice Bu mu du) (.bool pu) (.slice Vu ru ku) (.slice Uu ou qu)) bu Au nu cu Bu mu du (lowR X i)) := Lib.hid (Rt.putS hlo hb_ _ _)
      have HH : Hid (Rt (putS wv (w.heap.size) (.bool bu) (.slice Au nu cu) (.slice Bu mu du) (.bool pu) (.slice Vu ru ku) (.slice Uu ou qu)) pu Vu ru ku Uu ou qu (highR X i)) := Lib.hid (Rt.putS hhi hb_ _ _)
      go_wp2_with fail
      refine bodyPost_ret (v := .agg #[.bool bu, .slice Au nu cu, .slice Bu mu du, .bool pu, .slice Vu ru ku, .slice Uu ou qu]) (by simp [results, Tryz.results51, go_sem, g_0, g_1, g_2, g_3, g_4, g_5]) rfl ⟨_, _, _, _, _, _, _, _, _, _, _, _, _, _, rfl, ⟨HL.out, HH.out⟩, below_putS cc (by omega) _ _ _ _ _ _⟩

end Go.Proofs.YtanpklbconflmaaGreat

/-
  The contracts of the seventh reference: Add.
-/
namespace Go.Proofs.YtanpklbconflmaaGreat
set_option maxRecDepth 100000
open Go.RowKit
set_option linter.unusedVariables false
set_option linter.unusedSimpArgs false

set_option maxHeartbeats 8000000 in
theorem stadd_N {w : World} {b0 p0 : Bool} {A0 B0 V0 U0 : Option Addr} {n0 c0 m0 d0 r0 k0 o0 q0 : Nat} {b1 p1 : Bool} {A1 B1 V1 U1 : Option Addr} {n1 c1 m1 d1 r1 k1 o1 q1 : Nat} {x0 y0 : Rat} (h0 : Rt w b0 A0 n0 c0 B0 m0 d0 x0) (g0 : Rt w p0 V0 r0 k0 U0 o0 q0 y0) (s0 : Sz x0 40) (t0 : Sz y0 40) {x1 y1 : Rat} (h1 : Rt w b1 A1 n1 c1 B1 m1 d1 x1) (g1 : Rt w p1 V1 r1 k1 U1 o1 q1 y1) (s1 : Sz x1 40) (t1 : Sz y1 40) :
    Calls Tryz.prog 25 #[.agg #[.bool b0, .slice A0 n0 c0, .slice B0 m0 d0, .bool p0, .slice V0 r0 k0, .slice U0 o0 q0], .agg #[.bool b1, .slice A1 n1 c1, .slice B1 m1 d1, .bool p1, .slice V1 r1 k1, .slice U1 o1 q1]] w (GotSt w (x0 + x1) (y0 + y1)) := by
  have cc := Below.refl w.heap.size w
  go_enter Tryz.func25, Tryz.ntmps25
  go_wp2_with fail
  generalize hv_ : ((w.alloc (.cells #[.bool b0, .slice A0 n0 c0, .slice B0 m0 d0, .bool p0, .slice V0 r0 k0, .slice U0 o0 q0] 29)).alloc (.cells #[.bool b1, .slice A1 n1 c1, .slice B1 m1 d1, .bool p1, .slice V1 r1 k1, .slice U1 o1 q1] 29)).alloc (.cells #[.bool false, .slice none 0 0, .slice none 0 0, .bool false, .slice none 0 0, .slice none 0 0] 29) = v1
  obtain ⟨f0, f1, f2, f3, f4, f5⟩ : Fz6 v1 (w.heap.size + 1 + 1) := by simp [Fz6, ← hv_, go_sem]
  have bA : Below w.heap.size w v1 := by rw [← hv_]; exact ((((Below.refl _ w).alloc (by simp) _).alloc (by simp) _).alloc (by simp <;> omega) _)
  replace h0 := h0.on bA
  replace g0 := g0.on bA
  replace h1 := h1.on bA
  replace g1 := g1.on bA
  replace cc := bK cc bA
  clear bA
  obtain ⟨ka0, ka1, ka2, ka3, ka4, ka5⟩ : Cs6 v1 w.heap.size (.bool b0) (.slice A0 n0 c0) (.slice B0 m0 d0) (.bool p0) (.slice V0 r0 k0) (.slice U0 o0 q0) := by simp [Cs6, ← hv_, go_sem]
  have kal : w.heap.size < v1.heap.size := by simp [← hv_] <;> omega
  obtain ⟨kb0, kb1, kb2, kb3, kb4, kb5⟩ : Cs6 v1 (w.heap.size + 1) (.bool b1) (.slice A1 n1 c1) (.slice B1 m1 d1) (.bool p1) (.slice V1 r1 k1) (.slice U1 o1 q1) := by simp [Cs6, ← hv_, go_sem]
  have kbl : w.heap.size + 1 < v1.heap.size := by simp [← hv_] <;> omega
  obtain ⟨g_0, g_1, g_2, g_3, g_4, g_5⟩ : Cs6 v1 (w.heap.size + 1 + 1) (.bool false) (.slice none 0 0) (.slice none 0 0) (.bool false) (.slice none 0 0) (.slice none 0 0) := by simp [Cs6, ← hv_, go_sem]
  have g_l : w.heap.size + 1 + 1 < v1.heap.size := by simp [← hv_] <;> omega
  clear hv_
  have bD : Below v1.heap.size v1 v1.drew := below_drewN (Below.refl _ v1) 1
  rewrite [fR bD g_l] at f0 f1 f2 f3 f4 f5
  replace h0 := h0.on bD
  replace g0 := g0.on bD
  replace h1 := h1.on bD
  replace g1 := g1.on bD
  rewrite [cR bD kal] at ka0 ka1 ka2 ka3 ka4 ka5
  replace kal := lK bD kal
  rewrite [cR bD kbl] at kb0 kb1 kb2 kb3 kb4 kb5
  replace kbl := lK bD kbl
  rewrite [cR bD g_l] at g_0 g_1 g_2 g_3 g_4 g_5
  replace g_l := lK bD g_l
  replace cc := bK cc bD
  clear bD
  refine wp_region_held_drew (S := fun w' => w'.cell? ⟨w.heap.size, 0, none⟩ = some (.bool b0) ∧ w'.cell? ⟨w.heap.size, 1, none⟩ = some (.slice A0 n0 c0) ∧ w'.cell? ⟨w.heap.size, 2, none⟩ = some (.slice B0 m0 d0) ∧ w'.cell? ⟨w.heap.size, 3, none⟩ = some (.bool p0) ∧ w'.cell? ⟨w.heap.size, 4, none⟩ = some (.slice V0 r0 k0) ∧ w'.cell? ⟨w.heap.size, 5, none⟩ = some (.slice U0 o0 q0) ∧ w'.cell? ⟨w.heap.size + 1, 0, none⟩ = some (.bool b1) ∧ w'.cell? ⟨w.heap.size + 1, 1, none⟩ = some (.slice A1 n1 c1) ∧ w'.cell? ⟨w.heap.size + 1, 2, none⟩ = some (.slice B1 m1 d1) ∧ w'.cell? ⟨w.heap.size + 1, 3, none⟩ = some (.bool p1) ∧ w'.cell? ⟨w.heap.size + 1, 4, none⟩ = some (.slice V1 r1 k1) ∧ w'.cell? ⟨w.heap.size + 1, 5, none⟩ = some (.slice U1 o1 q1)) (by kernel_rfl) ?_ (fun hHeld => ?_)
  · exact ⟨ka0, ka1, ka2, ka3, ka4, ka5, kb0, kb1, kb2, kb3, kb4, kb5⟩
  refine wpAnyH_take (i := 0) (v := ?_) rfl (by kernel_rfl) (by kernel_rfl) (by kernel_rfl) (fun _ _ _ h => h) (Or.inl ⟨by rfl, ?_⟩) hHeld ?_
  rotate_left
  · (intro w hSw; (try dsimp only at hSw); go_simp; (try with_reducible rfl))
  try simp only [Act.put, pT]
  refine wpAnyH_take (i := 1) (v := ?_) rfl (by kernel_rfl) (by kernel_rfl) (by kernel_rfl) (fun _ _ _ h => h) (Or.inl ⟨by rfl, ?_⟩) hHeld ?_
  rotate_left
  · (intro w hSw; (try dsimp only at hSw); go_simp; (try with_reducible rfl))
  try simp only [Act.put, pT]
  refine wpAnyH_take (i := 2) (v := ?_) rfl (by kernel_rfl) (by kernel_rfl) (by kernel_rfl) (fun _ _ _ h => h) (Or.inl ⟨by rfl, ?_⟩) hHeld ?_
  rotate_left
  · (intro w hSw; (try dsimp only at hSw); go_simp; (try with_reducible rfl))
  try simp only [Act.put, pT]
  refine wpAnyH_take (i := 3) (v := ?_) rfl (by kernel_rfl) (by kernel_rfl) (by kernel_rfl) (fun _ _ _ h => h) (Or.inl ⟨by rfl, ?_⟩) hHeld ?_
  rotate_left
  · (intro w hSw; (try dsimp only at hSw); go_simp; (try with_reducible rfl))
  try simp only [Act.put, pT]
  refine wpAnyH_take (i := 5) (v := ?_) rfl (by kernel_rfl) (by kernel_rfl) (by kernel_rfl) (fun _ _ _ h => h) (Or.inl ⟨by rfl, ?_⟩) hHeld ?_
  rotate_left
  · (intro w hSw; (try dsimp only at hSw); go_simp; (try with_reducible rfl))
  try simp only [Act.put, pT]
  refine wpAnyH_take (i := 6) (v := ?_) rfl (by kernel_rfl) (by kernel_rfl) (by kernel_rfl) (fun _ _ _ h => h) (Or.inl ⟨by rfl, ?_⟩) hHeld ?_
  rotate_left
  · (intro w hSw; (try dsimp only at hSw); go_simp; (try with_reducible rfl))
  try simp only [Act.put, pT]
  refine wpAnyH_take (i := 7) (v := ?_) rfl (by kernel_rfl) (by kernel_rfl) (by kernel_rfl) (fun _ _ _ h => h) (Or.inl ⟨by rfl, ?_⟩) hHeld ?_
  rotate_left
  · (intro w hSw; (try dsimp only at hSw); go_simp; (try with_reducible rfl))
  try simp only [Act.put, pT]
  refine wpAnyH_take (i := 8) (v := ?_) rfl (by kernel_rfl) (by kernel_rfl) (by kernel_rfl) (fun _ _ _ h => h) (Or.inl ⟨by rfl, ?_⟩) hHeld ?_
  rotate_left
  · (intro w hSw; (try dsimp only at hSw); go_simp; (try with_reducible rfl))
  try simp only [Act.put, pT]
  refine wpAnyH_ready (rs := [4]) (by kernel_rfl) (by simp) ?_
  refine AllReadyH.cons rfl (fun K hK => ?_) AllReadyH.nil
  (try simp only [pT])
  rw [if_pos (by rfl)]
  go_simp
  go_at_call 33
  refine (rtadd_N h0 s0 h1 s1).mono ?_
  rintro e w2 ⟨ba, Aa, na, ca, Ba, ma, da, rfl, ha, b⟩
  rewrite [fR b g_l] at f0 f1 f2 f3 f4 f5
  replace h0 := h0.on b
  replace g0 := g0.on b
  replace h1 := h1.on b
  replace g1 := g1.on b
  rewrite [cR b kal] at ka0 ka1 ka2 ka3 ka4 ka5
  replace kal := lK b kal
  rewrite [cR b kbl] at kb0 kb1 kb2 kb3 kb4 kb5
  replace kbl := lK b kbl
  rewrite [cR b g_l] at g_0 g_1 g_2 g_3 g_4 g_5
  replace g_l := lK b g_l
  replace cc := bK cc b
  clear b
  refine hK.out _ _ ?_ (fun hHeld => ?_)
  · exact ⟨ka0, ka1, ka2, ka3, ka4, ka5, kb0, kb1, kb2, kb3, kb4, kb5⟩
  clear hK K
  try simp only [Act.put, pT]
  refine wpAnyH_ready (rs := [9]) (by kernel_rfl) (by simp) ?_
  refine AllReadyH.cons rfl (fun K hK => ?_) AllReadyH.nil
  (try simp only [pT])
  rw [if_pos (by rfl)]
  go_simp
  go_at_call 33
  refine (rtadd_N g0 t0 g1 t1).mono ?_
  rintro e w3 ⟨bz, Az, nz, cz, Bz, mz, dz, rfl, hz, b⟩
  rewrite [fR b g_l] at f0 f1 f2 f3 f4 f5
  replace h0 := h0.on b
  replace g0 := g0.on b
  replace h1 := h1.on b
  replace g1 := g1.on b
  replace ha := ha.on b
  rewrite [cR b kal] at ka0 ka1 ka2 ka3 ka4 ka5
  replace kal := lK b kal
  rewrite [cR b kbl] at kb0 kb1 kb2 kb3 kb4 kb5
  replace kbl := lK b kbl
  rewrite [cR b g_l] at g_0 g_1 g_2 g_3 g_4 g_5
  replace g_l := lK b g_l
  replace cc := bK cc b
  clear b
  refine hK.out _ _ ?_ (fun hHeld => ?_)
  · exact ⟨ka0, ka1, ka2, ka3, ka4, ka5, kb0, kb1, kb2, kb3, kb4, kb5⟩
  clear hK K
  try simp only [Act.put, pT]
  refine wpAnyH_take (i := 10) (v := ?_) rfl (by kernel_rfl) (by kernel_rfl) (by kernel_rfl) (fun _ _ _ h => h) (Or.inl ⟨by rfl, ?_⟩) hHeld ?_
  rotate_left
  · (intro w hSw; (try dsimp only at hSw); go_simp; (try with_reducible rfl))
  try simp only [Act.put, pT]
  refine wpAnyH_ready (rs := [11]) (by kernel_rfl) (by simp) ?_
  refine AllReadyH.cons rfl (fun K hK => ?_) AllReadyH.nil
  (try simp only [pT])
  rw [if_pos (by rfl)]
  go_simp
  refine hK.out _ _ ?_ (fun hHeld => ?_)
  · exact ⟨(cell_putS (by omega)).trans ka0, (cell_putS (by omega)).trans ka1, (cell_putS (by omega)).trans ka2, (cell_putS (by omega)).trans ka3, (cell_putS (by omega)).trans ka4, (cell_putS (by omega)).trans ka5, (cell_putS (by omega)).trans kb0, (cell_putS (by omega)).trans kb1, (cell_putS (by omega)).trans kb2, (cell_putS (by omega)).trans kb3, (cell_putS (by omega)).trans kb4, (cell_putS (by omega)).trans kb5⟩
  clear hK K
  try simp only [Act.put, pT]
  refine wpAnyH_done (by kernel_rfl) ?_ _
  clear hHeld
  have hb_ : Held w3 (w.heap.size + 1 + 1) := held6 g_0 g_1 g_2 g_3 g_4 g_5
  have HL : Hid (Rt (putS w3 (w.heap.size + 1 + 1) (.bool ba) (.slice Aa na ca) (.slice Ba ma da) (.bool bz) (.slice Az nz cz) (.slice Bz mz dz)) ba Aa na ca Ba ma da (x0 + x1)) := Lib.hid (Rt.putS ha hb_ _ _)
  have HH : Hid (Rt (putS w3 (w.heap.size + 1 + 1) (.bool ba) (.slice Aa na ca) (.slice Ba ma da) (.bool bz) (.slice Az nz cz) (.slice Bz mz dz)) bz Az nz cz Bz mz dz (y0 + y1)) := Lib.hid (Rt.putS hz hb_ _ _)
  go_wp2_with fail
  refine bodyPost_ret (v := .agg #[.bool ba, .slice Aa na ca, .slice Ba ma da, .bool bz, .slice Az nz cz, .slice Bz mz dz]) (by simp [results, Tryz.results25, go_sem, g_0, g_1, g_2, g_3, g_4, g_5]) rfl ⟨_, _, _, _, _, _, _, _, _, _, _, _, _, _, rfl, ⟨HL.out, HH.out⟩, below_putS cc (by omega) _ _ _ _ _ _⟩

end Go.Proofs.YtanpklbconflmaaGreat
