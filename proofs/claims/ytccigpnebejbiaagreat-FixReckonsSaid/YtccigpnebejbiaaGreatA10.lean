/-
  Several texts in one: KS, H7, H8, K9, MathR, R3, KR, MathN, RT1, RT2, RT3, RT4, RT, DU.
-/
import Derived.Test.YtccigpnebejbiaaGreatA8
import Derived.Test.YtccigpnebejbiaaGreatA3
import Derived.Test.YtccigpnebejbiaaGreatA2
import Derived.Test.YtccigpnebejbiaaGreatA5
import Derived.Deep.LoopGhost
import Derived.Test.YtccigpnebejbiaaGreatA6
import Derived.Test.YtccigpnebejbiaaGreatA7

/-
  Spans: values, boxes, what is answered.
-/
namespace Go.Proofs.YtccigpnebejbiaaGreat
open Go.RowKit
set_option linter.unusedVariables false
set_option linter.unusedSimpArgs false

/-- A span: both ends. -/
def St (w : World) (b : Bool) (A : Option Addr) (n c : Nat) (B : Option Addr) (m d : Nat) (v : Bool) (V : Option Addr) (r k : Nat) (U : Option Addr) (o q : Nat) (x y : Rat) : Prop := Rt w b A n c B m d x ∧ Rt w v V r k U o q y
/-- A call has answered a span; and one with a code. -/
def GotSt (w : World) (x y : Rat) (e : Ending) (w' : World) : Prop := ∃ b A n c B m d v V r k U o q, e = .returned (.agg #[.bool b, .slice A n c, .slice B m d, .bool v, .slice V r k, .slice U o q]) ∧ St w' b A n c B m d v V r k U o q x y ∧ Below w.heap.size w w'
def GotSp (w : World) (x y : Rat) (z : Int) (e : Ending) (w' : World) : Prop := ∃ b A n c B m d v V r k U o q, e = .returned (.tuple #[.agg #[.bool b, .slice A n c, .slice B m d, .bool v, .slice V r k, .slice U o q], .int .i64 z]) ∧ St w' b A n c B m d v V r k U o q x y ∧ Below w.heap.size w w'
/-- A box of six cells, none of which is a digit. -/
def Held (W : World) (g : Nat) : Prop := ∀ i, i < 6 → ∃ u, W.cell? ⟨g, i, none⟩ = some u ∧ ∀ k n, u ≠ .int k n
theorem held6 {W : World} {g : Nat} {b v : Bool} {A B V U : Option Addr} {n c m d r k o q : Nat} (h0 : W.cell? ⟨g, 0, none⟩ = some (.bool b)) (h1 : W.cell? ⟨g, 1, none⟩ = some (.slice A n c)) (h2 : W.cell? ⟨g, 2, none⟩ = some (.slice B m d)) (h3 : W.cell? ⟨g, 3, none⟩ = some (.bool v)) (h4 : W.cell? ⟨g, 4, none⟩ = some (.slice V r k)) (h5 : W.cell? ⟨g, 5, none⟩ = some (.slice U o q)) : Held W g := by
  intro i hi
  match i, hi with
  | 0, _ => exact ⟨_, h0, fun _ _ e => by cases e⟩
  | 1, _ => exact ⟨_, h1, fun _ _ e => by cases e⟩
  | 2, _ => exact ⟨_, h2, fun _ _ e => by cases e⟩
  | 3, _ => exact ⟨_, h3, fun _ _ e => by cases e⟩
  | 4, _ => exact ⟨_, h4, fun _ _ e => by cases e⟩
  | 5, _ => exact ⟨_, h5, fun _ _ e => by cases e⟩
theorem Held.set {W : World} {g j : Nat} {v : Value} (h : Held W g) (hj : j < 6) (hv : ∀ k n, v ≠ .int k n) : Held (W.setCell ⟨g, j, none⟩ v) g := by
  intro i hi
  obtain ⟨u, h1, h2⟩ := h i hi
  by_cases e : j = i
  · subst e
    exact ⟨v, World.cell?_setCell_same _ _ _ h1, hv⟩
  · exact ⟨u, (World.cell?_setCell_other _ _ _ _ (addr_ne e)).trans h1, h2⟩
theorem Num.held {W : World} {g j : Nat} {v : Value} {A : Option Addr} {n c x : Nat} (hn : Num W A n c x) (h : Held W g) (hj : j < 6) : Num (W.setCell ⟨g, j, none⟩ v) A n c x := by
  obtain ⟨u, h1, h2⟩ := h j hj
  exact hn.set_other h1 h2
/-- All six cells are written. -/
@[reducible] def putS (W : World) (g : Nat) (a b c d e f : Value) : World := (((((W.setCell ⟨g, 0, none⟩ a).setCell ⟨g, 1, none⟩ b).setCell ⟨g, 2, none⟩ c).setCell ⟨g, 3, none⟩ d).setCell ⟨g, 4, none⟩ e).setCell ⟨g, 5, none⟩ f
theorem cell_putS {w : World} {s b o : Nat} {u1 u2 u3 u4 u5 u6 : Value} (h : b ≠ s) : (putS w s u1 u2 u3 u4 u5 u6).cell? ⟨b, o, none⟩ = w.cell? ⟨b, o, none⟩ := by
  unfold putS
  iterate 6 rw [World.cell?_setCell_other (h := addr_ne' (Ne.symm h))]
theorem below_putS {C g : Nat} {V W : World} (h : Below C V W) (hg : C ≤ g) (a b c d e f : Value) : Below C V (putS W g a b c d e f) := (((((h.setCell (p := ⟨g, 0, none⟩) hg a).setCell (p := ⟨g, 1, none⟩) hg b).setCell (p := ⟨g, 2, none⟩) hg c).setCell (p := ⟨g, 3, none⟩) hg d).setCell (p := ⟨g, 4, none⟩) hg e).setCell (p := ⟨g, 5, none⟩) hg f
section
variable {W : World} {g : Nat}
theorem Num.putS {A : Option Addr} {n c x : Nat} (hn : Num W A n c x) (h : Held W g) (b v : Bool) (u1 u2 u4 u5 : Option Addr × Nat × Nat) : Num (putS W g (.bool b) (.slice u1.1 u1.2.1 u1.2.2) (.slice u2.1 u2.2.1 u2.2.2) (.bool v) (.slice u4.1 u4.2.1 u4.2.2) (.slice u5.1 u5.2.1 u5.2.2)) A n c x := by
  have k0 := h.set (j := 0) (v := .bool b) (by omega) (fun _ _ e => by cases e)
  have k1 := k0.set (j := 1) (v := .slice u1.1 u1.2.1 u1.2.2) (by omega) (fun _ _ e => by cases e)
  have k2 := k1.set (j := 2) (v := .slice u2.1 u2.2.1 u2.2.2) (by omega) (fun _ _ e => by cases e)
  have k3 := k2.set (j := 3) (v := .bool v) (by omega) (fun _ _ e => by cases e)
  have k4 := k3.set (j := 4) (v := .slice u4.1 u4.2.1 u4.2.2) (by omega) (fun _ _ e => by cases e)
  exact (((((hn.held h (by omega)).held k0 (by omega)).held k1 (by omega)).held k2 (by omega)).held k3 (by omega)).held k4 (by omega)
theorem Rt.putS {b0 : Bool} {A0 B0 : Option Addr} {n0 c0 m0 d0 : Nat} {x : Rat} (hr : Rt W b0 A0 n0 c0 B0 m0 d0 x) (h : Held W g) (b v : Bool) {A1 A2 A4 A5 : Option Addr} {n1 c1 n2 c2 n4 c4 n5 c5 : Nat} : Rt (putS W g (.bool b) (.slice A1 n1 c1) (.slice A2 n2 c2) (.bool v) (.slice A4 n4 c4) (.slice A5 n5 c5)) b0 A0 n0 c0 B0 m0 d0 x :=
  ⟨⟨hr.1.1.putS h b v (A1, n1, c1) (A2, n2, c2) (A4, n4, c4) (A5, n5, c5), hr.1.2⟩, hr.2.putS h b v (A1, n1, c1) (A2, n2, c2) (A4, n4, c4) (A5, n5, c5)⟩
end

end Go.Proofs.YtccigpnebejbiaaGreat

/-
  The contracts of the seventh reference: Same, Has, In.
-/
namespace Go.Proofs.YtccigpnebejbiaaGreat
open Go.RowKit
set_option linter.unusedVariables false
set_option linter.unusedSimpArgs false






theorem cmpQ_le {a b : Rat} : cmpQ a b ≤ 0 ↔ a ≤ b := by unfold cmpQ; grind





end Go.Proofs.YtccigpnebejbiaaGreat

/-
  The contracts of the seventh reference: Add.
-/
namespace Go.Proofs.YtccigpnebejbiaaGreat
open Go.RowKit
set_option linter.unusedVariables false
set_option linter.unusedSimpArgs false


end Go.Proofs.YtccigpnebejbiaaGreat

/-
  The contracts of the eighth reference: Add, Sub, Mul, Div, Scale.
-/
namespace Go.Proofs.YtccigpnebejbiaaGreat
set_option maxRecDepth 100000
open Go.RowKit
set_option linter.unusedVariables false
set_option linter.unusedSimpArgs false

theorem bak_sz8 {a : Int} (h : I64 a) {k : Nat} (hk : k ≤ 500) : Sz (bak a k) 8 := bak_sz (Nat.le_trans (len_one h.abs) (by omega)) (by omega) hk
theorem of_nought {a : Int} : ((a : Int) : Rat).num = a := rfl

set_option maxRecDepth 100000 in
set_option maxHeartbeats 8000000 in
theorem radd8_N {w : World} {a b : Int} (ha : I64 a) (hb : I64 b) :
    Calls Tryz.prog 6 #[.int .i64 a, .int .i64 b] w (GotV w (.tuple #[.int .i64 (nI (a + b)), .int .i64 (nE (a + b))])) := by
  have sa : Sz ((a : Int) : Rat) 1 := sz_of (len_one ha.abs)
  have sb : Sz ((b : Int) : Rat) 1 := sz_of (len_one hb.abs)
  have sv := sa.add sb
  obtain ⟨v, e⟩ : ∃ v, ((a : Int) : Rat) + ((b : Int) : Rat) = v := ⟨_, rfl⟩
  obtain ⟨z, ez⟩ : ∃ z, a + b = z := ⟨_, rfl⟩
  rw [e] at sv
  have CN : ∀ {W : World} {b : Bool} {A B : Option Addr} {n c m d : Nat}, Rt W b A n c B m d v → Calls Tryz.prog 20 #[.agg #[.bool b, .slice A n c, .slice B m d], .int .i64 0] W (GotV W (.tuple #[.int .i64 (nI (z)), .int .i64 (nE (z))])) := fun ha_ => by have h := near_N ha_ (sv.le (by omega)) (j := 0) (by omega) (by omega); rw [← e] at h; rw [← ez, ← nea_sum]; exact h
  have CO : ∀ {W : World} {b0 : Bool} {A0 B0 : Option Addr} {n0 c0 m0 d0 : Nat} {b1 : Bool} {A1 B1 : Option Addr} {n1 c1 m1 d1 : Nat}, Rt W b0 A0 n0 c0 B0 m0 d0 ((a : Int) : Rat) → Rt W b1 A1 n1 c1 B1 m1 d1 ((b : Int) : Rat) → Calls Tryz.prog 21 #[.agg #[.bool b0, .slice A0 n0 c0, .slice B0 m0 d0], .agg #[.bool b1, .slice A1 n1 c1, .slice B1 m1 d1]] W (GotRt W v) := fun ha_ hb_ => by rw [← e]; exact rtadd_N ha_ (sa.le (by omega)) hb_ (sb.le (by omega))
  rw [ez]
  clear e ez
  have cc := Below.refl w.heap.size w
  go_enter Tryz.func6, Tryz.ntmps6
  go_wp2_with fail
  refine (rtof_N _ a ha).mono ?_
  rintro e w1 ⟨bx, Ax, nx, cx, Bx, mx, dx, rfl, hx, b⟩
  replace cc := bK cc b
  clear b
  go_wp2_with fail
  refine (rtof_N _ b hb).mono ?_
  rintro e w2 ⟨bz, Az, nz, cz, Bz, mz, dz, rfl, hz, b⟩
  replace hx := hx.on b
  replace cc := bK cc b
  clear b
  go_wp2_with fail
  refine (CO hx hz).mono ?_
  rintro e w3 ⟨bu, Au, nu, cu, Bu, mu, du, rfl, hu, b⟩
  replace hx := hx.on b
  replace hz := hz.on b
  replace cc := bK cc b
  clear b
  go_wp2_with fail
  refine (CN hu).mono ?_
  rintro e w4 ⟨rfl, b⟩
  replace hx := hx.on b
  replace hz := hz.on b
  replace hu := hu.on b
  replace cc := bK cc b
  clear b
  go_wp2_with fail
  go_ret2
  exact ⟨rfl, cc⟩

set_option maxRecDepth 100000 in
set_option maxHeartbeats 8000000 in
theorem rsub8_N {w : World} {a b : Int} (ha : I64 a) (hb : I64 b) :
    Calls Tryz.prog 8 #[.int .i64 a, .int .i64 b] w (GotV w (.tuple #[.int .i64 (nI (a - b)), .int .i64 (nE (a - b))])) := by
  have sa : Sz ((a : Int) : Rat) 1 := sz_of (len_one ha.abs)
  have sb : Sz ((b : Int) : Rat) 1 := sz_of (len_one hb.abs)
  have sv := sa.sub sb
  obtain ⟨v, e⟩ : ∃ v, ((a : Int) : Rat) - ((b : Int) : Rat) = v := ⟨_, rfl⟩
  obtain ⟨z, ez⟩ : ∃ z, a - b = z := ⟨_, rfl⟩
  rw [e] at sv
  have CN : ∀ {W : World} {b : Bool} {A B : Option Addr} {n c m d : Nat}, Rt W b A n c B m d v → Calls Tryz.prog 20 #[.agg #[.bool b, .slice A n c, .slice B m d], .int .i64 0] W (GotV W (.tuple #[.int .i64 (nI (z)), .int .i64 (nE (z))])) := fun ha_ => by have h := near_N ha_ (sv.le (by omega)) (j := 0) (by omega) (by omega); rw [← e] at h; rw [← ez, ← nea_diff]; exact h
  have CO : ∀ {W : World} {b0 : Bool} {A0 B0 : Option Addr} {n0 c0 m0 d0 : Nat} {b1 : Bool} {A1 B1 : Option Addr} {n1 c1 m1 d1 : Nat}, Rt W b0 A0 n0 c0 B0 m0 d0 ((a : Int) : Rat) → Rt W b1 A1 n1 c1 B1 m1 d1 ((b : Int) : Rat) → Calls Tryz.prog 23 #[.agg #[.bool b0, .slice A0 n0 c0, .slice B0 m0 d0], .agg #[.bool b1, .slice A1 n1 c1, .slice B1 m1 d1]] W (GotRt W v) := fun ha_ hb_ => by rw [← e]; exact rtsub_N ha_ (sa.le (by omega)) hb_ (sb.le (by omega))
  rw [ez]
  clear e ez
  have cc := Below.refl w.heap.size w
  go_enter Tryz.func8, Tryz.ntmps8
  go_wp2_with fail
  refine (rtof_N _ a ha).mono ?_
  rintro e w1 ⟨bx, Ax, nx, cx, Bx, mx, dx, rfl, hx, b⟩
  replace cc := bK cc b
  clear b
  go_wp2_with fail
  refine (rtof_N _ b hb).mono ?_
  rintro e w2 ⟨bz, Az, nz, cz, Bz, mz, dz, rfl, hz, b⟩
  replace hx := hx.on b
  replace cc := bK cc b
  clear b
  go_wp2_with fail
  refine (CO hx hz).mono ?_
  rintro e w3 ⟨bu, Au, nu, cu, Bu, mu, du, rfl, hu, b⟩
  replace hx := hx.on b
  replace hz := hz.on b
  replace cc := bK cc b
  clear b
  go_wp2_with fail
  refine (CN hu).mono ?_
  rintro e w4 ⟨rfl, b⟩
  replace hx := hx.on b
  replace hz := hz.on b
  replace hu := hu.on b
  replace cc := bK cc b
  clear b
  go_wp2_with fail
  go_ret2
  exact ⟨rfl, cc⟩

theorem prod_sz {a b : Int} (ha : I64 a) (hb : I64 b) {k : Nat} (hk : k ≤ 40) : Sz (bak a k * bak b k) 15 := by
  have h1 : ∀ {z : Int}, I64 z → Sz (bak z k) 7 := fun {z} h => sz_mk (pow_ne k) (Nat.le_trans (len_one h.abs) (by omega)) (Nat.le_trans (len_one (Nat.lt_of_le_of_lt (Nat.pow_le_pow_right (by omega) hk) (by decide))) (by omega))
  exact ((h1 ha).mul (h1 hb)).le (by omega)

set_option maxRecDepth 100000 in
set_option maxHeartbeats 8000000 in
theorem rmul8_N {w : World} {a b j : Int} (ha : I64 a) (hb : I64 b) (j0 : 0 ≤ j) (j1 : j ≤ 40) :
    Calls Tryz.prog 10 #[.int .i64 a, .int .i64 b, .int .i64 j] w (GotV w (.tuple #[.int .i64 (nI (rn (a * b) (2 ^ j.toNat))), .int .i64 (nE (rn (a * b) (2 ^ j.toNat)))])) := by
  obtain ⟨x, ex⟩ : ∃ v, bak a j.toNat = v := ⟨_, rfl⟩
  obtain ⟨y, ey⟩ : ∃ v, bak b j.toNat = v := ⟨_, rfl⟩
  have sx := bak_sz8 ha (show j.toNat ≤ 500 by omega)
  have sy := bak_sz8 hb (show j.toNat ≤ 500 by omega)
  rw [ex] at sx
  rw [ey] at sy
  skip
  have eq := nea_prod a b j.toNat
  obtain ⟨z, ez⟩ : ∃ z, rn (a * b) (2 ^ j.toNat) = z := ⟨_, rfl⟩
  rw [ex, ey, ez] at eq
  have sv : Sz (x * y) 15 := by rw [← ex, ← ey]; exact prod_sz ha hb (by omega)
  have CX : ∀ W : World, Calls Tryz.prog 18 #[.int .i64 a, .int .i64 j] W (GotRp W x 0) := fun W => by rw [← ex]; exact rrat8_N ha j0 j1
  have CY : ∀ W : World, Calls Tryz.prog 18 #[.int .i64 b, .int .i64 j] W (GotRp W y 0) := fun W => by rw [← ey]; exact rrat8_N hb j0 j1
  have CN : ∀ {W : World} {b : Bool} {A B : Option Addr} {n c m d : Nat}, Rt W b A n c B m d (x * y) → Calls Tryz.prog 20 #[.agg #[.bool b, .slice A n c, .slice B m d], .int .i64 j] W (GotV W (.tuple #[.int .i64 (nI (z)), .int .i64 (nE (z))])) := fun h => by rw [← eq]; exact near_N h sv j0 (by omega)
  rw [ez]
  clear ex ey ez eq
  have cc := Below.refl w.heap.size w
  go_enter Tryz.func10, Tryz.ntmps10
  go_wp2_with fail
  refine (CX _).mono ?_
  rintro e w1 ⟨bu, Au, nu, cu, Bu, mu, du, rfl, hu, b⟩
  replace cc := bK cc b
  clear b
  go_wp2_with fail
  have bA := below_one w1 (.cells #[.bool bu, .slice Au nu cu, .slice Bu mu du] 33)
  replace hu := hu.on bA
  replace cc := bK cc bA
  clear bA
  have xa0 : (w1.alloc (.cells #[.bool bu, .slice Au nu cu, .slice Bu mu du] 33)).cell? ⟨w1.heap.size, 0, none⟩ = some (.bool bu) := by simp [go_sem]
  have xa1 : (w1.alloc (.cells #[.bool bu, .slice Au nu cu, .slice Bu mu du] 33)).cell? ⟨w1.heap.size, 1, none⟩ = some (.slice Au nu cu) := by simp [go_sem]
  have xa2 : (w1.alloc (.cells #[.bool bu, .slice Au nu cu, .slice Bu mu du] 33)).cell? ⟨w1.heap.size, 2, none⟩ = some (.slice Bu mu du) := by simp [go_sem]
  have xal : w1.heap.size < (w1.alloc (.cells #[.bool bu, .slice Au nu cu, .slice Bu mu du] 33)).heap.size := by simp
  generalize w1.alloc (.cells #[.bool bu, .slice Au nu cu, .slice Bu mu du] 33) = v2 at *
  refine (CY _).mono ?_
  rintro e w3 ⟨bv, Av, nv, cv, Bv, mv, dv, rfl, hv, b⟩
  replace hu := hu.on b
  replace xa0 := cK b xa0 xal
  replace xa1 := cK b xa1 xal
  replace xa2 := cK b xa2 xal
  replace xal := lK b xal
  replace cc := bK cc b
  clear b
  go_wp2_with fail
  have bA := below_one w3 (.cells #[.bool bv, .slice Av nv cv, .slice Bv mv dv] 33)
  replace hu := hu.on bA
  replace hv := hv.on bA
  replace xa0 := cK bA xa0 xal
  replace xa1 := cK bA xa1 xal
  replace xa2 := cK bA xa2 xal
  replace xal := lK bA xal
  replace cc := bK cc bA
  clear bA
  have xb0 : (w3.alloc (.cells #[.bool bv, .slice Av nv cv, .slice Bv mv dv] 33)).cell? ⟨w3.heap.size, 0, none⟩ = some (.bool bv) := by simp [go_sem]
  have xb1 : (w3.alloc (.cells #[.bool bv, .slice Av nv cv, .slice Bv mv dv] 33)).cell? ⟨w3.heap.size, 1, none⟩ = some (.slice Av nv cv) := by simp [go_sem]
  have xb2 : (w3.alloc (.cells #[.bool bv, .slice Av nv cv, .slice Bv mv dv] 33)).cell? ⟨w3.heap.size, 2, none⟩ = some (.slice Bv mv dv) := by simp [go_sem]
  have xbl : w3.heap.size < (w3.alloc (.cells #[.bool bv, .slice Av nv cv, .slice Bv mv dv] 33)).heap.size := by simp
  generalize w3.alloc (.cells #[.bool bv, .slice Av nv cv, .slice Bv mv dv] 33) = v4 at *
  go_wp2_with fail
  refine (rtmul_N hu (sx.le (by omega)) hv (sy.le (by omega))).mono ?_
  rintro e w5 ⟨be, Ae, ne, ce, Be, me, de, rfl, he, b⟩
  replace hu := hu.on b
  replace hv := hv.on b
  replace xa0 := cK b xa0 xal
  replace xa1 := cK b xa1 xal
  replace xa2 := cK b xa2 xal
  replace xal := lK b xal
  replace xb0 := cK b xb0 xbl
  replace xb1 := cK b xb1 xbl
  replace xb2 := cK b xb2 xbl
  replace xbl := lK b xbl
  replace cc := bK cc b
  clear b
  go_wp2_with fail
  refine (CN he).mono ?_
  rintro e w6 ⟨rfl, b⟩
  replace hu := hu.on b
  replace hv := hv.on b
  replace he := he.on b
  replace xa0 := cK b xa0 xal
  replace xa1 := cK b xa1 xal
  replace xa2 := cK b xa2 xal
  replace xal := lK b xal
  replace xb0 := cK b xb0 xbl
  replace xb1 := cK b xb1 xbl
  replace xb2 := cK b xb2 xbl
  replace xbl := lK b xbl
  replace cc := bK cc b
  clear b
  go_wp2_with fail
  go_ret2
  exact ⟨rfl, cc⟩

set_option maxRecDepth 100000 in
set_option maxHeartbeats 8000000 in
theorem rmul8_no {w : World} {a b j : Int} (h : j < 0 ∨ 40 < j) :
    Calls Tryz.prog 10 #[.int .i64 a, .int .i64 b, .int .i64 j] w (GotV w (.tuple #[.int .i64 (0), .int .i64 (1)])) := by
  have cc := Below.refl w.heap.size w
  go_enter Tryz.func10, Tryz.ntmps10
  go_wp2_with fail
  refine (rrat8_no h).mono ?_
  rintro e w1 ⟨rfl, b⟩
  replace cc := bK cc b
  clear b
  go_wp2_with fail
  have bA := below_one w1 (.cells #[.bool false, .slice none 0 0, .slice none 0 0] 33)
  replace cc := bK cc bA
  clear bA
  have xa0 : (w1.alloc (.cells #[.bool false, .slice none 0 0, .slice none 0 0] 33)).cell? ⟨w1.heap.size, 0, none⟩ = some (.bool false) := by simp [go_sem]
  have xa1 : (w1.alloc (.cells #[.bool false, .slice none 0 0, .slice none 0 0] 33)).cell? ⟨w1.heap.size, 1, none⟩ = some (.slice none 0 0) := by simp [go_sem]
  have xa2 : (w1.alloc (.cells #[.bool false, .slice none 0 0, .slice none 0 0] 33)).cell? ⟨w1.heap.size, 2, none⟩ = some (.slice none 0 0) := by simp [go_sem]
  have xal : w1.heap.size < (w1.alloc (.cells #[.bool false, .slice none 0 0, .slice none 0 0] 33)).heap.size := by simp
  generalize w1.alloc (.cells #[.bool false, .slice none 0 0, .slice none 0 0] 33) = v2 at *
  refine (rrat8_no h).mono ?_
  rintro e w3 ⟨rfl, b⟩
  replace xa0 := cK b xa0 xal
  replace xa1 := cK b xa1 xal
  replace xa2 := cK b xa2 xal
  replace xal := lK b xal
  replace cc := bK cc b
  clear b
  go_wp2_with fail
  have bA := below_one w3 (.cells #[.bool false, .slice none 0 0, .slice none 0 0] 33)
  replace xa0 := cK bA xa0 xal
  replace xa1 := cK bA xa1 xal
  replace xa2 := cK bA xa2 xal
  replace xal := lK bA xal
  replace cc := bK cc bA
  clear bA
  have xb0 : (w3.alloc (.cells #[.bool false, .slice none 0 0, .slice none 0 0] 33)).cell? ⟨w3.heap.size, 0, none⟩ = some (.bool false) := by simp [go_sem]
  have xb1 : (w3.alloc (.cells #[.bool false, .slice none 0 0, .slice none 0 0] 33)).cell? ⟨w3.heap.size, 1, none⟩ = some (.slice none 0 0) := by simp [go_sem]
  have xb2 : (w3.alloc (.cells #[.bool false, .slice none 0 0, .slice none 0 0] 33)).cell? ⟨w3.heap.size, 2, none⟩ = some (.slice none 0 0) := by simp [go_sem]
  have xbl : w3.heap.size < (w3.alloc (.cells #[.bool false, .slice none 0 0, .slice none 0 0] 33)).heap.size := by simp
  generalize w3.alloc (.cells #[.bool false, .slice none 0 0, .slice none 0 0] 33) = v4 at *
  go_wp2_with fail
  go_ret2
  exact ⟨rfl, cc⟩

set_option maxRecDepth 100000 in
set_option maxHeartbeats 8000000 in
theorem rdiv8_N {w : World} {a b j : Int} (ha : I64 a) (hb : I64 b) (hb0 : b ≠ 0) (j0 : 0 ≤ j) (j1 : j ≤ 40) :
    Calls Tryz.prog 12 #[.int .i64 a, .int .i64 b, .int .i64 j] w (GotV w (.tuple #[.int .i64 (nI (rn (b.sign * (a * ((2 ^ j.toNat : Nat) : Int))) b.natAbs)), .int .i64 (nE (rn (b.sign * (a * ((2 ^ j.toNat : Nat) : Int))) b.natAbs))])) := by
  have sa : Sz ((a : Int) : Rat) 1 := sz_of (len_one ha.abs)
  have sb : Sz ((b : Int) : Rat) 1 := sz_of (len_one hb.abs)
  have hn : ((b : Int) : Rat).num ≠ 0 := hb0
  have sv := sa.div sb hn
  obtain ⟨v, e⟩ : ∃ v, ((a : Int) : Rat) / ((b : Int) : Rat) = v := ⟨_, rfl⟩
  have eq := nea_quot a b j.toNat hb0
  obtain ⟨z, ez⟩ : ∃ z, rn (b.sign * (a * ((2 ^ j.toNat : Nat) : Int))) b.natAbs = z := ⟨_, rfl⟩
  rw [e, ez] at eq
  rw [e] at sv
  have CN : ∀ {W : World} {b : Bool} {A B : Option Addr} {n c m d : Nat}, Rt W b A n c B m d v → Calls Tryz.prog 20 #[.agg #[.bool b, .slice A n c, .slice B m d], .int .i64 j] W (GotV W (.tuple #[.int .i64 (nI (z)), .int .i64 (nE (z))])) := fun h => by rw [← eq]; exact near_N h (sv.le (by omega)) j0 (by omega)
  have CO : ∀ {W : World} {b0 : Bool} {A0 B0 : Option Addr} {n0 c0 m0 d0 : Nat} {b1 : Bool} {A1 B1 : Option Addr} {n1 c1 m1 d1 : Nat}, Rt W b0 A0 n0 c0 B0 m0 d0 ((a : Int) : Rat) → Rt W b1 A1 n1 c1 B1 m1 d1 ((b : Int) : Rat) → Calls Tryz.prog 30 #[.agg #[.bool b0, .slice A0 n0 c0, .slice B0 m0 d0], .agg #[.bool b1, .slice A1 n1 c1, .slice B1 m1 d1]] W (GotRp W v 0) := fun h k => by rw [← e]; exact rtdiv_N h (sa.le (by omega)) k (sb.le (by omega)) hn
  rw [ez]
  clear e ez eq hn
  have cc := Below.refl w.heap.size w
  go_enter Tryz.func12, Tryz.ntmps12
  go_wp2_with fail
  refine (frac_2 _ j0 j1).mono ?_
  rintro e w1 ⟨rfl, b⟩
  replace cc := bK cc b
  clear b
  go_wp2_with fail
  refine (rtof_N _ a ha).mono ?_
  rintro e w2 ⟨bx, Ax, nx, cx, Bx, mx, dx, rfl, hx, b⟩
  replace cc := bK cc b
  clear b
  go_wp2_with fail
  refine (rtof_N _ b hb).mono ?_
  rintro e w3 ⟨bz, Az, nz, cz, Bz, mz, dz, rfl, hz, b⟩
  replace hx := hx.on b
  replace cc := bK cc b
  clear b
  go_wp2_with fail
  refine (CO hx hz).mono ?_
  rintro e w4 ⟨bu, Au, nu, cu, Bu, mu, du, rfl, hu, b⟩
  replace hx := hx.on b
  replace hz := hz.on b
  replace cc := bK cc b
  clear b
  go_wp2_with fail
  have bA := below_one w4 (.cells #[.bool bu, .slice Au nu cu, .slice Bu mu du] 33)
  replace hx := hx.on bA
  replace hz := hz.on bA
  replace hu := hu.on bA
  replace cc := bK cc bA
  clear bA
  have xq0 : (w4.alloc (.cells #[.bool bu, .slice Au nu cu, .slice Bu mu du] 33)).cell? ⟨w4.heap.size, 0, none⟩ = some (.bool bu) := by simp [go_sem]
  have xq1 : (w4.alloc (.cells #[.bool bu, .slice Au nu cu, .slice Bu mu du] 33)).cell? ⟨w4.heap.size, 1, none⟩ = some (.slice Au nu cu) := by simp [go_sem]
  have xq2 : (w4.alloc (.cells #[.bool bu, .slice Au nu cu, .slice Bu mu du] 33)).cell? ⟨w4.heap.size, 2, none⟩ = some (.slice Bu mu du) := by simp [go_sem]
  have xql : w4.heap.size < (w4.alloc (.cells #[.bool bu, .slice Au nu cu, .slice Bu mu du] 33)).heap.size := by simp
  generalize w4.alloc (.cells #[.bool bu, .slice Au nu cu, .slice Bu mu du] 33) = v5 at *
  go_wp2_with fail
  refine (CN hu).mono ?_
  rintro e w6 ⟨rfl, b⟩
  replace hx := hx.on b
  replace hz := hz.on b
  replace hu := hu.on b
  replace xq0 := cK b xq0 xql
  replace xq1 := cK b xq1 xql
  replace xq2 := cK b xq2 xql
  replace xql := lK b xql
  replace cc := bK cc b
  clear b
  go_wp2_with fail
  go_ret2
  exact ⟨rfl, cc⟩

set_option maxRecDepth 100000 in
set_option maxHeartbeats 8000000 in
theorem rdiv8_no {w : World} {a b j : Int} (h : j < 0 ∨ 40 < j) :
    Calls Tryz.prog 12 #[.int .i64 a, .int .i64 b, .int .i64 j] w (GotV w (.tuple #[.int .i64 (0), .int .i64 (1)])) := by
  have cc := Below.refl w.heap.size w
  go_enter Tryz.func12, Tryz.ntmps12
  go_wp2_with fail
  refine (frac_no _ h).mono ?_
  rintro e w1 ⟨rfl, b⟩
  replace cc := bK cc b
  clear b
  go_wp2_with fail
  go_ret2
  exact ⟨rfl, cc⟩

set_option maxRecDepth 100000 in
set_option maxHeartbeats 8000000 in
theorem rdiv8_zero {w : World} {a j : Int} (ha : I64 a) (j0 : 0 ≤ j) (j1 : j ≤ 40) :
    Calls Tryz.prog 12 #[.int .i64 a, .int .i64 0, .int .i64 j] w (GotV w (.tuple #[.int .i64 (0), .int .i64 (4)])) := by
  have h0 : I64 0 := by unfold I64; omega
  have cc := Below.refl w.heap.size w
  go_enter Tryz.func12, Tryz.ntmps12
  go_wp2_with fail
  refine (frac_2 _ j0 j1).mono ?_
  rintro e w1 ⟨rfl, b⟩
  replace cc := bK cc b
  clear b
  go_wp2_with fail
  refine (rtof_N _ a ha).mono ?_
  rintro e w2 ⟨bx, Ax, nx, cx, Bx, mx, dx, rfl, hx, b⟩
  replace cc := bK cc b
  clear b
  go_wp2_with fail
  refine (rtof_N _ 0 h0).mono ?_
  rintro e w3 ⟨bz, Az, nz, cz, Bz, mz, dz, rfl, hz, b⟩
  replace hx := hx.on b
  replace cc := bK cc b
  clear b
  have hn0 := rt_zero hz rfl
  subst hn0
  go_wp2_with fail
  refine (rtdiv_zero).mono ?_
  rintro e w4 ⟨rfl, b⟩
  replace hx := hx.on b
  replace hz := hz.on b
  replace cc := bK cc b
  clear b
  go_wp2_with fail
  have bA := below_one w4 (.cells #[.bool false, .slice none 0 0, .slice none 0 0] 33)
  replace hx := hx.on bA
  replace hz := hz.on bA
  replace cc := bK cc bA
  clear bA
  have xq0 : (w4.alloc (.cells #[.bool false, .slice none 0 0, .slice none 0 0] 33)).cell? ⟨w4.heap.size, 0, none⟩ = some (.bool false) := by simp [go_sem]
  have xq1 : (w4.alloc (.cells #[.bool false, .slice none 0 0, .slice none 0 0] 33)).cell? ⟨w4.heap.size, 1, none⟩ = some (.slice none 0 0) := by simp [go_sem]
  have xq2 : (w4.alloc (.cells #[.bool false, .slice none 0 0, .slice none 0 0] 33)).cell? ⟨w4.heap.size, 2, none⟩ = some (.slice none 0 0) := by simp [go_sem]
  have xql : w4.heap.size < (w4.alloc (.cells #[.bool false, .slice none 0 0, .slice none 0 0] 33)).heap.size := by simp
  generalize w4.alloc (.cells #[.bool false, .slice none 0 0, .slice none 0 0] 33) = v5 at *
  go_wp2_with fail
  go_ret2
  exact ⟨rfl, cc⟩



end Go.Proofs.YtccigpnebejbiaaGreat

/-
  Plain arithmetic of powers and roots.
-/
namespace Go.Proofs.YtccigpnebejbiaaGreat

/-- The greatest number up to n whose power of k is at most x. -/
def irootTo (k x : Nat) : Nat → Nat
  | 0 => 0
  | n + 1 => if (n + 1) ^ k ≤ x then n + 1 else irootTo k x n
/-- A root, down. -/
def iroot (k x : Nat) : Nat := irootTo k x x
/-- A root, up. -/
def uroot (k x : Nat) : Nat := if iroot k x ^ k = x then iroot k x else iroot k x + 1

theorem irootTo_pow {k x : Nat} (hk : k ≠ 0) (n : Nat) : irootTo k x n ^ k ≤ x := by
  induction n with
  | zero => unfold irootTo; rw [Nat.zero_pow (by omega)]; omega
  | succ n ih =>
    unfold irootTo
    split
    · assumption
    · exact ih
theorem le_irootTo {k x r : Nat} (n : Nat) (hr : r ≤ n) (h : r ^ k ≤ x) : r ≤ irootTo k x n := by
  induction n with
  | zero => omega
  | succ n ih =>
    unfold irootTo
    split
    · exact hr
    · rename_i hn
      rcases Nat.lt_or_ge n r with h1 | h1
      · have : r = n + 1 := by omega
        subst this; exact absurd h hn
      · exact ih h1
theorem self_le_pow {k : Nat} (r : Nat) (hk : k ≠ 0) : r ≤ r ^ k := Nat.le_self_pow hk r
theorem pow_le {a b : Nat} (k : Nat) (h : a ≤ b) : a ^ k ≤ b ^ k := Nat.pow_le_pow_left h k
theorem pow_lt {a b k : Nat} (hk : k ≠ 0) (h : a < b) : a ^ k < b ^ k := Nat.pow_lt_pow_left h hk
/-- A number is at most the root just if its power is at most the number. -/
theorem le_iroot {k x r : Nat} (hk : k ≠ 0) : r ≤ iroot k x ↔ r ^ k ≤ x := by
  constructor
  · intro h
    exact Nat.le_trans (pow_le k h) (irootTo_pow hk x)
  · intro h
    exact le_irootTo x (Nat.le_trans (self_le_pow r hk) h) h
theorem iroot_pow {k : Nat} (x : Nat) (hk : k ≠ 0) : iroot k x ^ k ≤ x := irootTo_pow hk x
theorem lt_iroot {k : Nat} (x : Nat) (hk : k ≠ 0) : x < (iroot k x + 1) ^ k := by
  rcases Nat.lt_or_ge x ((iroot k x + 1) ^ k) with h | h
  · exact h
  · have := (le_iroot hk).2 h; omega
theorem iroot_eq {k x r : Nat} (hk : k ≠ 0) (h1 : r ^ k ≤ x) (h2 : x < (r + 1) ^ k) : iroot k x = r := by
  have a := (le_iroot hk).2 h1
  rcases Nat.lt_or_ge r (iroot k x) with h | h
  · have := (le_iroot (x := x) (r := r + 1) hk).1 h; omega
  · omega
theorem uroot_le {k x r : Nat} (hk : k ≠ 0) : uroot k x ≤ r ↔ x ≤ r ^ k := by
  unfold uroot
  have h1 := iroot_pow x hk
  have h2 := lt_iroot x hk
  split
  · rename_i e
    constructor
    · intro h
      rw [← e]; exact pow_le k h
    · intro h
      rcases Nat.lt_or_ge r (iroot k x) with h3 | h3
      · have := pow_lt hk h3; omega
      · exact h3
  · rename_i e
    constructor
    · intro h
      have := pow_le k h; omega
    · intro h
      rcases Nat.lt_or_ge (iroot k x) r with h3 | h3
      · exact h3
      · have := pow_le k h3; omega
theorem iroot_le {k : Nat} (x : Nat) (hk : k ≠ 0) : iroot k x ≤ x := Nat.le_trans (self_le_pow _ hk) (iroot_pow x hk)
theorem uroot_le_self {k : Nat} (x : Nat) (hk : k ≠ 0) : uroot k x ≤ x := (uroot_le hk).2 (self_le_pow x hk)

/-- P3.3: the root of a power. -/
theorem iroot_of_pow {k : Nat} (a : Nat) (hk : k ≠ 0) : iroot k (a ^ k) = a := iroot_eq hk (Nat.le_refl _) (pow_lt hk (Nat.lt_succ_self a))
theorem uroot_of_pow {k : Nat} (a : Nat) (hk : k ≠ 0) : uroot k (a ^ k) = a := by unfold uroot; rw [iroot_of_pow a hk, if_pos rfl]
theorem iroot_pred {k a : Nat} (hk : k ≠ 0) (ha : a ≠ 0) : iroot k (a ^ k - 1) = a - 1 := by
  have h1 := pow_lt hk (show a - 1 < a by omega)
  refine iroot_eq hk (by omega) ?_
  rw [Nat.sub_add_cancel (by omega)]
  omega
theorem uroot_pred {k a : Nat} (hk : 2 ≤ k) (ha : 2 ≤ a) : uroot k (a ^ k - 1) = a := by
  unfold uroot
  rw [iroot_pred (by omega) (by omega), if_neg, Nat.sub_add_cancel (by omega)]
  obtain ⟨b, rfl⟩ : ∃ b, a = b + 1 := ⟨a - 1, by omega⟩
  rw [Nat.add_sub_cancel]
  obtain ⟨j, rfl⟩ : ∃ j, k = j + 1 := ⟨k - 1, by omega⟩
  have h1 : b ^ j * 1 ≤ (b + 1) ^ j * 1 := Nat.mul_le_mul_right _ (pow_le j (by omega))
  have h2 : (b + 1) ^ (j + 1) = (b + 1) ^ j * b + (b + 1) ^ j := by rw [Nat.pow_succ, Nat.mul_add, Nat.mul_one]
  have h3 : b ^ (j + 1) ≤ (b + 1) ^ j * b := by rw [Nat.pow_succ]; exact Nat.mul_le_mul_right _ (pow_le j (by omega))
  have h4 : 1 < (b + 1) ^ j := Nat.one_lt_pow (by omega) (by omega)
  omega
theorem uroot_zero {k : Nat} (hk : k ≠ 0) : uroot k 0 = 0 := by
  have := uroot_le_self 0 hk; omega
theorem iroot_mono {k a b : Nat} (hk : k ≠ 0) (h : a ≤ b) : iroot k a ≤ iroot k b := (le_iroot hk).2 (Nat.le_trans (iroot_pow a hk) h)
theorem iroot_higher {k : Nat} (a : Nat) (hk : k ≠ 0) : iroot (k + 1) a ≤ iroot k a := by
  refine (le_iroot hk).2 ?_
  have h := iroot_pow a (k := k + 1) (by omega)
  rcases Nat.eq_zero_or_pos (iroot (k + 1) a) with h0 | h0
  · rw [h0, Nat.zero_pow (by omega)]; omega
  · exact Nat.le_trans (Nat.pow_le_pow_right h0 (by omega)) h
theorem iroot_one (a : Nat) : iroot 1 a = a := iroot_eq (by omega) (by rw [Nat.pow_one]; omega) (by rw [Nat.pow_one]; omega)
theorem iroot_iroot {k n : Nat} (a : Nat) (hk : k ≠ 0) (hn : n ≠ 0) : iroot n (iroot k a) = iroot (k * n) a := by
  have hkn : k * n ≠ 0 := Nat.mul_ne_zero hk hn
  have key : ∀ r, r ≤ iroot n (iroot k a) ↔ r ≤ iroot (k * n) a := fun r => by
    rw [le_iroot hn, le_iroot hk, le_iroot hkn, ← Nat.pow_mul, Nat.mul_comm n k]
  exact Nat.le_antisymm ((key _).1 (Nat.le_refl _)) ((key _).2 (Nat.le_refl _))
theorem iroot_mul {k : Nat} (a b : Nat) (hk : k ≠ 0) : iroot k a * iroot k b ≤ iroot k (a * b) := by
  rw [le_iroot hk, Nat.mul_pow]
  exact Nat.mul_le_mul (iroot_pow a hk) (iroot_pow b hk)
theorem le_uroot_pow {k : Nat} (x : Nat) (hk : k ≠ 0) : x ≤ uroot k x ^ k := (uroot_le hk).1 (Nat.le_refl _)
theorem uroot_mul {k : Nat} (a b : Nat) (hk : k ≠ 0) : uroot k (a * b) ≤ uroot k a * uroot k b := by
  rw [uroot_le hk, Nat.mul_pow]
  exact Nat.mul_le_mul (le_uroot_pow a hk) (le_uroot_pow b hk)

theorem limbs_length_pow {a m : Nat} (h : (limbs a).length ≤ m) (k : Nat) : (limbs (a ^ k)).length ≤ m * k + 1 := by
  refine Nat.le_trans (limbs_length_le (n := a ^ k) (k := m * k + 1) ?_) (Nat.le_refl _)
  have h1 : a ^ k ≤ (B64 ^ m) ^ k := pow_le k (Nat.le_of_lt (lt_of_limbs_length h))
  rw [← Nat.pow_mul] at h1
  have h2 : B64 ^ (m * k) < B64 ^ (m * k + 1) := Nat.pow_lt_pow_right B64_gt (Nat.lt_succ_self _)
  omega

/-- The reference's loop: its start, a step, its end. -/
theorem root_start {a b k : Nat} (hk : k ≠ 0) (ha : a < 2 ^ b) : a < (0 + 2 ^ (b / k + 1)) ^ k := by
  rw [Nat.zero_add, ← Nat.pow_mul]
  refine Nat.lt_of_lt_of_le ha (Nat.pow_le_pow_right (by omega) ?_)
  have := Nat.div_add_mod b k
  have := Nat.mod_lt b (show k > 0 by omega)
  rw [Nat.add_mul, Nat.one_mul, Nat.mul_comm (b / k)]
  omega
theorem root_step {out i : Nat} : out + 2 ^ (i + 1) = out + 2 ^ i + 2 ^ i := by rw [Nat.pow_succ]; omega

end Go.Proofs.YtccigpnebejbiaaGreat

/-
  The contracts of the third reference: power, Pow, Root, Up.
-/
namespace Go.Proofs.YtccigpnebejbiaaGreat
open Go.RowKit
theorem num_none (w : World) (A : Option Addr) (c : Nat) : Num w A 0 c 0 := by
  unfold Num
  rw [limbs_zero]
  exact Lim.nil _ _ _ _
theorem blen_len {x m : Nat} (h : (limbs x).length ≤ m) : blen x ≤ 64 * m := by
  refine blen_le ?_
  have := lt_of_limbs_length h
  rw [B64_pow2] at this
  exact this
theorem limbs_two_pow {i m : Nat} (h : i < 64 * m) : (limbs (2 ^ i)).length ≤ m := by
  refine limbs_length_le ?_
  rw [B64_pow2]
  exact (Nat.pow_lt_pow_iff_right (by omega)).2 h

theorem len_iroot {x k m : Nat} (h1 : 1 ≤ k) (hx : (limbs x).length ≤ m) : (limbs (iroot k x)).length ≤ m := Nat.le_trans (limbs_length_mono (iroot_le x (by omega))) hx
theorem len_uroot {x k m : Nat} (h1 : 1 ≤ k) (hx : (limbs x).length ≤ m) : (limbs (uroot k x)).length ≤ m := Nat.le_trans (limbs_length_mono (uroot_le_self x (by omega))) hx
theorem len_irootp {x k m : Nat} (h1 : 1 ≤ k) (hx : (limbs x).length ≤ m) : (limbs (iroot k x ^ k)).length ≤ m := Nat.le_trans (limbs_length_mono (iroot_pow x (by omega))) hx

end Go.Proofs.YtccigpnebejbiaaGreat

/-
  The contract of the eighth reference: Sqrt.
-/
namespace Go.Proofs.YtccigpnebejbiaaGreat
open Go.RowKit
set_option linter.unusedVariables false
set_option linter.unusedSimpArgs false

attribute [local go_sem] field_N
theorem root8_fits {a : Int} (ha : I64 a) {k : Nat} (hk : k ≤ 40) : I64 ((iroot 2 (a.natAbs * 2 ^ k) : Nat) : Int) := by
  have h1 : a.natAbs < 9223372036854775808 + 1 := by unfold I64 at ha; omega
  have h2 : 2 ^ k ≤ 1099511627776 := Nat.le_trans (Nat.pow_le_pow_right (by omega) hk) (by decide)
  have h3 : a.natAbs * 2 ^ k ≤ 9223372036854775808 * 1099511627776 := Nat.mul_le_mul (by omega) h2
  have h4 : iroot 2 (a.natAbs * 2 ^ k) ≤ 9223372036854775807 := by
    refine Nat.le_of_not_lt fun h => ?_
    have h5 := iroot_pow (k := 2) (a.natAbs * 2 ^ k) (by omega)
    have h6 : 9223372036854775808 ^ 2 ≤ iroot 2 (a.natAbs * 2 ^ k) ^ 2 := Nat.pow_le_pow_left h 2
    omega
  unfold I64; omega




end Go.Proofs.YtccigpnebejbiaaGreat

/-
  Plain arithmetic: Newton's guesses of a root go down to it, and stay no less than it.
-/
namespace Go.Proofs.YtccigpnebejbiaaGreat

theorem twice_le (r x : Nat) : 2 * (r * x) ≤ r * r + x * x := by
  rcases Nat.le_total r x with h | h
  · obtain ⟨d, rfl⟩ := Nat.le.dest h
    simp only [Nat.mul_add, Nat.add_mul, Nat.mul_comm d r]
    have := Nat.zero_le (d * d)
    omega
  · obtain ⟨d, rfl⟩ := Nat.le.dest h
    simp only [Nat.mul_add, Nat.add_mul, Nat.mul_comm d x]
    have := Nat.zero_le (d * d)
    omega

/-- The mean of j times x and once r to the power of j + 1 by x to the power of j is no less than r. -/
theorem means (r x j : Nat) : (j + 1) * (r * x ^ j) ≤ r ^ (j + 1) + j * (x * x ^ j) := by
  induction j with
  | zero => simp
  | succ j ih =>
    have h1 := Nat.mul_le_mul_left ((j + 1) * x ^ j) (twice_le r x)
    have h2 := Nat.mul_le_mul_left r ih
    rw [Nat.pow_succ r (j + 1), Nat.pow_succ x j]
    generalize x ^ j = X at *
    generalize r ^ (j + 1) = R at *
    have e1 : (j + 1) * X * (2 * (r * x)) = 2 * (j * (r * x * X)) + 2 * (r * x * X) := by
      rw [show (j + 1) * X * (2 * (r * x)) = 2 * ((j + 1) * (r * x * X)) by ac_rfl, Nat.add_mul, Nat.one_mul, Nat.mul_add]
    have e2 : (j + 1) * X * (r * r + x * x) = (j + 1) * (r * r * X) + (j + 1) * (x * x * X) := by
      rw [Nat.mul_add]; congr 1 <;> ac_rfl
    have e3 : r * ((j + 1) * (r * X)) = (j + 1) * (r * r * X) := by ac_rfl
    have e4 : r * (R + j * (x * X)) = R * r + j * (r * x * X) := by
      rw [Nat.mul_add]; congr 1 <;> ac_rfl
    have e5 : (j + 1 + 1) * (r * (X * x)) = j * (r * x * X) + 2 * (r * x * X) := by
      rw [show r * (X * x) = r * x * X by ac_rfl, Nat.add_assoc, Nat.add_mul]
    have e6 : (j + 1) * (x * (X * x)) = (j + 1) * (x * x * X) := by
      congr 1; ac_rfl
    rw [e1, e2] at h1
    rw [e3, e4] at h2
    rw [e5, e6]
    omega

/-- The next guess. -/
def newton (a k x : Nat) : Nat := (x * (k - 1) + a / x ^ (k - 1)) / k

theorem newton_ge {a k r x : Nat} (h1 : 1 ≤ k) (hr : r ^ k ≤ a) (hx : x ≠ 0) : r ≤ newton a k x := by
  obtain ⟨j, rfl⟩ : ∃ j, k = j + 1 := ⟨k - 1, by omega⟩
  unfold newton
  rw [Nat.add_sub_cancel, Nat.le_div_iff_mul_le (by omega)]
  have hX : 0 < x ^ j := Nat.pow_pos (by omega)
  have hq : a < x ^ j * (a / x ^ j + 1) := by
    have h2 := Nat.div_add_mod a (x ^ j)
    have h3 := Nat.mod_lt a hX
    rw [Nat.mul_add, Nat.mul_one]
    omega
  have hm := means r x j
  refine Nat.le_of_lt_succ (Nat.lt_of_mul_lt_mul_right (a := x ^ j) ?_)
  generalize a / x ^ j = q at *
  generalize x ^ j = X at *
  have e1 : r * (j + 1) * X = (j + 1) * (r * X) := by ac_rfl
  have e2 : (x * j + q).succ * X = j * (x * X) + (q + 1) * X := by
    rw [Nat.succ_eq_add_one, Nat.add_assoc, Nat.add_mul]; congr 1; ac_rfl
  rw [e1, e2]
  have e3 : X * (q + 1) = (q + 1) * X := Nat.mul_comm _ _
  omega

theorem newton_lt {a k x : Nat} (h1 : 1 ≤ k) (hx : x ≠ 0) (h : a < x ^ k) : newton a k x < x := by
  obtain ⟨j, rfl⟩ : ∃ j, k = j + 1 := ⟨k - 1, by omega⟩
  unfold newton
  rw [Nat.add_sub_cancel, Nat.div_lt_iff_lt_mul (by omega)]
  have hX : 0 < x ^ j := Nat.pow_pos (by omega)
  have hq : a / x ^ j < x := by
    rw [Nat.div_lt_iff_lt_mul hX, Nat.mul_comm, ← Nat.pow_succ]
    exact h
  rw [Nat.mul_add, Nat.mul_one]
  omega

theorem newton_end {a k x : Nat} (h1 : 1 ≤ k) (hx : x ≠ 0) (h : x ^ k ≤ a) : x ≤ newton a k x := by
  obtain ⟨j, rfl⟩ : ∃ j, k = j + 1 := ⟨k - 1, by omega⟩
  unfold newton
  rw [Nat.add_sub_cancel, Nat.le_div_iff_mul_le (by omega)]
  have hX : 0 < x ^ j := Nat.pow_pos (by omega)
  have hq : x ≤ a / x ^ j := by
    rw [Nat.le_div_iff_mul_le hX, Nat.mul_comm, ← Nat.pow_succ]
    exact h
  rw [Nat.mul_add, Nat.mul_one]
  omega

/-- A power of 2 that is above the root. -/
theorem above_root {a k b : Nat} (h1 : 1 ≤ k) (ha : a < 2 ^ b) : a < (2 ^ ((b + k - 1) / k)) ^ k := by
  refine Nat.lt_of_lt_of_le ha ?_
  rw [← Nat.pow_mul]
  refine Nat.pow_le_pow_right (by omega) ?_
  have h2 := Nat.div_add_mod (b + k - 1) k
  have h3 := Nat.mod_lt (b + k - 1) (show k > 0 by omega)
  rw [Nat.mul_comm] at h2
  omega

theorem above_bits {k b m : Nat} (h1 : 1 ≤ k) (hk : k ≤ 16) (hb : b ≤ m) : (b + k - 1) / k * k ≤ m + 15 := by
  have := Nat.div_mul_le_self (b + k - 1) k
  omega

end Go.Proofs.YtccigpnebejbiaaGreat

/-
  The contracts of root's inner functions: isExponent, power, quotient, above.
-/
namespace Go.Proofs.YtccigpnebejbiaaGreat
set_option maxRecDepth 100000
open Go.RowKit

set_option maxHeartbeats 1000000 in
theorem isExp_yes (w : World) (k : Nat) (h1 : 1 ≤ k) (hk : k ≤ 16) : Calls Tryz.prog 90 #[.int .i64 (k : Int)] w fun e w' => e = .returned (.bool true) ∧ w = w' := by
  have d1 : decide (1 ≤ (k : Int)) = true := by simp; omega
  have d2 : decide ((k : Int) ≤ 16) = true := by simp; omega
  go_enter Tryz.func90, Tryz.ntmps90
  go_wp2
  go_ret
  exact ⟨rfl, rfl⟩
set_option maxHeartbeats 1000000 in
theorem isExp_no (w : World) (k : Int) (hk : k < 1 ∨ 16 < k) : Calls Tryz.prog 90 #[.int .i64 k] w fun e w' => e = .returned (.bool false) ∧ w = w' := by
  rcases hk with h | h
  · have d1 : decide (1 ≤ k) = false := by simp; omega
    go_enter Tryz.func90, Tryz.ntmps90
    go_wp2
    go_ret
    exact ⟨rfl, rfl⟩
  · have d1 : decide (1 ≤ k) = true := by simp; omega
    have d2 : decide (k ≤ 16) = false := by simp; omega
    go_enter Tryz.func90, Tryz.ntmps90
    go_wp2
    go_ret
    exact ⟨rfl, rfl⟩

set_option maxRecDepth 100000 in
set_option maxHeartbeats 2000000 in
theorem tpow_N {w : World} {A : Option Addr} {n c x k : Nat} (ha : Num w A n c x) (hx : (limbs x).length ≤ 1000) (hk : k ≤ 16) : Calls Tryz.prog 109 #[.slice A n c, .int .i64 (k : Int)] w (GotN w (x ^ k)) := by
  go_enter Tryz.func109, Tryz.ntmps109
  go_wp2_with fail
  refine (of_N w 1 B64_gt).mono ?_
  rintro e w1 ⟨A1, n1, c1, rfl, h1, b1⟩
  go_wp2_with fail
  go_loopw [5, 8] (fun ov iv wr => ∃ (j : Nat) (A' : Option Addr) (n' c' : Nat), j ≤ k ∧ iv = .int .i64 (j : Int) ∧ ov = .slice A' n' c' ∧ Num wr A' n' c' (x ^ j) ∧ Below w.heap.size w wr) (fun _ iv _ => k - (intOf iv).toNat)
  case atStart => exact ⟨0, A1, n1, c1, Nat.zero_le _, rfl, rfl, h1, b1⟩
  case round =>
    obtain ⟨j, A', n', c', hj, rfl, rfl, hN, hb⟩ := hrel
    have hl := limbs_length_pow hx j
    have ha' := ha.on hb
    by_cases hlt : j < k
    · have hl2 : (limbs (x ^ j)).length ≤ 1000000 := by omega
      clear hl
      go_wp2_with fail
      refine (mul_N hN ha' (by omega) (by omega)).mono ?_
      rintro e w2 ⟨A2, n2, c2, rfl, h2, b2⟩
      rw [← Nat.pow_succ] at h2
      go_wp2_with fail
      go_roundw
      case rel => exact ⟨j + 1, A2, n2, c2, by omega, by go_num, rfl, h2, hb.trans (b2.mono hb.size)⟩
      case measure => simp [intOf]; omega
    · obtain rfl : j = k := by omega
      clear hl
      go_wp2_with fail
      go_ret
      exact ⟨_, _, _, rfl, hN, hb⟩

set_option maxHeartbeats 1000000 in
theorem quot_N {w : World} {A B : Option Addr} {n c m d x y : Nat} (ha : Num w A n c x) (hb : Num w B m d y) (hx : (limbs x).length ≤ 300) (hy : (limbs y).length ≤ 300) (hy0 : y ≠ 0) : Calls Tryz.prog 108 #[.slice A n c, .slice B m d] w (GotN w (x / y)) := by
  go_enter Tryz.func108, Tryz.ntmps108
  go_wp2_with fail
  refine (ddiv_N ha hb hx hy hy0).mono ?_
  rintro e w1 ⟨A1, n1, c1, B1, m1, d1, rfl, h3, h4, b1⟩
  go_wp2_with fail
  go_ret
  exact ⟨_, _, _, rfl, h3, b1⟩

theorem wrap_one {r : Nat} (hr : r < 64) : IntKind.u64.wrap (2 ^ r) = (pw r : Int) := by
  have h1 := pw_lt hr
  rw [IntKind.wrap_u64]
  have e : ((2 : Int) ^ r) = ((pw r : Nat) : Int) := by unfold pw; simp
  rw [e]
  unfold B64 at h1
  omega

set_option maxRecDepth 100000 in
set_option maxHeartbeats 4000000 in
theorem above_N {w : World} {A : Option Addr} {n c x k : Nat} (ha : Num w A n c x) (hx : (limbs x).length ≤ 298) (h1 : 1 ≤ k) (hk : k ≤ 16) : Calls Tryz.prog 112 #[.slice A n c, .int .i64 (k : Int)] w (GotN w (2 ^ ((blen x + k - 1) / k))) := by
  obtain ⟨i0, hi, hz0, hz1, hz2⟩ := info_parts info24
  have hk0 : ¬ k = 0 := by omega
  obtain ⟨b, hb⟩ : ∃ b, blen x = b := ⟨_, rfl⟩
  have hb2 : b ≤ 19072 := by
    rw [← hb]
    exact blen_len hx
  obtain ⟨q, hq⟩ : ∃ q, q = (b + k - 1) / k := ⟨_, rfl⟩
  have hq2 : q ≤ 19200 := by rw [hq]; exact Nat.le_trans (Nat.div_le_self _ _) (by omega)
  obtain ⟨s, hs⟩ : ∃ s, s = q / 64 := ⟨_, rfl⟩
  obtain ⟨r, hr⟩ : ∃ r, r = q % 64 := ⟨_, rfl⟩
  have hr2 : r < 64 := by omega
  have hs2 : s ≤ 300 := by omega
  have hw' : ((b : Int) + (k : Int) - 1) / (k : Int) = (q : Int) := by
    rw [hq, Int.natCast_ediv]
    congr 1
    omega
  have hws' : (q : Int) / 64 = (s : Int) := by omega
  have hwr' : (q : Int) % 64 = (r : Int) := by omega
  have HONE := Lib.hid (wrap_one hr2)
  have hl : (List.replicate (s + 1) 0).set s (pw r) = limbs (2 ^ q) := by rw [hs, hr]; exact pw_limbs q
  rw [hb, ← hq]
  have HB := Lib.hid hb
  have HLL := Lib.hid hl
  clear hb hq hs hr hl
  go_enter Tryz.func112, Tryz.ntmps112
  go_wp2_with fail
  refine (bits_N ha (by omega)).mono ?_
  rintro e w1 ⟨rfl, b1⟩
  rw [HB.out]
  obtain ⟨t, ht⟩ : ∃ t, w1.heap.size = t := ⟨_, rfl⟩
  have HS := Lib.hid ht
  clear ht
  have hr3 : (0 : Int) ≤ (r : Int) := by omega
  have hr4 : (r : Int) ≤ 64 := by omega
  go_wp2_with (at_make; refine wpList_make_full _ rfl _ _ 29 rfl t 44 i0 (.int .u64 0) 1 Tryz.underlying29 hi hz0 hz1 .i64 .i64 _ _ (s + 1) rfl rfl (by omega) (by omega) (by rw [hz2]; omega) (by unfold maxLen; omega) (by rw [HS.out]; omega) ?_; intro w2 hown1 hgrow1; rw [made_zeros] at hown1; rw [HS.out] at hown1 ⊢; have hf := hown1.frozenAt s; have hc : w2.cell? ⟨t, s, none⟩ = some (.int .u64 0) := (by rw [hown1.cellAt s (by omega)]; simp [encD]); have hst := Lib.hid (hown1.stored s (.int .u64 (pw r : Int))); have HO := Lib.hid hown1; clear hown1)
  go_ret
  rw [HONE.out]
  have hrow := hst.out.1
  rw [show (Value.int IntKind.u64 (pw r : Int)) = encD (pw r) from rfl, ← List.map_set, HLL.out] at hrow
  refine ⟨_, _, _, rfl, Lim.of_own hrow (limbs_dig _), ?_⟩
  have hsz := HS.out
  exact b1.trans ((((Below.refl t w1).grown hgrow1 (by omega) (fun k h => by cases h)).grown hst.out.2 (by have := hgrow1.size; omega) (fun q e => by cases e; exact Nat.le_refl _)).mono (by have := b1.size; omega))

end Go.Proofs.YtccigpnebejbiaaGreat

/-
  The contracts of root's guesses: the closure, goDown, rootOf; and of Root, Up, Pow.
-/
namespace Go.Proofs.YtccigpnebejbiaaGreat
set_option maxRecDepth 100000
open Go.RowKit

theorem undrew3 {W w' : World} (hb : Below W.drew.heap.size W.drew w') : Below W.heap.size W w' := ⟨hb.os, hb.tape, hb.output, hb.size, hb.block⟩

set_option maxRecDepth 100000 in
set_option maxHeartbeats 4000000 in
theorem newt_N {w : World} {A X : Option Addr} {n c m d a x k ba bk : Nat} (hcA : w.cell? ⟨ba, 0, none⟩ = some (.slice A n c)) (hcK : w.cell? ⟨bk, 0, none⟩ = some (.int .i64 (k : Int))) (hba : ba < w.heap.size) (hbk : bk < w.heap.size) (ha : Num w A n c a) (hx : Num w X m d x) (la : (limbs a).length ≤ 299) (lx : (limbs x).length ≤ 299) (lp : (limbs (x ^ (k - 1))).length ≤ 300) (h1 : 1 ≤ k) (hk : k ≤ 16) (hx0 : x ≠ 0) (ls : (limbs (x * (k - 1) + a / x ^ (k - 1))).length ≤ 300) :
    Calls Tryz.prog 107 #[.slice X m d, .pointer (some ⟨ba, 0, none⟩), .pointer (some ⟨bk, 0, none⟩)] w (GotN w (newton a k x)) := by
  unfold newton
  obtain ⟨j, hj⟩ : ∃ j, k - 1 = j := ⟨_, rfl⟩
  rw [hj] at lp ls ⊢
  have hji : (k : Int) - 1 = (j : Int) := by omega
  have hjv : IntKind.i64.wrap (j : Int) = (j : Int) := IntWalk.i64_in _ (by omega)
  have hjw : IntKind.u64.wrap (j : Int) = (j : Int) := by rw [IntKind.wrap_u64]; omega
  have hkw : IntKind.u64.wrap (k : Int) = (k : Int) := by rw [IntKind.wrap_u64]; omega
  have hjk : j ≤ 16 := by omega
  have hp0 : x ^ j ≠ 0 := by have : 0 < x ^ j := Nat.pow_pos (by omega); omega
  have hk0 : k ≠ 0 := by omega
  have lq : (limbs (a / x ^ j)).length ≤ 300 := Nat.le_trans (limbs_length_mono (Nat.div_le_self _ _)) (by omega)
  have lk : (limbs k).length ≤ 1 := limbs_length_le (by rw [Nat.pow_one]; unfold B64; omega)
  have ljj : (limbs j).length ≤ 1 := limbs_length_le (by rw [Nat.pow_one]; unfold B64; omega)
  have lxj : (limbs (x * j)).length ≤ 300 := limbs_length_mul lx ljj
  have hkB : k < B64 := by unfold B64; omega
  have hjB : j < B64 := by unfold B64; omega
  have hD := below_drewN (Below.refl w.heap.size w) 1
  have haD : Num w.drew A n c a := ha.on hD
  have hxD : Num w.drew X m d x := hx.on hD
  clear hj hD
  go_enter Tryz.func107, Tryz.ntmps107
  go_wp2_with fail
  go_region_held3 (fun w' => w'.cell? ⟨ba, 0, none⟩ = some (.slice A n c) ∧ w'.cell? ⟨bk, 0, none⟩ = some (.int .i64 (k : Int)))
    (first | go_keep | exact ⟨cK qq hcA hba, cK qq hcK hbk⟩)
    (first
      | (go_at_call 109; (with_reducible refine (tpow_N hxD (by omega) hjk).mono ?_); rintro e v1 ⟨A1, n1, c1, rfl, h3, q1⟩; have qq := undrew3 q1; replace haD := haD.on q1; clear q1)
      | (go_at_call 108; (with_reducible refine (quot_N haD h3 (by omega) lp hp0).mono ?_); rintro e v2 ⟨A2, n2, c2, rfl, h4, q2⟩; replace qq := bK qq q2; clear q2))
  have hxV := hx.on qq
  have f2 := cK qq hcK hbk
  have hbk2 := Nat.lt_of_lt_of_le hbk qq.size
  clear haD hxD h3
  go_wp2_with fail
  refine (of_N _ j hjB).mono ?_
  rintro e v3 ⟨A3, n3, c3, rfl, h5, q3⟩
  replace hxV := hxV.on q3
  replace h4 := h4.on q3
  replace f2 := cK q3 f2 hbk2
  replace hbk2 := lK q3 hbk2
  replace qq := bK qq q3
  clear q3
  go_wp2_with fail
  refine (mul_N hxV h5 (by omega) (by omega)).mono ?_
  rintro e v4 ⟨A4, n4, c4, rfl, h6, q4⟩
  replace h4 := h4.on q4
  replace f2 := cK q4 f2 hbk2
  replace hbk2 := lK q4 hbk2
  replace qq := bK qq q4
  clear q4 h5
  go_wp2_with fail
  refine (add_N h6 h4 (by omega) (by omega)).mono ?_
  rintro e v5 ⟨A5, n5, c5, rfl, h7, q5⟩
  replace f2 := cK q5 f2 hbk2
  replace hbk2 := lK q5 hbk2
  replace qq := bK qq q5
  clear q5 h6 h4
  go_wp2_with fail
  refine (of_N _ k hkB).mono ?_
  rintro e v6 ⟨A6, n6, c6, rfl, h8, q6⟩
  replace h7 := h7.on q6
  replace qq := bK qq q6
  clear q6
  go_wp2_with fail
  refine (quot_N h7 h8 ls (by omega) hk0).mono ?_
  rintro e v7 ⟨A7, n7, c7, rfl, h9, q7⟩
  go_wp2_with fail
  go_ret
  exact ⟨_, _, _, rfl, h9, qq.trans (q7.mono qq.size)⟩

end Go.Proofs.YtccigpnebejbiaaGreat

/-
  The contracts of root's guesses that go down, and of rootOf.
-/
namespace Go.Proofs.YtccigpnebejbiaaGreat
set_option maxRecDepth 100000
open Go.RowKit

theorem sum_len {a x k : Nat} (la : (limbs a).length ≤ 100) (lx : (limbs x).length ≤ 110) (hk : k ≤ 16) (p : Nat) : (limbs (x * (k - 1) + a / p)).length ≤ 300 := by
  have h1 : (limbs (k - 1)).length ≤ 1 := limbs_length_le (by rw [Nat.pow_one]; unfold B64; omega)
  have h2 := limbs_length_mul lx h1
  have h3 : (limbs (a / p)).length ≤ 111 := Nat.le_trans (limbs_length_mono (Nat.div_le_self _ _)) (by omega)
  have h4 := limbs_length_add (k := 111) h2 h3
  omega

theorem iroot_ne {k a : Nat} (h1 : 1 ≤ k) (ha : a ≠ 0) : iroot k a ≠ 0 := by
  have := (le_iroot (k := k) (x := a) (r := 1) (by omega)).2 (by rw [Nat.one_pow]; omega)
  omega

set_option maxRecDepth 100000 in
set_option maxHeartbeats 4000000 in
theorem down_N {w : World} {A X : Option Addr} {n c m d a x0 k ba bk : Nat} (hcA : w.cell? ⟨ba, 0, none⟩ = some (.slice A n c)) (hcK : w.cell? ⟨bk, 0, none⟩ = some (.int .i64 (k : Int))) (hba : ba < w.heap.size) (hbk : bk < w.heap.size) (ha : Num w A n c a) (hx : Num w X m d x0) (la : (limbs a).length ≤ 100) (lx : (limbs x0).length ≤ 110) (lp : (limbs (x0 ^ (k - 1))).length ≤ 300) (h1 : 1 ≤ k) (hk : k ≤ 16) (ha0 : a ≠ 0) (hx0 : iroot k a ≤ x0) :
    Calls Tryz.prog 111 #[.slice X m d, .func (.func 107) #[] #[.pointer (some ⟨ba, 0, none⟩), .pointer (some ⟨bk, 0, none⟩)]] w (GotN w (iroot k a)) := by
  have hr0 := iroot_ne h1 ha0
  have hk0 : k ≠ 0 := by omega
  go_enter Tryz.func111, Tryz.ntmps111
  go_wp2_with fail
  go_loopg [0] x0 (fun g v wr => ∃ (X' : Option Addr) (m' d' : Nat), v = .slice X' m' d' ∧ Num wr X' m' d' g ∧ iroot k a ≤ g ∧ g ≤ x0 ∧ Below w.heap.size w wr)
  case atStart => exact ⟨X, m, d, rfl, hx, hx0, Nat.le_refl _, Below.refl _ _⟩
  case round =>
    obtain ⟨X', m', d', rfl, hN, hge, hle, hB⟩ := hrel
    have hg0 : gk ≠ 0 := by omega
    have lg : (limbs gk).length ≤ 110 := Nat.le_trans (limbs_length_mono hle) lx
    have lgp : (limbs (gk ^ (k - 1))).length ≤ 300 := Nat.le_trans (limbs_length_mono (pow_le _ hle)) lp
    have hn1 := newton_ge h1 (iroot_pow a hk0) hg0
    have lnn : (limbs (newton a k gk)).length ≤ 400 := by
      unfold newton
      exact Nat.le_trans (limbs_length_mono (Nat.div_le_self _ _)) (Nat.le_trans (sum_len la lg hk _) (by omega))
    have hcall := Lib.hid (newt_N (cK hB hcA hba) (cK hB hcK hbk) (Nat.lt_of_lt_of_le hba hB.size) (Nat.lt_of_lt_of_le hbk hB.size) (ha.on hB) hN (by omega) (by omega) lgp h1 hk hg0 (sum_len la lg hk _))
    clear lgp
    rcases Nat.lt_or_ge a (gk ^ k) with hlt | hge2
    · have hl2 := newton_lt h1 hg0 hlt
      obtain ⟨y, hy⟩ : ∃ y, newton a k gk = y := ⟨_, rfl⟩
      rw [hy] at hcall hn1 hl2 lnn
      clear hy hlt
      go_wp2_with fail
      refine hcall.out.mono ?_
      rintro e w1 ⟨A1, n1, c1, rfl, h3, b1⟩
      have hN1 := hN.on b1
      go_wp2_with fail
      refine (cmp_N h3 hN1 (by omega) (by omega)).mono ?_
      rintro e w2 ⟨rfl, b2⟩
      rw [cmpN_lt hl2]
      go_wp2_with fail
      go_roundg y
      case rel => exact ⟨_, _, _, rfl, h3.on b2, hn1, by omega, hB.trans ((b1.trans (b2.mono b1.size)).mono hB.size)⟩
      case measure => exact hl2
    · have hl2 := newton_end h1 hg0 hge2
      have he : iroot k a = gk := by have := (le_iroot hk0).2 hge2; omega
      rw [he]
      have hz : cmpN (newton a k gk) gk = 0 ∨ cmpN (newton a k gk) gk = 1 := by
        rcases Nat.lt_or_ge gk (newton a k gk) with h | h
        · exact .inr (cmpN_gt h)
        · exact .inl (cmpN_zero.2 (by omega))
      obtain ⟨y, hy⟩ : ∃ y, newton a k gk = y := ⟨_, rfl⟩
      rw [hy] at hcall hn1 hl2 lnn hz
      obtain ⟨z, hzz⟩ : ∃ z, cmpN y gk = z := ⟨_, rfl⟩
      rw [hzz] at hz
      have HZ := Lib.hid hzz
      have HC := Lib.hid hz
      clear hy hge2 he hz hzz
      go_wp2_with fail
      refine hcall.out.mono ?_
      rintro e w1 ⟨A1, n1, c1, rfl, h3, b1⟩
      have hN1 := hN.on b1
      go_wp2_with fail
      refine (cmp_N h3 hN1 (by omega) (by omega)).mono ?_
      rintro e w2 ⟨rfl, b2⟩
      rw [HZ.out]
      rcases HC.out with rfl | rfl
      all_goals
        go_wp2_with fail
        go_ret
        exact ⟨_, _, _, rfl, hN1.on b2, hB.trans ((b1.trans (b2.mono b1.size)).mono hB.size)⟩

end Go.Proofs.YtccigpnebejbiaaGreat

/-
  The contract of rootOf.
-/
namespace Go.Proofs.YtccigpnebejbiaaGreat
set_option maxRecDepth 100000
open Go.RowKit

theorem iroot_zero {k : Nat} (hk : k ≠ 0) : iroot k 0 = 0 := iroot_eq hk (by rw [Nat.zero_pow (by omega)]; omega) (by rw [Nat.zero_add, Nat.one_pow]; omega)

set_option maxRecDepth 100000 in
set_option maxHeartbeats 4000000 in
theorem rootof_N {w : World} {A : Option Addr} {n c x k : Nat} (ha : Num w A n c x) (hx : (limbs x).length ≤ 100) (h1 : 1 ≤ k) (hk : k ≤ 16) : Calls Tryz.prog 91 #[.slice A n c, .int .i64 (k : Int)] w (GotN w (iroot k x)) := by
  have hk0 : k ≠ 0 := by omega
  obtain ⟨W, hW⟩ : ∃ W, (w.alloc (.cells #[.slice A n c] 29)).alloc (.cells #[.int .i64 (k : Int)] 3) = W := ⟨_, rfl⟩
  obtain ⟨t, ht⟩ : ∃ t, w.heap.size = t := ⟨_, rfl⟩
  have hBW : Below t w W := by
    rw [← hW, ← ht]
    exact ((Below.refl _ w).alloc (Nat.le_refl _) _).alloc (by simp) _
  have hS : W.heap.size = t + 2 := by rw [← hW, ← ht]; simp
  have c1 : W.cell? ⟨t, 0, none⟩ = some (.slice A n c) := by rw [← hW, ← ht]; simp [go_sem]
  have c2 : W.cell? ⟨t + 1, 0, none⟩ = some (.int .i64 (k : Int)) := by rw [← hW, ← ht]; simp [go_sem]
  have f1 : W.frozen? ⟨t, 0, none⟩ = false := by rw [← hW, ← ht]; simp [go_sem]
  have haW := ha.on (by rw [ht]; exact hBW)
  have hshr0 : Calls Tryz.prog 106 #[.slice A n c, .int .i64 0] W (GotP W (x / 2 ^ 0) 0) := dshr_N (k := 0) haW (by omega) (by omega)
  have hshr := Lib.hid hshr0
  have HT := Lib.hid ht
  have HS := Lib.hid hS
  unfold GotN
  go_enter Tryz.func91, Tryz.ntmps91
  clear hS hshr0
  go_wp2_with fail
  clear hW ht
  refine hshr.out.mono ?_
  rintro e w1 ⟨A1, n1, m1, rfl, h3, b1⟩
  rw [Nat.pow_zero, Nat.div_one] at h3
  have d1 := (b1.cell (p := ⟨t, 0, none⟩) (by show t < _; rw [HS.out]; omega)).trans c1
  have d2 := (b1.cell (p := ⟨t + 1, 0, none⟩) (by show t + 1 < _; rw [HS.out]; omega)).trans c2
  have g1 := (b1.frozen (p := ⟨t, 0, none⟩) (by show t < _; rw [HS.out]; omega)).trans f1
  have hs1 : t + 2 ≤ w1.heap.size := by have := b1.size; rw [HS.out] at this; exact this
  have hB1 : Below t w w1 := hBW.trans (b1.mono (by rw [HS.out]; omega))
  clear c1 c2 f1 hBW b1 hshr haW
  have hl3 := h3.len
  by_cases hx0 : x = 0
  · subst hx0
    rw [limbs_zero] at hl3
    simp at hl3
    subst hl3
    go_wp2_with fail
    go_ret
    exact ⟨none, 0, 0, rfl, by rw [iroot_zero hk0]; exact num_none _ _ _, by rw [HT.out]; exact hB1.setCell (Nat.le_refl _) _⟩
  · have hn0 : ((n1 : Int) == 0) = false := by have := limbs_ne_nil hx0; simp; omega
    obtain ⟨w2, hw2⟩ : ∃ w2, w1.setCell ⟨t, 0, none⟩ (.slice A1 n1 m1) = w2 := ⟨_, rfl⟩
    have h3' : Num w2 A1 n1 m1 x := by rw [← hw2]; exact h3.set_other d1 (fun _ _ e => by cases e)
    have e1 : w2.cell? ⟨t, 0, none⟩ = some (.slice A1 n1 m1) := by rw [← hw2]; exact World.cell?_setCell_same _ _ _ d1
    have e2 : w2.cell? ⟨t + 1, 0, none⟩ = some (.int .i64 (k : Int)) := by rw [← hw2, World.cell?_setCell_other (h := fun e => by injection e with e3; omega)]; exact d2
    have hs2 : t + 2 ≤ w2.heap.size := by rw [← hw2]; simp; exact hs1
    have hB2 : Below t w w2 := by rw [← hw2]; exact hB1.setCell (Nat.le_refl _) _
    obtain ⟨q, hq⟩ : ∃ q, (blen x + k - 1) / k = q := ⟨_, rfl⟩
    have hbl := blen_len hx
    have hqk : q * k ≤ 6400 + 15 := by rw [← hq]; exact above_bits h1 hk (by omega)
    have hq1 : q ≤ 6415 := Nat.le_trans (Nat.le_mul_of_pos_right q (by omega)) hqk
    have hqp : q * (k - 1) ≤ 6415 := Nat.le_trans (Nat.mul_le_mul_left q (by omega)) hqk
    have lq : (limbs (2 ^ q)).length ≤ 110 := Nat.le_trans (limbs_two_pow (m := 110) (by omega)) (Nat.le_refl _)
    have lp : (limbs ((2 ^ q) ^ (k - 1))).length ≤ 300 := by rw [← Nat.pow_mul]; exact limbs_two_pow (m := 300) (by omega)
    have hge : iroot k x ≤ 2 ^ q := by
      rcases Nat.lt_or_ge (2 ^ q) (iroot k x) with h | h
      · have h5 := above_root (a := x) h1 (lt_blen x)
        rw [hq] at h5
        have h6 := pow_lt hk0 h
        have h7 := iroot_pow x hk0
        omega
      · exact h
    have hab : Calls Tryz.prog 112 #[.slice A1 n1 m1, .int .i64 (k : Int)] w2 (GotN w2 (2 ^ q)) := by rw [← hq]; exact above_N h3' (by omega) h1 hk
    have HAB := Lib.hid hab
    have HQ := Lib.hid hq
    clear hl3 hq h3 d2 hbl hqk hqp hab
    go_wp2_with fail
    clear d1
    refine HAB.out.mono ?_
    rintro e w3 ⟨A3, n3, c3, rfl, h4, b3⟩
    have hd := down_N ((b3.cell (p := ⟨t, 0, none⟩) (by show t < _; omega)).trans e1) ((b3.cell (p := ⟨t + 1, 0, none⟩) (by show t + 1 < _; omega)).trans e2) (Nat.lt_of_lt_of_le (show t < _ by omega) b3.size) (Nat.lt_of_lt_of_le (show t + 1 < _ by omega) b3.size) (h3'.on b3) h4 hx lq lp h1 hk hx0 hge
    have HD := Lib.hid hd
    have hB3 := hB2.trans (b3.mono (by omega))
    clear hd e1 e2 hw2
    go_wp2_with fail
    refine HD.out.mono ?_
    rintro e w4 ⟨A4, n4, c4, rfl, h5, b4⟩
    go_wp2_with fail
    go_ret
    exact ⟨_, _, _, rfl, h5, by rw [HT.out]; exact hB3.trans (b4.mono (by have := b3.size; omega))⟩

end Go.Proofs.YtccigpnebejbiaaGreat

/-
  The contracts of package root in one style, over numbers.
-/
namespace Go.Proofs.YtccigpnebejbiaaGreat
set_option maxRecDepth 100000
open Go.RowKit

set_option maxHeartbeats 1000000 in
theorem root_N {w : World} {A : Option Addr} {n c x k : Nat} (ha : Num w A n c x) (hx : (limbs x).length ≤ 100) (h1 : 1 ≤ k) (hk : k ≤ 16) : Calls Tryz.prog 56 #[.slice A n c, .int .i64 (k : Int)] w (GotP w (iroot k x) 0) := by
  go_enter Tryz.func56, Tryz.ntmps56
  go_wp2_with fail
  refine (isExp_yes _ k h1 hk).mono ?_
  rintro e w' ⟨rfl, rfl⟩
  go_wp2_with fail
  refine (rootof_N ha hx h1 hk).mono ?_
  rintro e w1 ⟨A1, n1, c1, rfl, hr, b1⟩
  go_wp2_with fail
  go_ret2
  exact ⟨_, _, _, rfl, hr, b1⟩
set_option maxHeartbeats 1000000 in
theorem root_no (w : World) (A : Option Addr) (n c : Nat) (k : Int) (hk : k < 1 ∨ 16 < k) : Calls Tryz.prog 56 #[.slice A n c, .int .i64 k] w (GotV w (.tuple #[.slice none 0 0, .int .i64 1])) := by
  have HK := Lib.hid hk
  clear hk
  go_enter Tryz.func56, Tryz.ntmps56
  go_wp2_with fail
  refine (isExp_no _ k HK.out).mono ?_
  rintro e w' ⟨rfl, rfl⟩
  go_wp2_with fail
  go_ret2
  exact ⟨rfl, Below.refl _ _⟩

theorem uroot_lt {k x : Nat} (h : iroot k x ^ k ≠ x) : uroot k x = iroot k x + 1 := by unfold uroot; rw [if_neg h]
theorem uroot_eq {k x : Nat} (h : iroot k x ^ k = x) : uroot k x = iroot k x := by unfold uroot; rw [if_pos h]

end Go.Proofs.YtccigpnebejbiaaGreat

/-
  The contracts of dyad: rounded.
-/
namespace Go.Proofs.YtccigpnebejbiaaGreat
set_option maxRecDepth 100000
open Go.RowKit
set_option linter.unusedVariables false
set_option linter.unusedSimpArgs false

set_option maxRecDepth 100000 in
set_option maxHeartbeats 8000000 in
theorem rdnea_ff {w : World} {b0 : Bool} {A0 B0 : Option Addr} {n0 c0 m0 d0 : Nat} {g : Nat} {x0 : Rat} (hx : Rt w b0 A0 n0 c0 B0 m0 d0 x0) (s0 : Sz x0 20) {j : Int} (h0 : 0 ≤ j) (h1 : j ≤ 500) (hg : BoxR w g b0 A0 n0 c0 B0 m0 d0) (hs : ¬ x0.num < 0) (ht : fars (x0.num.natAbs * 2 ^ j.toNat) x0.den = false) :
    Calls Tryz.prog 60 #[.agg #[.bool b0, .slice A0 n0 c0, .slice B0 m0 d0], .int .i64 j, .func (.func 61) #[] #[.pointer (some ⟨g, 0, none⟩)]] w (GotZp w (nea x0 j.toNat) 0) := by
  have je := to_nat h0
  have jl : j.toNat ≤ 500 := by omega
  have hj2 : j ≤ 2000 := by omega
  obtain ⟨k, hk⟩ : ∃ k, j.toNat = k := ⟨_, rfl⟩
  rw [hk] at je jl ht ⊢
  have lk := len_pow2 jl
  have p0 := hx.1.1
  have q0 := hx.2
  have hb0 : b0 = false := by rw [hx.1.2]; exact decide_eq_false hs
  subst hb0
  have lp := s0.1
  have lq := s0.2
  have hq0 := x0.den_nz
  have lu : (limbs (x0.num.natAbs * 2 ^ k)).length ≤ 28 := limbs_length_mul lp lk
  have ld : (limbs (x0.num.natAbs * 2 ^ k / x0.den)).length ≤ 28 := Nat.le_trans (limbs_length_mono (Nat.div_le_self _ _)) lu
  have hlt := Nat.mod_lt (x0.num.natAbs * 2 ^ k) (Nat.pos_of_ne_zero hq0)
  have lr : (limbs (x0.num.natAbs * 2 ^ k % x0.den)).length ≤ 20 := Nat.le_trans (limbs_length_mono (Nat.le_of_lt hlt)) lq
  clear hlt
  have HF : nea x0 k = (((x0.num.natAbs * 2 ^ k / x0.den : Nat) : Nat) : Int) := by rw [nea_pos x0 k hs, if_neg (by rw [ht]; decide), Nat.add_zero]
  have CK : ∀ {W : World} {A B : Option Addr} {n c m d : Nat}, W.cell? ⟨g, 0, none⟩ = some (.bool false) → W.cell? ⟨g, 1, none⟩ = some (.slice A0 n0 c0) → W.cell? ⟨g, 2, none⟩ = some (.slice B0 m0 d0) → Num W A n c (x0.num.natAbs * 2 ^ k / x0.den) → Num W B m d (x0.num.natAbs * 2 ^ k % x0.den) → Num W B0 m0 d0 x0.den → Calls Tryz.prog 61 #[.slice A n c, .slice B m d, .pointer (some ⟨g, 0, none⟩)] W (GotV W (.bool false)) := fun r0 r1 r2 ha hb hq => by rw [← ht]; exact knear_N r0 r1 r2 ha hb hq (by omega) (by omega)
  obtain ⟨u, hU⟩ : ∃ u, x0.num.natAbs * 2 ^ k = u := ⟨_, rfl⟩
  obtain ⟨t, hT⟩ : ∃ t, x0.num.natAbs * 2 ^ k / x0.den = t := ⟨_, rfl⟩
  obtain ⟨l, hL⟩ : ∃ l, x0.num.natAbs * 2 ^ k % x0.den = l := ⟨_, rfl⟩
  rw [hT, hL] at CK
  rw [hT] at HF ld
  rw [hL] at lr
  rw [hU] at lu hT hL
  have CU : ∀ {W : World} {A : Option Addr} {m c : Nat}, Num W A m c x0.num.natAbs → Calls Tryz.prog 55 #[.slice A m c, .int .i64 j] W (GotP W u 0) := fun ha => by rw [← je, ← hU]; exact dshl_N ha (by omega) (by omega)
  have CD : ∀ {W : World} {A B : Option Addr} {n c m d : Nat}, Num W A n c u → Num W B m d x0.den → Calls Tryz.prog 92 #[.slice A n c, .slice B m d] W (GotD W t l) := fun ha hb => by rw [← hT, ← hL]; exact ddiv_N ha hb (by omega) (by omega) hq0
  have HV := Lib.hid HF
  clear HF hU hT hL hs ht lu
  obtain ⟨r0, r1, r2⟩ := hg
  have rl := cell_lt r0
  simp only at rl
  have cc := Below.refl w.heap.size w
  go_enter Tryz.func60, Tryz.ntmps60
  go_wp2_with fail
  have f0 : ((w.alloc (.cells #[.bool false, .slice A0 n0 c0, .slice B0 m0 d0] 33)).alloc (.cells #[.bool false, .slice none 0 0] 31)).frozen? ⟨w.heap.size + 1, 0, none⟩ = false := by simp [go_sem]
  have f1 : ((w.alloc (.cells #[.bool false, .slice A0 n0 c0, .slice B0 m0 d0] 33)).alloc (.cells #[.bool false, .slice none 0 0] 31)).frozen? ⟨w.heap.size + 1, 1, none⟩ = false := by simp [go_sem]
  have bA : Below w.heap.size w ((w.alloc (.cells #[.bool false, .slice A0 n0 c0, .slice B0 m0 d0] 33)).alloc (.cells #[.bool false, .slice none 0 0] 31)) := (((Below.refl _ w).alloc (by simp) _).alloc (by simp) _)
  replace p0 := p0.on bA
  replace q0 := q0.on bA
  replace r0 := cK bA r0 rl
  replace r1 := cK bA r1 rl
  replace r2 := cK bA r2 rl
  replace rl := lK bA rl
  replace cc := bK cc bA
  clear bA
  have k0 : ((w.alloc (.cells #[.bool false, .slice A0 n0 c0, .slice B0 m0 d0] 33)).alloc (.cells #[.bool false, .slice none 0 0] 31)).cell? ⟨w.heap.size, 0, none⟩ = some (.bool false) := by simp [go_sem]
  have k1 : ((w.alloc (.cells #[.bool false, .slice A0 n0 c0, .slice B0 m0 d0] 33)).alloc (.cells #[.bool false, .slice none 0 0] 31)).cell? ⟨w.heap.size, 1, none⟩ = some (.slice A0 n0 c0) := by simp [go_sem]
  have k2 : ((w.alloc (.cells #[.bool false, .slice A0 n0 c0, .slice B0 m0 d0] 33)).alloc (.cells #[.bool false, .slice none 0 0] 31)).cell? ⟨w.heap.size, 2, none⟩ = some (.slice B0 m0 d0) := by simp [go_sem]
  have kl : w.heap.size < ((w.alloc (.cells #[.bool false, .slice A0 n0 c0, .slice B0 m0 d0] 33)).alloc (.cells #[.bool false, .slice none 0 0] 31)).heap.size := by simp <;> omega
  have g0 : ((w.alloc (.cells #[.bool false, .slice A0 n0 c0, .slice B0 m0 d0] 33)).alloc (.cells #[.bool false, .slice none 0 0] 31)).cell? ⟨w.heap.size + 1, 0, none⟩ = some (.bool false) := by simp [go_sem]
  have g1 : ((w.alloc (.cells #[.bool false, .slice A0 n0 c0, .slice B0 m0 d0] 33)).alloc (.cells #[.bool false, .slice none 0 0] 31)).cell? ⟨w.heap.size + 1, 1, none⟩ = some (.slice none 0 0) := by simp [go_sem]
  have gl : w.heap.size + 1 < ((w.alloc (.cells #[.bool false, .slice A0 n0 c0, .slice B0 m0 d0] 33)).alloc (.cells #[.bool false, .slice none 0 0] 31)).heap.size := by simp <;> omega
  generalize (w.alloc (.cells #[.bool false, .slice A0 n0 c0, .slice B0 m0 d0] 33)).alloc (.cells #[.bool false, .slice none 0 0] 31) = v1 at *
  refine (isgrid_2 _ h0 hj2).mono ?_
  rintro e w2 ⟨rfl, b⟩
  replace f0 := fK b f0 gl
  replace f1 := fK b f1 gl
  replace p0 := p0.on b
  replace q0 := q0.on b
  replace r0 := cK b r0 rl
  replace r1 := cK b r1 rl
  replace r2 := cK b r2 rl
  replace rl := lK b rl
  replace k0 := cK b k0 kl
  replace k1 := cK b k1 kl
  replace k2 := cK b k2 kl
  replace kl := lK b kl
  replace g0 := cK b g0 gl
  replace g1 := cK b g1 gl
  replace gl := lK b gl
  replace cc := bK cc b
  clear b
  go_wp2_with fail
  refine (CU p0).mono ?_
  rintro e w3 ⟨Av, nv, cv, rfl, v, b⟩
  replace f0 := fK b f0 gl
  replace f1 := fK b f1 gl
  replace p0 := p0.on b
  replace q0 := q0.on b
  replace r0 := cK b r0 rl
  replace r1 := cK b r1 rl
  replace r2 := cK b r2 rl
  replace rl := lK b rl
  replace k0 := cK b k0 kl
  replace k1 := cK b k1 kl
  replace k2 := cK b k2 kl
  replace kl := lK b kl
  replace g0 := cK b g0 gl
  replace g1 := cK b g1 gl
  replace gl := lK b gl
  replace cc := bK cc b
  clear b
  go_wp2_with fail
  refine (CD v q0).mono ?_
  rintro e w4 ⟨Aq, nq, cq, Ar, nr_, cr, rfl, dq, dr, b⟩
  replace f0 := fK b f0 gl
  replace f1 := fK b f1 gl
  replace p0 := p0.on b
  replace q0 := q0.on b
  replace v := v.on b
  replace r0 := cK b r0 rl
  replace r1 := cK b r1 rl
  replace r2 := cK b r2 rl
  replace rl := lK b rl
  replace k0 := cK b k0 kl
  replace k1 := cK b k1 kl
  replace k2 := cK b k2 kl
  replace kl := lK b kl
  replace g0 := cK b g0 gl
  replace g1 := cK b g1 gl
  replace gl := lK b gl
  replace cc := bK cc b
  clear b
  go_wp2_with fail
  refine (CK r0 r1 r2 dq dr q0).mono ?_
  rintro e w5 ⟨rfl, b⟩
  replace f0 := fK b f0 gl
  replace f1 := fK b f1 gl
  replace p0 := p0.on b
  replace q0 := q0.on b
  replace v := v.on b
  replace dq := dq.on b
  replace dr := dr.on b
  replace r0 := cK b r0 rl
  replace r1 := cK b r1 rl
  replace r2 := cK b r2 rl
  replace rl := lK b rl
  replace k0 := cK b k0 kl
  replace k1 := cK b k1 kl
  replace k2 := cK b k2 kl
  replace kl := lK b kl
  replace g0 := cK b g0 gl
  replace g1 := cK b g1 gl
  replace gl := lK b gl
  replace cc := bK cc b
  clear b
  have hn : Zn w5 false Aq nq cq (nea x0 k) := by rw [HV.out]; exact zn_nat dq
  have eb : Box w5 (w.heap.size + 1) false none 0 0 := ⟨g0, g1⟩
  have HZ : Hid (Zn ((w5.setCell ⟨w.heap.size + 1, 0, none⟩ (.bool false)).setCell ⟨w.heap.size + 1, 1, none⟩ (.slice Aq nq cq)) false Aq nq cq (nea x0 k)) := Lib.hid (hn.put eb _ _)
  clear hn
  go_wp2_with fail
  refine bodyPost_ret (v := .tuple #[.agg #[.bool false, .slice Aq nq cq], .int .i64 0]) (by simp [results, Tryz.results60, go_sem, g0, g1]) rfl ⟨_, _, _, _, rfl, HZ.out, below_put cc (by omega) _ _⟩

set_option maxRecDepth 100000 in
set_option maxHeartbeats 8000000 in
theorem rdnea_ft {w : World} {b0 : Bool} {A0 B0 : Option Addr} {n0 c0 m0 d0 : Nat} {g : Nat} {x0 : Rat} (hx : Rt w b0 A0 n0 c0 B0 m0 d0 x0) (s0 : Sz x0 20) {j : Int} (h0 : 0 ≤ j) (h1 : j ≤ 500) (hg : BoxR w g b0 A0 n0 c0 B0 m0 d0) (hs : ¬ x0.num < 0) (ht : fars (x0.num.natAbs * 2 ^ j.toNat) x0.den = true) :
    Calls Tryz.prog 60 #[.agg #[.bool b0, .slice A0 n0 c0, .slice B0 m0 d0], .int .i64 j, .func (.func 61) #[] #[.pointer (some ⟨g, 0, none⟩)]] w (GotZp w (nea x0 j.toNat) 0) := by
  have je := to_nat h0
  have jl : j.toNat ≤ 500 := by omega
  have hj2 : j ≤ 2000 := by omega
  obtain ⟨k, hk⟩ : ∃ k, j.toNat = k := ⟨_, rfl⟩
  rw [hk] at je jl ht ⊢
  have lk := len_pow2 jl
  have p0 := hx.1.1
  have q0 := hx.2
  have hb0 : b0 = false := by rw [hx.1.2]; exact decide_eq_false hs
  subst hb0
  have lp := s0.1
  have lq := s0.2
  have hq0 := x0.den_nz
  have lu : (limbs (x0.num.natAbs * 2 ^ k)).length ≤ 28 := limbs_length_mul lp lk
  have ld : (limbs (x0.num.natAbs * 2 ^ k / x0.den)).length ≤ 28 := Nat.le_trans (limbs_length_mono (Nat.div_le_self _ _)) lu
  have hlt := Nat.mod_lt (x0.num.natAbs * 2 ^ k) (Nat.pos_of_ne_zero hq0)
  have lr : (limbs (x0.num.natAbs * 2 ^ k % x0.den)).length ≤ 20 := Nat.le_trans (limbs_length_mono (Nat.le_of_lt hlt)) lq
  clear hlt
  have HF : nea x0 k = (((x0.num.natAbs * 2 ^ k / x0.den + 1 : Nat) : Nat) : Int) := by rw [nea_pos x0 k hs, if_pos ht]
  have CK : ∀ {W : World} {A B : Option Addr} {n c m d : Nat}, W.cell? ⟨g, 0, none⟩ = some (.bool false) → W.cell? ⟨g, 1, none⟩ = some (.slice A0 n0 c0) → W.cell? ⟨g, 2, none⟩ = some (.slice B0 m0 d0) → Num W A n c (x0.num.natAbs * 2 ^ k / x0.den) → Num W B m d (x0.num.natAbs * 2 ^ k % x0.den) → Num W B0 m0 d0 x0.den → Calls Tryz.prog 61 #[.slice A n c, .slice B m d, .pointer (some ⟨g, 0, none⟩)] W (GotV W (.bool true)) := fun r0 r1 r2 ha hb hq => by rw [← ht]; exact knear_N r0 r1 r2 ha hb hq (by omega) (by omega)
  obtain ⟨u, hU⟩ : ∃ u, x0.num.natAbs * 2 ^ k = u := ⟨_, rfl⟩
  obtain ⟨t, hT⟩ : ∃ t, x0.num.natAbs * 2 ^ k / x0.den = t := ⟨_, rfl⟩
  obtain ⟨l, hL⟩ : ∃ l, x0.num.natAbs * 2 ^ k % x0.den = l := ⟨_, rfl⟩
  rw [hT, hL] at CK
  rw [hT] at HF ld
  rw [hL] at lr
  rw [hU] at lu hT hL
  have CU : ∀ {W : World} {A : Option Addr} {m c : Nat}, Num W A m c x0.num.natAbs → Calls Tryz.prog 55 #[.slice A m c, .int .i64 j] W (GotP W u 0) := fun ha => by rw [← je, ← hU]; exact dshl_N ha (by omega) (by omega)
  have CD : ∀ {W : World} {A B : Option Addr} {n c m d : Nat}, Num W A n c u → Num W B m d x0.den → Calls Tryz.prog 92 #[.slice A n c, .slice B m d] W (GotD W t l) := fun ha hb => by rw [← hT, ← hL]; exact ddiv_N ha hb (by omega) (by omega) hq0
  have HV := Lib.hid HF
  clear HF hU hT hL hs ht lu
  have la : (limbs (t + 1)).length ≤ 29 := limbs_length_add ld (Nat.le_trans (len_one (by decide)) (by omega))
  have l1 : (limbs 1).length ≤ 1000 := Nat.le_trans (len_one (by decide)) (by omega)
  obtain ⟨r0, r1, r2⟩ := hg
  have rl := cell_lt r0
  simp only at rl
  have cc := Below.refl w.heap.size w
  go_enter Tryz.func60, Tryz.ntmps60
  go_wp2_with fail
  have f0 : ((w.alloc (.cells #[.bool false, .slice A0 n0 c0, .slice B0 m0 d0] 33)).alloc (.cells #[.bool false, .slice none 0 0] 31)).frozen? ⟨w.heap.size + 1, 0, none⟩ = false := by simp [go_sem]
  have f1 : ((w.alloc (.cells #[.bool false, .slice A0 n0 c0, .slice B0 m0 d0] 33)).alloc (.cells #[.bool false, .slice none 0 0] 31)).frozen? ⟨w.heap.size + 1, 1, none⟩ = false := by simp [go_sem]
  have bA : Below w.heap.size w ((w.alloc (.cells #[.bool false, .slice A0 n0 c0, .slice B0 m0 d0] 33)).alloc (.cells #[.bool false, .slice none 0 0] 31)) := (((Below.refl _ w).alloc (by simp) _).alloc (by simp) _)
  replace p0 := p0.on bA
  replace q0 := q0.on bA
  replace r0 := cK bA r0 rl
  replace r1 := cK bA r1 rl
  replace r2 := cK bA r2 rl
  replace rl := lK bA rl
  replace cc := bK cc bA
  clear bA
  have k0 : ((w.alloc (.cells #[.bool false, .slice A0 n0 c0, .slice B0 m0 d0] 33)).alloc (.cells #[.bool false, .slice none 0 0] 31)).cell? ⟨w.heap.size, 0, none⟩ = some (.bool false) := by simp [go_sem]
  have k1 : ((w.alloc (.cells #[.bool false, .slice A0 n0 c0, .slice B0 m0 d0] 33)).alloc (.cells #[.bool false, .slice none 0 0] 31)).cell? ⟨w.heap.size, 1, none⟩ = some (.slice A0 n0 c0) := by simp [go_sem]
  have k2 : ((w.alloc (.cells #[.bool false, .slice A0 n0 c0, .slice B0 m0 d0] 33)).alloc (.cells #[.bool false, .slice none 0 0] 31)).cell? ⟨w.heap.size, 2, none⟩ = some (.slice B0 m0 d0) := by simp [go_sem]
  have kl : w.heap.size < ((w.alloc (.cells #[.bool false, .slice A0 n0 c0, .slice B0 m0 d0] 33)).alloc (.cells #[.bool false, .slice none 0 0] 31)).heap.size := by simp <;> omega
  have g0 : ((w.alloc (.cells #[.bool false, .slice A0 n0 c0, .slice B0 m0 d0] 33)).alloc (.cells #[.bool false, .slice none 0 0] 31)).cell? ⟨w.heap.size + 1, 0, none⟩ = some (.bool false) := by simp [go_sem]
  have g1 : ((w.alloc (.cells #[.bool false, .slice A0 n0 c0, .slice B0 m0 d0] 33)).alloc (.cells #[.bool false, .slice none 0 0] 31)).cell? ⟨w.heap.size + 1, 1, none⟩ = some (.slice none 0 0) := by simp [go_sem]
  have gl : w.heap.size + 1 < ((w.alloc (.cells #[.bool false, .slice A0 n0 c0, .slice B0 m0 d0] 33)).alloc (.cells #[.bool false, .slice none 0 0] 31)).heap.size := by simp <;> omega
  generalize (w.alloc (.cells #[.bool false, .slice A0 n0 c0, .slice B0 m0 d0] 33)).alloc (.cells #[.bool false, .slice none 0 0] 31) = v1 at *
  refine (isgrid_2 _ h0 hj2).mono ?_
  rintro e w2 ⟨rfl, b⟩
  replace f0 := fK b f0 gl
  replace f1 := fK b f1 gl
  replace p0 := p0.on b
  replace q0 := q0.on b
  replace r0 := cK b r0 rl
  replace r1 := cK b r1 rl
  replace r2 := cK b r2 rl
  replace rl := lK b rl
  replace k0 := cK b k0 kl
  replace k1 := cK b k1 kl
  replace k2 := cK b k2 kl
  replace kl := lK b kl
  replace g0 := cK b g0 gl
  replace g1 := cK b g1 gl
  replace gl := lK b gl
  replace cc := bK cc b
  clear b
  go_wp2_with fail
  refine (CU p0).mono ?_
  rintro e w3 ⟨Av, nv, cv, rfl, v, b⟩
  replace f0 := fK b f0 gl
  replace f1 := fK b f1 gl
  replace p0 := p0.on b
  replace q0 := q0.on b
  replace r0 := cK b r0 rl
  replace r1 := cK b r1 rl
  replace r2 := cK b r2 rl
  replace rl := lK b rl
  replace k0 := cK b k0 kl
  replace k1 := cK b k1 kl
  replace k2 := cK b k2 kl
  replace kl := lK b kl
  replace g0 := cK b g0 gl
  replace g1 := cK b g1 gl
  replace gl := lK b gl
  replace cc := bK cc b
  clear b
  go_wp2_with fail
  refine (CD v q0).mono ?_
  rintro e w4 ⟨Aq, nq, cq, Ar, nr_, cr, rfl, dq, dr, b⟩
  replace f0 := fK b f0 gl
  replace f1 := fK b f1 gl
  replace p0 := p0.on b
  replace q0 := q0.on b
  replace v := v.on b
  replace r0 := cK b r0 rl
  replace r1 := cK b r1 rl
  replace r2 := cK b r2 rl
  replace rl := lK b rl
  replace k0 := cK b k0 kl
  replace k1 := cK b k1 kl
  replace k2 := cK b k2 kl
  replace kl := lK b kl
  replace g0 := cK b g0 gl
  replace g1 := cK b g1 gl
  replace gl := lK b gl
  replace cc := bK cc b
  clear b
  go_wp2_with fail
  refine (CK r0 r1 r2 dq dr q0).mono ?_
  rintro e w5 ⟨rfl, b⟩
  replace f0 := fK b f0 gl
  replace f1 := fK b f1 gl
  replace p0 := p0.on b
  replace q0 := q0.on b
  replace v := v.on b
  replace dq := dq.on b
  replace dr := dr.on b
  replace r0 := cK b r0 rl
  replace r1 := cK b r1 rl
  replace r2 := cK b r2 rl
  replace rl := lK b rl
  replace k0 := cK b k0 kl
  replace k1 := cK b k1 kl
  replace k2 := cK b k2 kl
  replace kl := lK b kl
  replace g0 := cK b g0 gl
  replace g1 := cK b g1 gl
  replace gl := lK b gl
  replace cc := bK cc b
  clear b
  go_wp2_with fail
  refine (of_N _ 1 (by decide)).mono ?_
  rintro e w6 ⟨Ao, no, co, rfl, o, b⟩
  replace f0 := fK b f0 gl
  replace f1 := fK b f1 gl
  replace p0 := p0.on b
  replace q0 := q0.on b
  replace v := v.on b
  replace dq := dq.on b
  replace dr := dr.on b
  replace r0 := cK b r0 rl
  replace r1 := cK b r1 rl
  replace r2 := cK b r2 rl
  replace rl := lK b rl
  replace k0 := cK b k0 kl
  replace k1 := cK b k1 kl
  replace k2 := cK b k2 kl
  replace kl := lK b kl
  replace g0 := cK b g0 gl
  replace g1 := cK b g1 gl
  replace gl := lK b gl
  replace cc := bK cc b
  clear b
  go_wp2_with fail
  refine (add_N dq o (by omega) (by omega)).mono ?_
  rintro e w7 ⟨Aa, na, ca, rfl, a, b⟩
  replace f0 := fK b f0 gl
  replace f1 := fK b f1 gl
  replace p0 := p0.on b
  replace q0 := q0.on b
  replace v := v.on b
  replace dq := dq.on b
  replace dr := dr.on b
  replace o := o.on b
  replace r0 := cK b r0 rl
  replace r1 := cK b r1 rl
  replace r2 := cK b r2 rl
  replace rl := lK b rl
  replace k0 := cK b k0 kl
  replace k1 := cK b k1 kl
  replace k2 := cK b k2 kl
  replace kl := lK b kl
  replace g0 := cK b g0 gl
  replace g1 := cK b g1 gl
  replace gl := lK b gl
  replace cc := bK cc b
  clear b
  have hn : Zn w7 false Aa na ca (nea x0 k) := by rw [HV.out]; exact zn_nat a
  have eb : Box w7 (w.heap.size + 1) false none 0 0 := ⟨g0, g1⟩
  have HZ : Hid (Zn ((w7.setCell ⟨w.heap.size + 1, 0, none⟩ (.bool false)).setCell ⟨w.heap.size + 1, 1, none⟩ (.slice Aa na ca)) false Aa na ca (nea x0 k)) := Lib.hid (hn.put eb _ _)
  clear hn
  go_wp2_with fail
  refine bodyPost_ret (v := .tuple #[.agg #[.bool false, .slice Aa na ca], .int .i64 0]) (by simp [results, Tryz.results60, go_sem, g0, g1]) rfl ⟨_, _, _, _, rfl, HZ.out, below_put cc (by omega) _ _⟩

set_option maxRecDepth 100000 in
set_option maxHeartbeats 8000000 in
theorem rdnea_tf0 {w : World} {b0 : Bool} {A0 B0 : Option Addr} {n0 c0 m0 d0 : Nat} {g : Nat} {x0 : Rat} (hx : Rt w b0 A0 n0 c0 B0 m0 d0 x0) (s0 : Sz x0 20) {j : Int} (h0 : 0 ≤ j) (h1 : j ≤ 500) (hg : BoxR w g b0 A0 n0 c0 B0 m0 d0) (hs : x0.num < 0) (ht : fars (x0.num.natAbs * 2 ^ j.toNat) x0.den = false) (hz : x0.num.natAbs * 2 ^ j.toNat / x0.den = 0) :
    Calls Tryz.prog 60 #[.agg #[.bool b0, .slice A0 n0 c0, .slice B0 m0 d0], .int .i64 j, .func (.func 61) #[] #[.pointer (some ⟨g, 0, none⟩)]] w (GotZp w (nea x0 j.toNat) 0) := by
  have je := to_nat h0
  have jl : j.toNat ≤ 500 := by omega
  have hj2 : j ≤ 2000 := by omega
  obtain ⟨k, hk⟩ : ∃ k, j.toNat = k := ⟨_, rfl⟩
  rw [hk] at je jl ht hz ⊢
  have lk := len_pow2 jl
  have p0 := hx.1.1
  have q0 := hx.2
  have hb0 : b0 = true := by rw [hx.1.2]; exact decide_eq_true hs
  subst hb0
  have lp := s0.1
  have lq := s0.2
  have hq0 := x0.den_nz
  have lu : (limbs (x0.num.natAbs * 2 ^ k)).length ≤ 28 := limbs_length_mul lp lk
  have ld : (limbs (x0.num.natAbs * 2 ^ k / x0.den)).length ≤ 28 := Nat.le_trans (limbs_length_mono (Nat.div_le_self _ _)) lu
  have hlt := Nat.mod_lt (x0.num.natAbs * 2 ^ k) (Nat.pos_of_ne_zero hq0)
  have lr : (limbs (x0.num.natAbs * 2 ^ k % x0.den)).length ≤ 20 := Nat.le_trans (limbs_length_mono (Nat.le_of_lt hlt)) lq
  clear hlt
  have HF : nea x0 k = -(((x0.num.natAbs * 2 ^ k / x0.den : Nat) : Nat) : Int) := by rw [nea_less x0 k hs, if_neg (by rw [ht]; decide), Nat.add_zero]
  have CK : ∀ {W : World} {A B : Option Addr} {n c m d : Nat}, W.cell? ⟨g, 0, none⟩ = some (.bool true) → W.cell? ⟨g, 1, none⟩ = some (.slice A0 n0 c0) → W.cell? ⟨g, 2, none⟩ = some (.slice B0 m0 d0) → Num W A n c (x0.num.natAbs * 2 ^ k / x0.den) → Num W B m d (x0.num.natAbs * 2 ^ k % x0.den) → Num W B0 m0 d0 x0.den → Calls Tryz.prog 61 #[.slice A n c, .slice B m d, .pointer (some ⟨g, 0, none⟩)] W (GotV W (.bool false)) := fun r0 r1 r2 ha hb hq => by rw [← ht]; exact knear_N r0 r1 r2 ha hb hq (by omega) (by omega)
  obtain ⟨u, hU⟩ : ∃ u, x0.num.natAbs * 2 ^ k = u := ⟨_, rfl⟩
  obtain ⟨t, hT⟩ : ∃ t, x0.num.natAbs * 2 ^ k / x0.den = t := ⟨_, rfl⟩
  obtain ⟨l, hL⟩ : ∃ l, x0.num.natAbs * 2 ^ k % x0.den = l := ⟨_, rfl⟩
  rw [hT, hL] at CK
  rw [hT] at HF ld hz
  rw [hL] at lr
  rw [hU] at lu hT hL
  have CU : ∀ {W : World} {A : Option Addr} {m c : Nat}, Num W A m c x0.num.natAbs → Calls Tryz.prog 55 #[.slice A m c, .int .i64 j] W (GotP W u 0) := fun ha => by rw [← je, ← hU]; exact dshl_N ha (by omega) (by omega)
  have CD : ∀ {W : World} {A B : Option Addr} {n c m d : Nat}, Num W A n c u → Num W B m d x0.den → Calls Tryz.prog 92 #[.slice A n c, .slice B m d] W (GotD W t l) := fun ha hb => by rw [← hT, ← hL]; exact ddiv_N ha hb (by omega) (by omega) hq0
  subst hz
  have HV := Lib.hid HF
  clear HF hU hT hL hs ht lu
  obtain ⟨r0, r1, r2⟩ := hg
  have rl := cell_lt r0
  simp only at rl
  have cc := Below.refl w.heap.size w
  go_enter Tryz.func60, Tryz.ntmps60
  go_wp2_with fail
  have f0 : ((w.alloc (.cells #[.bool true, .slice A0 n0 c0, .slice B0 m0 d0] 33)).alloc (.cells #[.bool false, .slice none 0 0] 31)).frozen? ⟨w.heap.size + 1, 0, none⟩ = false := by simp [go_sem]
  have f1 : ((w.alloc (.cells #[.bool true, .slice A0 n0 c0, .slice B0 m0 d0] 33)).alloc (.cells #[.bool false, .slice none 0 0] 31)).frozen? ⟨w.heap.size + 1, 1, none⟩ = false := by simp [go_sem]
  have bA : Below w.heap.size w ((w.alloc (.cells #[.bool true, .slice A0 n0 c0, .slice B0 m0 d0] 33)).alloc (.cells #[.bool false, .slice none 0 0] 31)) := (((Below.refl _ w).alloc (by simp) _).alloc (by simp) _)
  replace p0 := p0.on bA
  replace q0 := q0.on bA
  replace r0 := cK bA r0 rl
  replace r1 := cK bA r1 rl
  replace r2 := cK bA r2 rl
  replace rl := lK bA rl
  replace cc := bK cc bA
  clear bA
  have k0 : ((w.alloc (.cells #[.bool true, .slice A0 n0 c0, .slice B0 m0 d0] 33)).alloc (.cells #[.bool false, .slice none 0 0] 31)).cell? ⟨w.heap.size, 0, none⟩ = some (.bool true) := by simp [go_sem]
  have k1 : ((w.alloc (.cells #[.bool true, .slice A0 n0 c0, .slice B0 m0 d0] 33)).alloc (.cells #[.bool false, .slice none 0 0] 31)).cell? ⟨w.heap.size, 1, none⟩ = some (.slice A0 n0 c0) := by simp [go_sem]
  have k2 : ((w.alloc (.cells #[.bool true, .slice A0 n0 c0, .slice B0 m0 d0] 33)).alloc (.cells #[.bool false, .slice none 0 0] 31)).cell? ⟨w.heap.size, 2, none⟩ = some (.slice B0 m0 d0) := by simp [go_sem]
  have kl : w.heap.size < ((w.alloc (.cells #[.bool true, .slice A0 n0 c0, .slice B0 m0 d0] 33)).alloc (.cells #[.bool false, .slice none 0 0] 31)).heap.size := by simp <;> omega
  have g0 : ((w.alloc (.cells #[.bool true, .slice A0 n0 c0, .slice B0 m0 d0] 33)).alloc (.cells #[.bool false, .slice none 0 0] 31)).cell? ⟨w.heap.size + 1, 0, none⟩ = some (.bool false) := by simp [go_sem]
  have g1 : ((w.alloc (.cells #[.bool true, .slice A0 n0 c0, .slice B0 m0 d0] 33)).alloc (.cells #[.bool false, .slice none 0 0] 31)).cell? ⟨w.heap.size + 1, 1, none⟩ = some (.slice none 0 0) := by simp [go_sem]
  have gl : w.heap.size + 1 < ((w.alloc (.cells #[.bool true, .slice A0 n0 c0, .slice B0 m0 d0] 33)).alloc (.cells #[.bool false, .slice none 0 0] 31)).heap.size := by simp <;> omega
  generalize (w.alloc (.cells #[.bool true, .slice A0 n0 c0, .slice B0 m0 d0] 33)).alloc (.cells #[.bool false, .slice none 0 0] 31) = v1 at *
  refine (isgrid_2 _ h0 hj2).mono ?_
  rintro e w2 ⟨rfl, b⟩
  replace f0 := fK b f0 gl
  replace f1 := fK b f1 gl
  replace p0 := p0.on b
  replace q0 := q0.on b
  replace r0 := cK b r0 rl
  replace r1 := cK b r1 rl
  replace r2 := cK b r2 rl
  replace rl := lK b rl
  replace k0 := cK b k0 kl
  replace k1 := cK b k1 kl
  replace k2 := cK b k2 kl
  replace kl := lK b kl
  replace g0 := cK b g0 gl
  replace g1 := cK b g1 gl
  replace gl := lK b gl
  replace cc := bK cc b
  clear b
  go_wp2_with fail
  refine (CU p0).mono ?_
  rintro e w3 ⟨Av, nv, cv, rfl, v, b⟩
  replace f0 := fK b f0 gl
  replace f1 := fK b f1 gl
  replace p0 := p0.on b
  replace q0 := q0.on b
  replace r0 := cK b r0 rl
  replace r1 := cK b r1 rl
  replace r2 := cK b r2 rl
  replace rl := lK b rl
  replace k0 := cK b k0 kl
  replace k1 := cK b k1 kl
  replace k2 := cK b k2 kl
  replace kl := lK b kl
  replace g0 := cK b g0 gl
  replace g1 := cK b g1 gl
  replace gl := lK b gl
  replace cc := bK cc b
  clear b
  go_wp2_with fail
  refine (CD v q0).mono ?_
  rintro e w4 ⟨Aq, nq, cq, Ar, nr_, cr, rfl, dq, dr, b⟩
  replace f0 := fK b f0 gl
  replace f1 := fK b f1 gl
  replace p0 := p0.on b
  replace q0 := q0.on b
  replace v := v.on b
  replace r0 := cK b r0 rl
  replace r1 := cK b r1 rl
  replace r2 := cK b r2 rl
  replace rl := lK b rl
  replace k0 := cK b k0 kl
  replace k1 := cK b k1 kl
  replace k2 := cK b k2 kl
  replace kl := lK b kl
  replace g0 := cK b g0 gl
  replace g1 := cK b g1 gl
  replace gl := lK b gl
  replace cc := bK cc b
  clear b
  go_wp2_with fail
  refine (CK r0 r1 r2 dq dr q0).mono ?_
  rintro e w5 ⟨rfl, b⟩
  replace f0 := fK b f0 gl
  replace f1 := fK b f1 gl
  replace p0 := p0.on b
  replace q0 := q0.on b
  replace v := v.on b
  replace dq := dq.on b
  replace dr := dr.on b
  replace r0 := cK b r0 rl
  replace r1 := cK b r1 rl
  replace r2 := cK b r2 rl
  replace rl := lK b rl
  replace k0 := cK b k0 kl
  replace k1 := cK b k1 kl
  replace k2 := cK b k2 kl
  replace kl := lK b kl
  replace g0 := cK b g0 gl
  replace g1 := cK b g1 gl
  replace gl := lK b gl
  replace cc := bK cc b
  clear b
  have hn0 := num_void dq rfl
  subst hn0
  have hn : Zn w5 false Aq 0 cq (nea x0 k) := by rw [HV.out]; exact zn_nat dq
  have eb : Box w5 (w.heap.size + 1) false none 0 0 := ⟨g0, g1⟩
  have HZ : Hid (Zn ((w5.setCell ⟨w.heap.size + 1, 0, none⟩ (.bool false)).setCell ⟨w.heap.size + 1, 1, none⟩ (.slice Aq 0 cq)) false Aq 0 cq (nea x0 k)) := Lib.hid (hn.put eb _ _)
  clear hn
  go_wp2_with fail
  refine bodyPost_ret (v := .tuple #[.agg #[.bool false, .slice Aq 0 cq], .int .i64 0]) (by simp [results, Tryz.results60, go_sem, g0, g1]) rfl ⟨_, _, _, _, rfl, HZ.out, below_put cc (by omega) _ _⟩

set_option maxRecDepth 100000 in
set_option maxHeartbeats 8000000 in
theorem rdnea_tf1 {w : World} {b0 : Bool} {A0 B0 : Option Addr} {n0 c0 m0 d0 : Nat} {g : Nat} {x0 : Rat} (hx : Rt w b0 A0 n0 c0 B0 m0 d0 x0) (s0 : Sz x0 20) {j : Int} (h0 : 0 ≤ j) (h1 : j ≤ 500) (hg : BoxR w g b0 A0 n0 c0 B0 m0 d0) (hs : x0.num < 0) (ht : fars (x0.num.natAbs * 2 ^ j.toNat) x0.den = false) (hz : x0.num.natAbs * 2 ^ j.toNat / x0.den ≠ 0) :
    Calls Tryz.prog 60 #[.agg #[.bool b0, .slice A0 n0 c0, .slice B0 m0 d0], .int .i64 j, .func (.func 61) #[] #[.pointer (some ⟨g, 0, none⟩)]] w (GotZp w (nea x0 j.toNat) 0) := by
  have je := to_nat h0
  have jl : j.toNat ≤ 500 := by omega
  have hj2 : j ≤ 2000 := by omega
  obtain ⟨k, hk⟩ : ∃ k, j.toNat = k := ⟨_, rfl⟩
  rw [hk] at je jl ht hz ⊢
  have lk := len_pow2 jl
  have p0 := hx.1.1
  have q0 := hx.2
  have hb0 : b0 = true := by rw [hx.1.2]; exact decide_eq_true hs
  subst hb0
  have lp := s0.1
  have lq := s0.2
  have hq0 := x0.den_nz
  have lu : (limbs (x0.num.natAbs * 2 ^ k)).length ≤ 28 := limbs_length_mul lp lk
  have ld : (limbs (x0.num.natAbs * 2 ^ k / x0.den)).length ≤ 28 := Nat.le_trans (limbs_length_mono (Nat.div_le_self _ _)) lu
  have hlt := Nat.mod_lt (x0.num.natAbs * 2 ^ k) (Nat.pos_of_ne_zero hq0)
  have lr : (limbs (x0.num.natAbs * 2 ^ k % x0.den)).length ≤ 20 := Nat.le_trans (limbs_length_mono (Nat.le_of_lt hlt)) lq
  clear hlt
  have HF : nea x0 k = -(((x0.num.natAbs * 2 ^ k / x0.den : Nat) : Nat) : Int) := by rw [nea_less x0 k hs, if_neg (by rw [ht]; decide), Nat.add_zero]
  have CK : ∀ {W : World} {A B : Option Addr} {n c m d : Nat}, W.cell? ⟨g, 0, none⟩ = some (.bool true) → W.cell? ⟨g, 1, none⟩ = some (.slice A0 n0 c0) → W.cell? ⟨g, 2, none⟩ = some (.slice B0 m0 d0) → Num W A n c (x0.num.natAbs * 2 ^ k / x0.den) → Num W B m d (x0.num.natAbs * 2 ^ k % x0.den) → Num W B0 m0 d0 x0.den → Calls Tryz.prog 61 #[.slice A n c, .slice B m d, .pointer (some ⟨g, 0, none⟩)] W (GotV W (.bool false)) := fun r0 r1 r2 ha hb hq => by rw [← ht]; exact knear_N r0 r1 r2 ha hb hq (by omega) (by omega)
  obtain ⟨u, hU⟩ : ∃ u, x0.num.natAbs * 2 ^ k = u := ⟨_, rfl⟩
  obtain ⟨t, hT⟩ : ∃ t, x0.num.natAbs * 2 ^ k / x0.den = t := ⟨_, rfl⟩
  obtain ⟨l, hL⟩ : ∃ l, x0.num.natAbs * 2 ^ k % x0.den = l := ⟨_, rfl⟩
  rw [hT, hL] at CK
  rw [hT] at HF ld hz
  rw [hL] at lr
  rw [hU] at lu hT hL
  have CU : ∀ {W : World} {A : Option Addr} {m c : Nat}, Num W A m c x0.num.natAbs → Calls Tryz.prog 55 #[.slice A m c, .int .i64 j] W (GotP W u 0) := fun ha => by rw [← je, ← hU]; exact dshl_N ha (by omega) (by omega)
  have CD : ∀ {W : World} {A B : Option Addr} {n c m d : Nat}, Num W A n c u → Num W B m d x0.den → Calls Tryz.prog 92 #[.slice A n c, .slice B m d] W (GotD W t l) := fun ha hb => by rw [← hT, ← hL]; exact ddiv_N ha hb (by omega) (by omega) hq0
  have HV := Lib.hid HF
  clear HF hU hT hL hs ht lu
  have HT0 := Lib.hid hz
  clear hz
  obtain ⟨r0, r1, r2⟩ := hg
  have rl := cell_lt r0
  simp only at rl
  have cc := Below.refl w.heap.size w
  go_enter Tryz.func60, Tryz.ntmps60
  go_wp2_with fail
  have f0 : ((w.alloc (.cells #[.bool true, .slice A0 n0 c0, .slice B0 m0 d0] 33)).alloc (.cells #[.bool false, .slice none 0 0] 31)).frozen? ⟨w.heap.size + 1, 0, none⟩ = false := by simp [go_sem]
  have f1 : ((w.alloc (.cells #[.bool true, .slice A0 n0 c0, .slice B0 m0 d0] 33)).alloc (.cells #[.bool false, .slice none 0 0] 31)).frozen? ⟨w.heap.size + 1, 1, none⟩ = false := by simp [go_sem]
  have bA : Below w.heap.size w ((w.alloc (.cells #[.bool true, .slice A0 n0 c0, .slice B0 m0 d0] 33)).alloc (.cells #[.bool false, .slice none 0 0] 31)) := (((Below.refl _ w).alloc (by simp) _).alloc (by simp) _)
  replace p0 := p0.on bA
  replace q0 := q0.on bA
  replace r0 := cK bA r0 rl
  replace r1 := cK bA r1 rl
  replace r2 := cK bA r2 rl
  replace rl := lK bA rl
  replace cc := bK cc bA
  clear bA
  have k0 : ((w.alloc (.cells #[.bool true, .slice A0 n0 c0, .slice B0 m0 d0] 33)).alloc (.cells #[.bool false, .slice none 0 0] 31)).cell? ⟨w.heap.size, 0, none⟩ = some (.bool true) := by simp [go_sem]
  have k1 : ((w.alloc (.cells #[.bool true, .slice A0 n0 c0, .slice B0 m0 d0] 33)).alloc (.cells #[.bool false, .slice none 0 0] 31)).cell? ⟨w.heap.size, 1, none⟩ = some (.slice A0 n0 c0) := by simp [go_sem]
  have k2 : ((w.alloc (.cells #[.bool true, .slice A0 n0 c0, .slice B0 m0 d0] 33)).alloc (.cells #[.bool false, .slice none 0 0] 31)).cell? ⟨w.heap.size, 2, none⟩ = some (.slice B0 m0 d0) := by simp [go_sem]
  have kl : w.heap.size < ((w.alloc (.cells #[.bool true, .slice A0 n0 c0, .slice B0 m0 d0] 33)).alloc (.cells #[.bool false, .slice none 0 0] 31)).heap.size := by simp <;> omega
  have g0 : ((w.alloc (.cells #[.bool true, .slice A0 n0 c0, .slice B0 m0 d0] 33)).alloc (.cells #[.bool false, .slice none 0 0] 31)).cell? ⟨w.heap.size + 1, 0, none⟩ = some (.bool false) := by simp [go_sem]
  have g1 : ((w.alloc (.cells #[.bool true, .slice A0 n0 c0, .slice B0 m0 d0] 33)).alloc (.cells #[.bool false, .slice none 0 0] 31)).cell? ⟨w.heap.size + 1, 1, none⟩ = some (.slice none 0 0) := by simp [go_sem]
  have gl : w.heap.size + 1 < ((w.alloc (.cells #[.bool true, .slice A0 n0 c0, .slice B0 m0 d0] 33)).alloc (.cells #[.bool false, .slice none 0 0] 31)).heap.size := by simp <;> omega
  generalize (w.alloc (.cells #[.bool true, .slice A0 n0 c0, .slice B0 m0 d0] 33)).alloc (.cells #[.bool false, .slice none 0 0] 31) = v1 at *
  refine (isgrid_2 _ h0 hj2).mono ?_
  rintro e w2 ⟨rfl, b⟩
  replace f0 := fK b f0 gl
  replace f1 := fK b f1 gl
  replace p0 := p0.on b
  replace q0 := q0.on b
  replace r0 := cK b r0 rl
  replace r1 := cK b r1 rl
  replace r2 := cK b r2 rl
  replace rl := lK b rl
  replace k0 := cK b k0 kl
  replace k1 := cK b k1 kl
  replace k2 := cK b k2 kl
  replace kl := lK b kl
  replace g0 := cK b g0 gl
  replace g1 := cK b g1 gl
  replace gl := lK b gl
  replace cc := bK cc b
  clear b
  go_wp2_with fail
  refine (CU p0).mono ?_
  rintro e w3 ⟨Av, nv, cv, rfl, v, b⟩
  replace f0 := fK b f0 gl
  replace f1 := fK b f1 gl
  replace p0 := p0.on b
  replace q0 := q0.on b
  replace r0 := cK b r0 rl
  replace r1 := cK b r1 rl
  replace r2 := cK b r2 rl
  replace rl := lK b rl
  replace k0 := cK b k0 kl
  replace k1 := cK b k1 kl
  replace k2 := cK b k2 kl
  replace kl := lK b kl
  replace g0 := cK b g0 gl
  replace g1 := cK b g1 gl
  replace gl := lK b gl
  replace cc := bK cc b
  clear b
  go_wp2_with fail
  refine (CD v q0).mono ?_
  rintro e w4 ⟨Aq, nq, cq, Ar, nr_, cr, rfl, dq, dr, b⟩
  replace f0 := fK b f0 gl
  replace f1 := fK b f1 gl
  replace p0 := p0.on b
  replace q0 := q0.on b
  replace v := v.on b
  replace r0 := cK b r0 rl
  replace r1 := cK b r1 rl
  replace r2 := cK b r2 rl
  replace rl := lK b rl
  replace k0 := cK b k0 kl
  replace k1 := cK b k1 kl
  replace k2 := cK b k2 kl
  replace kl := lK b kl
  replace g0 := cK b g0 gl
  replace g1 := cK b g1 gl
  replace gl := lK b gl
  replace cc := bK cc b
  clear b
  go_wp2_with fail
  refine (CK r0 r1 r2 dq dr q0).mono ?_
  rintro e w5 ⟨rfl, b⟩
  replace f0 := fK b f0 gl
  replace f1 := fK b f1 gl
  replace p0 := p0.on b
  replace q0 := q0.on b
  replace v := v.on b
  replace dq := dq.on b
  replace dr := dr.on b
  replace r0 := cK b r0 rl
  replace r1 := cK b r1 rl
  replace r2 := cK b r2 rl
  replace rl := lK b rl
  replace k0 := cK b k0 kl
  replace k1 := cK b k1 kl
  replace k2 := cK b k2 kl
  replace kl := lK b kl
  replace g0 := cK b g0 gl
  replace g1 := cK b g1 gl
  replace gl := lK b gl
  replace cc := bK cc b
  clear b
  have hn0 : 0 < nq := dq.some_len HT0.out
  have hn1 : decide ((0 : Int) < (nq : Int)) = true := decide_eq_true (by omega)
  have hn2 : decide (0 < nq) = true := decide_eq_true hn0
  have hn : Zn w5 true Aq nq cq (nea x0 k) := by rw [HV.out]; exact zn_minus dq (HT0.out)
  have eb : Box w5 (w.heap.size + 1) false none 0 0 := ⟨g0, g1⟩
  have HZ : Hid (Zn ((w5.setCell ⟨w.heap.size + 1, 0, none⟩ (.bool true)).setCell ⟨w.heap.size + 1, 1, none⟩ (.slice Aq nq cq)) true Aq nq cq (nea x0 k)) := Lib.hid (hn.put eb _ _)
  clear hn
  go_wp2_with fail
  refine bodyPost_ret (v := .tuple #[.agg #[.bool true, .slice Aq nq cq], .int .i64 0]) (by simp [results, Tryz.results60, go_sem, g0, g1]) rfl ⟨_, _, _, _, rfl, HZ.out, below_put cc (by omega) _ _⟩

set_option maxRecDepth 100000 in
set_option maxHeartbeats 8000000 in
theorem rdnea_tt {w : World} {b0 : Bool} {A0 B0 : Option Addr} {n0 c0 m0 d0 : Nat} {g : Nat} {x0 : Rat} (hx : Rt w b0 A0 n0 c0 B0 m0 d0 x0) (s0 : Sz x0 20) {j : Int} (h0 : 0 ≤ j) (h1 : j ≤ 500) (hg : BoxR w g b0 A0 n0 c0 B0 m0 d0) (hs : x0.num < 0) (ht : fars (x0.num.natAbs * 2 ^ j.toNat) x0.den = true) :
    Calls Tryz.prog 60 #[.agg #[.bool b0, .slice A0 n0 c0, .slice B0 m0 d0], .int .i64 j, .func (.func 61) #[] #[.pointer (some ⟨g, 0, none⟩)]] w (GotZp w (nea x0 j.toNat) 0) := by
  have je := to_nat h0
  have jl : j.toNat ≤ 500 := by omega
  have hj2 : j ≤ 2000 := by omega
  obtain ⟨k, hk⟩ : ∃ k, j.toNat = k := ⟨_, rfl⟩
  rw [hk] at je jl ht ⊢
  have lk := len_pow2 jl
  have p0 := hx.1.1
  have q0 := hx.2
  have hb0 : b0 = true := by rw [hx.1.2]; exact decide_eq_true hs
  subst hb0
  have lp := s0.1
  have lq := s0.2
  have hq0 := x0.den_nz
  have lu : (limbs (x0.num.natAbs * 2 ^ k)).length ≤ 28 := limbs_length_mul lp lk
  have ld : (limbs (x0.num.natAbs * 2 ^ k / x0.den)).length ≤ 28 := Nat.le_trans (limbs_length_mono (Nat.div_le_self _ _)) lu
  have hlt := Nat.mod_lt (x0.num.natAbs * 2 ^ k) (Nat.pos_of_ne_zero hq0)
  have lr : (limbs (x0.num.natAbs * 2 ^ k % x0.den)).length ≤ 20 := Nat.le_trans (limbs_length_mono (Nat.le_of_lt hlt)) lq
  clear hlt
  have HF : nea x0 k = -(((x0.num.natAbs * 2 ^ k / x0.den + 1 : Nat) : Nat) : Int) := by rw [nea_less x0 k hs, if_pos ht]
  have CK : ∀ {W : World} {A B : Option Addr} {n c m d : Nat}, W.cell? ⟨g, 0, none⟩ = some (.bool true) → W.cell? ⟨g, 1, none⟩ = some (.slice A0 n0 c0) → W.cell? ⟨g, 2, none⟩ = some (.slice B0 m0 d0) → Num W A n c (x0.num.natAbs * 2 ^ k / x0.den) → Num W B m d (x0.num.natAbs * 2 ^ k % x0.den) → Num W B0 m0 d0 x0.den → Calls Tryz.prog 61 #[.slice A n c, .slice B m d, .pointer (some ⟨g, 0, none⟩)] W (GotV W (.bool true)) := fun r0 r1 r2 ha hb hq => by rw [← ht]; exact knear_N r0 r1 r2 ha hb hq (by omega) (by omega)
  obtain ⟨u, hU⟩ : ∃ u, x0.num.natAbs * 2 ^ k = u := ⟨_, rfl⟩
  obtain ⟨t, hT⟩ : ∃ t, x0.num.natAbs * 2 ^ k / x0.den = t := ⟨_, rfl⟩
  obtain ⟨l, hL⟩ : ∃ l, x0.num.natAbs * 2 ^ k % x0.den = l := ⟨_, rfl⟩
  rw [hT, hL] at CK
  rw [hT] at HF ld
  rw [hL] at lr
  rw [hU] at lu hT hL
  have CU : ∀ {W : World} {A : Option Addr} {m c : Nat}, Num W A m c x0.num.natAbs → Calls Tryz.prog 55 #[.slice A m c, .int .i64 j] W (GotP W u 0) := fun ha => by rw [← je, ← hU]; exact dshl_N ha (by omega) (by omega)
  have CD : ∀ {W : World} {A B : Option Addr} {n c m d : Nat}, Num W A n c u → Num W B m d x0.den → Calls Tryz.prog 92 #[.slice A n c, .slice B m d] W (GotD W t l) := fun ha hb => by rw [← hT, ← hL]; exact ddiv_N ha hb (by omega) (by omega) hq0
  have HV := Lib.hid HF
  clear HF hU hT hL hs ht lu
  have la : (limbs (t + 1)).length ≤ 29 := limbs_length_add ld (Nat.le_trans (len_one (by decide)) (by omega))
  have l1 : (limbs 1).length ≤ 1000 := Nat.le_trans (len_one (by decide)) (by omega)
  obtain ⟨r0, r1, r2⟩ := hg
  have rl := cell_lt r0
  simp only at rl
  have cc := Below.refl w.heap.size w
  go_enter Tryz.func60, Tryz.ntmps60
  go_wp2_with fail
  have f0 : ((w.alloc (.cells #[.bool true, .slice A0 n0 c0, .slice B0 m0 d0] 33)).alloc (.cells #[.bool false, .slice none 0 0] 31)).frozen? ⟨w.heap.size + 1, 0, none⟩ = false := by simp [go_sem]
  have f1 : ((w.alloc (.cells #[.bool true, .slice A0 n0 c0, .slice B0 m0 d0] 33)).alloc (.cells #[.bool false, .slice none 0 0] 31)).frozen? ⟨w.heap.size + 1, 1, none⟩ = false := by simp [go_sem]
  have bA : Below w.heap.size w ((w.alloc (.cells #[.bool true, .slice A0 n0 c0, .slice B0 m0 d0] 33)).alloc (.cells #[.bool false, .slice none 0 0] 31)) := (((Below.refl _ w).alloc (by simp) _).alloc (by simp) _)
  replace p0 := p0.on bA
  replace q0 := q0.on bA
  replace r0 := cK bA r0 rl
  replace r1 := cK bA r1 rl
  replace r2 := cK bA r2 rl
  replace rl := lK bA rl
  replace cc := bK cc bA
  clear bA
  have k0 : ((w.alloc (.cells #[.bool true, .slice A0 n0 c0, .slice B0 m0 d0] 33)).alloc (.cells #[.bool false, .slice none 0 0] 31)).cell? ⟨w.heap.size, 0, none⟩ = some (.bool true) := by simp [go_sem]
  have k1 : ((w.alloc (.cells #[.bool true, .slice A0 n0 c0, .slice B0 m0 d0] 33)).alloc (.cells #[.bool false, .slice none 0 0] 31)).cell? ⟨w.heap.size, 1, none⟩ = some (.slice A0 n0 c0) := by simp [go_sem]
  have k2 : ((w.alloc (.cells #[.bool true, .slice A0 n0 c0, .slice B0 m0 d0] 33)).alloc (.cells #[.bool false, .slice none 0 0] 31)).cell? ⟨w.heap.size, 2, none⟩ = some (.slice B0 m0 d0) := by simp [go_sem]
  have kl : w.heap.size < ((w.alloc (.cells #[.bool true, .slice A0 n0 c0, .slice B0 m0 d0] 33)).alloc (.cells #[.bool false, .slice none 0 0] 31)).heap.size := by simp <;> omega
  have g0 : ((w.alloc (.cells #[.bool true, .slice A0 n0 c0, .slice B0 m0 d0] 33)).alloc (.cells #[.bool false, .slice none 0 0] 31)).cell? ⟨w.heap.size + 1, 0, none⟩ = some (.bool false) := by simp [go_sem]
  have g1 : ((w.alloc (.cells #[.bool true, .slice A0 n0 c0, .slice B0 m0 d0] 33)).alloc (.cells #[.bool false, .slice none 0 0] 31)).cell? ⟨w.heap.size + 1, 1, none⟩ = some (.slice none 0 0) := by simp [go_sem]
  have gl : w.heap.size + 1 < ((w.alloc (.cells #[.bool true, .slice A0 n0 c0, .slice B0 m0 d0] 33)).alloc (.cells #[.bool false, .slice none 0 0] 31)).heap.size := by simp <;> omega
  generalize (w.alloc (.cells #[.bool true, .slice A0 n0 c0, .slice B0 m0 d0] 33)).alloc (.cells #[.bool false, .slice none 0 0] 31) = v1 at *
  refine (isgrid_2 _ h0 hj2).mono ?_
  rintro e w2 ⟨rfl, b⟩
  replace f0 := fK b f0 gl
  replace f1 := fK b f1 gl
  replace p0 := p0.on b
  replace q0 := q0.on b
  replace r0 := cK b r0 rl
  replace r1 := cK b r1 rl
  replace r2 := cK b r2 rl
  replace rl := lK b rl
  replace k0 := cK b k0 kl
  replace k1 := cK b k1 kl
  replace k2 := cK b k2 kl
  replace kl := lK b kl
  replace g0 := cK b g0 gl
  replace g1 := cK b g1 gl
  replace gl := lK b gl
  replace cc := bK cc b
  clear b
  go_wp2_with fail
  refine (CU p0).mono ?_
  rintro e w3 ⟨Av, nv, cv, rfl, v, b⟩
  replace f0 := fK b f0 gl
  replace f1 := fK b f1 gl
  replace p0 := p0.on b
  replace q0 := q0.on b
  replace r0 := cK b r0 rl
  replace r1 := cK b r1 rl
  replace r2 := cK b r2 rl
  replace rl := lK b rl
  replace k0 := cK b k0 kl
  replace k1 := cK b k1 kl
  replace k2 := cK b k2 kl
  replace kl := lK b kl
  replace g0 := cK b g0 gl
  replace g1 := cK b g1 gl
  replace gl := lK b gl
  replace cc := bK cc b
  clear b
  go_wp2_with fail
  refine (CD v q0).mono ?_
  rintro e w4 ⟨Aq, nq, cq, Ar, nr_, cr, rfl, dq, dr, b⟩
  replace f0 := fK b f0 gl
  replace f1 := fK b f1 gl
  replace p0 := p0.on b
  replace q0 := q0.on b
  replace v := v.on b
  replace r0 := cK b r0 rl
  replace r1 := cK b r1 rl
  replace r2 := cK b r2 rl
  replace rl := lK b rl
  replace k0 := cK b k0 kl
  replace k1 := cK b k1 kl
  replace k2 := cK b k2 kl
  replace kl := lK b kl
  replace g0 := cK b g0 gl
  replace g1 := cK b g1 gl
  replace gl := lK b gl
  replace cc := bK cc b
  clear b
  go_wp2_with fail
  refine (CK r0 r1 r2 dq dr q0).mono ?_
  rintro e w5 ⟨rfl, b⟩
  replace f0 := fK b f0 gl
  replace f1 := fK b f1 gl
  replace p0 := p0.on b
  replace q0 := q0.on b
  replace v := v.on b
  replace dq := dq.on b
  replace dr := dr.on b
  replace r0 := cK b r0 rl
  replace r1 := cK b r1 rl
  replace r2 := cK b r2 rl
  replace rl := lK b rl
  replace k0 := cK b k0 kl
  replace k1 := cK b k1 kl
  replace k2 := cK b k2 kl
  replace kl := lK b kl
  replace g0 := cK b g0 gl
  replace g1 := cK b g1 gl
  replace gl := lK b gl
  replace cc := bK cc b
  clear b
  go_wp2_with fail
  refine (of_N _ 1 (by decide)).mono ?_
  rintro e w6 ⟨Ao, no, co, rfl, o, b⟩
  replace f0 := fK b f0 gl
  replace f1 := fK b f1 gl
  replace p0 := p0.on b
  replace q0 := q0.on b
  replace v := v.on b
  replace dq := dq.on b
  replace dr := dr.on b
  replace r0 := cK b r0 rl
  replace r1 := cK b r1 rl
  replace r2 := cK b r2 rl
  replace rl := lK b rl
  replace k0 := cK b k0 kl
  replace k1 := cK b k1 kl
  replace k2 := cK b k2 kl
  replace kl := lK b kl
  replace g0 := cK b g0 gl
  replace g1 := cK b g1 gl
  replace gl := lK b gl
  replace cc := bK cc b
  clear b
  go_wp2_with fail
  refine (add_N dq o (by omega) (by omega)).mono ?_
  rintro e w7 ⟨Aa, na, ca, rfl, a, b⟩
  replace f0 := fK b f0 gl
  replace f1 := fK b f1 gl
  replace p0 := p0.on b
  replace q0 := q0.on b
  replace v := v.on b
  replace dq := dq.on b
  replace dr := dr.on b
  replace o := o.on b
  replace r0 := cK b r0 rl
  replace r1 := cK b r1 rl
  replace r2 := cK b r2 rl
  replace rl := lK b rl
  replace k0 := cK b k0 kl
  replace k1 := cK b k1 kl
  replace k2 := cK b k2 kl
  replace kl := lK b kl
  replace g0 := cK b g0 gl
  replace g1 := cK b g1 gl
  replace gl := lK b gl
  replace cc := bK cc b
  clear b
  have hn0 : 0 < na := a.some_len (by omega)
  have hn1 : decide ((0 : Int) < (na : Int)) = true := decide_eq_true (by omega)
  have hn2 : decide (0 < na) = true := decide_eq_true hn0
  have hn : Zn w7 true Aa na ca (nea x0 k) := by rw [HV.out]; exact zn_minus a (by omega)
  have eb : Box w7 (w.heap.size + 1) false none 0 0 := ⟨g0, g1⟩
  have HZ : Hid (Zn ((w7.setCell ⟨w.heap.size + 1, 0, none⟩ (.bool true)).setCell ⟨w.heap.size + 1, 1, none⟩ (.slice Aa na ca)) true Aa na ca (nea x0 k)) := Lib.hid (hn.put eb _ _)
  clear hn
  go_wp2_with fail
  refine bodyPost_ret (v := .tuple #[.agg #[.bool true, .slice Aa na ca], .int .i64 0]) (by simp [results, Tryz.results60, go_sem, g0, g1]) rfl ⟨_, _, _, _, rfl, HZ.out, below_put cc (by omega) _ _⟩

set_option maxRecDepth 100000 in
set_option maxHeartbeats 8000000 in
theorem rdnea_N {w : World} {b0 : Bool} {A0 B0 : Option Addr} {n0 c0 m0 d0 : Nat} {g : Nat} {x0 : Rat} (hx : Rt w b0 A0 n0 c0 B0 m0 d0 x0) (s0 : Sz x0 20) {j : Int} (h0 : 0 ≤ j) (h1 : j ≤ 500) (hg : BoxR w g b0 A0 n0 c0 B0 m0 d0) :
    Calls Tryz.prog 60 #[.agg #[.bool b0, .slice A0 n0 c0, .slice B0 m0 d0], .int .i64 j, .func (.func 61) #[] #[.pointer (some ⟨g, 0, none⟩)]] w (GotZp w (nea x0 j.toNat) 0) := by
  by_cases hs : x0.num < 0
  · cases ht : fars (x0.num.natAbs * 2 ^ j.toNat) x0.den
    · by_cases hz : x0.num.natAbs * 2 ^ j.toNat / x0.den = 0
      · exact rdnea_tf0 hx s0 h0 h1 hg hs ht hz
      · exact rdnea_tf1 hx s0 h0 h1 hg hs ht hz
    · exact rdnea_tt hx s0 h0 h1 hg hs ht
  · cases ht : fars (x0.num.natAbs * 2 ^ j.toNat) x0.den
    · exact rdnea_ff hx s0 h0 h1 hg hs ht
    · exact rdnea_ft hx s0 h0 h1 hg hs ht

set_option maxRecDepth 100000 in
set_option maxHeartbeats 8000000 in
theorem rd_no {w : World} {b0 : Bool} {A0 B0 : Option Addr} {n0 c0 m0 d0 : Nat} {fv : Value} {j : Int} (h : j < 0 ∨ 2000 < j) :
    Calls Tryz.prog 60 #[.agg #[.bool b0, .slice A0 n0 c0, .slice B0 m0 d0], .int .i64 j, fv] w (GotZp w 0 1) := by
  have cc := Below.refl w.heap.size w
  go_enter Tryz.func60, Tryz.ntmps60
  go_wp2_with fail
  have f0 : ((w.alloc (.cells #[.bool b0, .slice A0 n0 c0, .slice B0 m0 d0] 33)).alloc (.cells #[.bool false, .slice none 0 0] 31)).frozen? ⟨w.heap.size + 1, 0, none⟩ = false := by simp [go_sem]
  have f1 : ((w.alloc (.cells #[.bool b0, .slice A0 n0 c0, .slice B0 m0 d0] 33)).alloc (.cells #[.bool false, .slice none 0 0] 31)).frozen? ⟨w.heap.size + 1, 1, none⟩ = false := by simp [go_sem]
  have bA : Below w.heap.size w ((w.alloc (.cells #[.bool b0, .slice A0 n0 c0, .slice B0 m0 d0] 33)).alloc (.cells #[.bool false, .slice none 0 0] 31)) := (((Below.refl _ w).alloc (by simp) _).alloc (by simp) _)
  replace cc := bK cc bA
  clear bA
  have k0 : ((w.alloc (.cells #[.bool b0, .slice A0 n0 c0, .slice B0 m0 d0] 33)).alloc (.cells #[.bool false, .slice none 0 0] 31)).cell? ⟨w.heap.size, 0, none⟩ = some (.bool b0) := by simp [go_sem]
  have k1 : ((w.alloc (.cells #[.bool b0, .slice A0 n0 c0, .slice B0 m0 d0] 33)).alloc (.cells #[.bool false, .slice none 0 0] 31)).cell? ⟨w.heap.size, 1, none⟩ = some (.slice A0 n0 c0) := by simp [go_sem]
  have k2 : ((w.alloc (.cells #[.bool b0, .slice A0 n0 c0, .slice B0 m0 d0] 33)).alloc (.cells #[.bool false, .slice none 0 0] 31)).cell? ⟨w.heap.size, 2, none⟩ = some (.slice B0 m0 d0) := by simp [go_sem]
  have kl : w.heap.size < ((w.alloc (.cells #[.bool b0, .slice A0 n0 c0, .slice B0 m0 d0] 33)).alloc (.cells #[.bool false, .slice none 0 0] 31)).heap.size := by simp <;> omega
  have g0 : ((w.alloc (.cells #[.bool b0, .slice A0 n0 c0, .slice B0 m0 d0] 33)).alloc (.cells #[.bool false, .slice none 0 0] 31)).cell? ⟨w.heap.size + 1, 0, none⟩ = some (.bool false) := by simp [go_sem]
  have g1 : ((w.alloc (.cells #[.bool b0, .slice A0 n0 c0, .slice B0 m0 d0] 33)).alloc (.cells #[.bool false, .slice none 0 0] 31)).cell? ⟨w.heap.size + 1, 1, none⟩ = some (.slice none 0 0) := by simp [go_sem]
  have gl : w.heap.size + 1 < ((w.alloc (.cells #[.bool b0, .slice A0 n0 c0, .slice B0 m0 d0] 33)).alloc (.cells #[.bool false, .slice none 0 0] 31)).heap.size := by simp <;> omega
  generalize (w.alloc (.cells #[.bool b0, .slice A0 n0 c0, .slice B0 m0 d0] 33)).alloc (.cells #[.bool false, .slice none 0 0] 31) = v1 at *
  refine (isgrid_no _ h).mono ?_
  rintro e w2 ⟨rfl, b⟩
  replace f0 := fK b f0 gl
  replace f1 := fK b f1 gl
  replace k0 := cK b k0 kl
  replace k1 := cK b k1 kl
  replace k2 := cK b k2 kl
  replace kl := lK b kl
  replace g0 := cK b g0 gl
  replace g1 := cK b g1 gl
  replace gl := lK b gl
  replace cc := bK cc b
  clear b
  have eb : Box w2 (w.heap.size + 1) false none 0 0 := ⟨g0, g1⟩
  have HZ := Lib.hid (Zn.put (zn_none w2) eb (.bool false) (.slice none 0 0))
  go_wp2_with fail
  exact bodyPost_ret (v := .tuple #[.agg #[.bool false, .slice none 0 0], .int .i64 1]) (by simp [results, Tryz.results60, go_sem, g0, g1]) rfl ⟨_, _, _, _, rfl, HZ.out, below_put cc (by omega) _ _⟩

end Go.Proofs.YtccigpnebejbiaaGreat
