/-
  Several texts in one: H12, H14, MathR, R3, H15, MathS.
-/
import Derived.Test.YtanpklbconflmaaGreatA5
import Derived.Test.YtanpklbconflmaaGreatA3
import Derived.Test.YtanpklbconflmaaGreatA2

/-
  The contracts of the seventh reference: Mul.
-/
namespace Go.Proofs.YtanpklbconflmaaGreat
set_option maxRecDepth 100000
open Go.RowKit
set_option linter.unusedVariables false
set_option linter.unusedSimpArgs false

def four (a b c d : Rat) : Nat → Rat := fun i => if i = 0 then a else if i = 1 then b else if i = 2 then c else d
theorem row4 {W : World} {g : Nat} {b0 b1 b2 b3 : Bool} {A0 B0 A1 B1 A2 B2 A3 B3 : Option Addr} {n0 c0 m0 d0 n1 c1 m1 d1 n2 c2 m2 d2 n3 c3 m3 d3 : Nat} {x0 x1 x2 x3 : Rat} (c0_ : W.cell? ⟨g, 0, none⟩ = some (.bool b0)) (c1_ : W.cell? ⟨g, 1, none⟩ = some (.slice A0 n0 c0)) (c2_ : W.cell? ⟨g, 2, none⟩ = some (.slice B0 m0 d0)) (c3_ : W.cell? ⟨g, 3, none⟩ = some (.bool b1)) (c4_ : W.cell? ⟨g, 4, none⟩ = some (.slice A1 n1 c1)) (c5_ : W.cell? ⟨g, 5, none⟩ = some (.slice B1 m1 d1)) (c6_ : W.cell? ⟨g, 6, none⟩ = some (.bool b2)) (c7_ : W.cell? ⟨g, 7, none⟩ = some (.slice A2 n2 c2)) (c8_ : W.cell? ⟨g, 8, none⟩ = some (.slice B2 m2 d2)) (c9_ : W.cell? ⟨g, 9, none⟩ = some (.bool b3)) (c10_ : W.cell? ⟨g, 10, none⟩ = some (.slice A3 n3 c3)) (c11_ : W.cell? ⟨g, 11, none⟩ = some (.slice B3 m3 d3)) (k0 : Rt W b0 A0 n0 c0 B0 m0 d0 x0) (k1 : Rt W b1 A1 n1 c1 B1 m1 d1 x1) (k2 : Rt W b2 A2 n2 c2 B2 m2 d2 x2) (k3 : Rt W b3 A3 n3 c3 B3 m3 d3 x3) : RowR W g 4 (four x0 x1 x2 x3) := by
  intro i hi
  match i, hi with
  | 0, _ => exact ⟨_, _, _, _, _, _, _, c0_, c1_, c2_, k0⟩
  | 1, _ => exact ⟨_, _, _, _, _, _, _, c3_, c4_, c5_, k1⟩
  | 2, _ => exact ⟨_, _, _, _, _, _, _, c6_, c7_, c8_, k2⟩
  | 3, _ => exact ⟨_, _, _, _, _, _, _, c9_, c10_, c11_, k3⟩
theorem four_sz {a b c d : Rat} {k : Nat} (ha : Sz a k) (hb : Sz b k) (hc : Sz c k) (hd : Sz d k) : ∀ i, i < 4 → Sz (four a b c d i) k := by
  intro i hi
  match i, hi with
  | 0, _ => exact ha
  | 1, _ => exact hb
  | 2, _ => exact hc
  | 3, _ => exact hd
/-- The ends of a product. -/
def mlo (a b c d : Rat) : Rat := lowR (four (a * c) (a * d) (b * c) (b * d)) 4
def mhi (a b c d : Rat) : Rat := highR (four (a * c) (a * d) (b * c) (b * d)) 4

set_option maxHeartbeats 8000000 in
theorem stmul_N {w : World} {b0 p0 : Bool} {A0 B0 V0 U0 : Option Addr} {n0 c0 m0 d0 r0 k0 o0 q0 : Nat} {b1 p1 : Bool} {A1 B1 V1 U1 : Option Addr} {n1 c1 m1 d1 r1 k1 o1 q1 : Nat} {x0 y0 : Rat} (h0 : Rt w b0 A0 n0 c0 B0 m0 d0 x0) (g0 : Rt w p0 V0 r0 k0 U0 o0 q0 y0) (s0 : Sz x0 40) (t0 : Sz y0 40) {x1 y1 : Rat} (h1 : Rt w b1 A1 n1 c1 B1 m1 d1 x1) (g1 : Rt w p1 V1 r1 k1 U1 o1 q1 y1) (s1 : Sz x1 40) (t1 : Sz y1 40) :
    Calls Tryz.prog 27 #[.agg #[.bool b0, .slice A0 n0 c0, .slice B0 m0 d0, .bool p0, .slice V0 r0 k0, .slice U0 o0 q0], .agg #[.bool b1, .slice A1 n1 c1, .slice B1 m1 d1, .bool p1, .slice V1 r1 k1, .slice U1 o1 q1]] w (GotSt w (mlo x0 y0 x1 y1) (mhi x0 y0 x1 y1)) := by
  have z1 := s0.mul s1
  have z2 := s0.mul t1
  have z3 := t0.mul s1
  have z4 := t0.mul t1
  have HS := Lib.hid (four_sz (z1.le (show 40 + 40 ≤ 100 by omega)) (z2.le (show 40 + 40 ≤ 100 by omega)) (z3.le (show 40 + 40 ≤ 100 by omega)) (z4.le (show 40 + 40 ≤ 100 by omega)))
  clear z1 z2 z3 z4
  have cc := Below.refl w.heap.size w
  go_enter Tryz.func27, Tryz.ntmps27
  go_wp2_with fail
  generalize hv_ : ((w.alloc (.cells #[.bool b0, .slice A0 n0 c0, .slice B0 m0 d0, .bool p0, .slice V0 r0 k0, .slice U0 o0 q0] 29)).alloc (.cells #[.bool b1, .slice A1 n1 c1, .slice B1 m1 d1, .bool p1, .slice V1 r1 k1, .slice U1 o1 q1] 29)).alloc (.cells #[.bool false, .slice none 0 0, .slice none 0 0, .bool false, .slice none 0 0, .slice none 0 0] 29) = v1
  obtain ⟨f0, f1, f2, f3, f4, f5⟩ : Fz6 v1 (w.heap.size + 1 + 1) := by simp [Fz6, ← hv_, go_sem]
  have bA : Below w.heap.size w v1 := by rw [← hv_]; exact ((((Below.refl _ w).alloc (by simp) _).alloc (by simp) _).alloc (by simp <;> omega) _)
  replace h0 := h0.on bA
  replace g0 := g0.on bA
  replace h1 := h1.on bA
  replace g1 := g1.on bA
  replace cc := bK cc bA
  clear bA
  obtain ⟨ka0, ka1, ka2, ka3, ka4, ka5⟩ : Cs6 v1 w.heap.size (.bool b0) (.slice A0 n0 c0) (.slice B0 m0 d0) (.bool p0) (.slice V0 r0 k0) (.slice U0 o0 q0) := by simp [Cs6, ← hv_, go_sem]
  have kal : w.heap.size < v1.heap.size := by simp [← hv_] <;> omega
  obtain ⟨kb0, kb1, kb2, kb3, kb4, kb5⟩ : Cs6 v1 (w.heap.size + 1) (.bool b1) (.slice A1 n1 c1) (.slice B1 m1 d1) (.bool p1) (.slice V1 r1 k1) (.slice U1 o1 q1) := by simp [Cs6, ← hv_, go_sem]
  have kbl : w.heap.size + 1 < v1.heap.size := by simp [← hv_] <;> omega
  obtain ⟨g_0, g_1, g_2, g_3, g_4, g_5⟩ : Cs6 v1 (w.heap.size + 1 + 1) (.bool false) (.slice none 0 0) (.slice none 0 0) (.bool false) (.slice none 0 0) (.slice none 0 0) := by simp [Cs6, ← hv_, go_sem]
  have g_l : w.heap.size + 1 + 1 < v1.heap.size := by simp [← hv_] <;> omega
  clear hv_
  have bD : Below v1.heap.size v1 v1.drew := below_drewN (Below.refl _ v1) 1
  rewrite [fR bD g_l] at f0 f1 f2 f3 f4 f5
  replace h0 := h0.on bD
  replace g0 := g0.on bD
  replace h1 := h1.on bD
  replace g1 := g1.on bD
  rewrite [cR bD kal] at ka0 ka1 ka2 ka3 ka4 ka5
  replace kal := lK bD kal
  rewrite [cR bD kbl] at kb0 kb1 kb2 kb3 kb4 kb5
  replace kbl := lK bD kbl
  rewrite [cR bD g_l] at g_0 g_1 g_2 g_3 g_4 g_5
  replace g_l := lK bD g_l
  replace cc := bK cc bD
  clear bD
  refine wp_region_held_drew (S := fun w' => w'.cell? ⟨w.heap.size, 0, none⟩ = some (.bool b0) ∧ w'.cell? ⟨w.heap.size, 1, none⟩ = some (.slice A0 n0 c0) ∧ w'.cell? ⟨w.heap.size, 2, none⟩ = some (.slice B0 m0 d0) ∧ w'.cell? ⟨w.heap.size, 3, none⟩ = some (.bool p0) ∧ w'.cell? ⟨w.heap.size, 4, none⟩ = some (.slice V0 r0 k0) ∧ w'.cell? ⟨w.heap.size, 5, none⟩ = some (.slice U0 o0 q0) ∧ w'.cell? ⟨w.heap.size + 1, 0, none⟩ = some (.bool b1) ∧ w'.cell? ⟨w.heap.size + 1, 1, none⟩ = some (.slice A1 n1 c1) ∧ w'.cell? ⟨w.heap.size + 1, 2, none⟩ = some (.slice B1 m1 d1) ∧ w'.cell? ⟨w.heap.size + 1, 3, none⟩ = some (.bool p1) ∧ w'.cell? ⟨w.heap.size + 1, 4, none⟩ = some (.slice V1 r1 k1) ∧ w'.cell? ⟨w.heap.size + 1, 5, none⟩ = some (.slice U1 o1 q1)) (by kernel_rfl) ?_ (fun hHeld => ?_)
  · exact ⟨ka0, ka1, ka2, ka3, ka4, ka5, kb0, kb1, kb2, kb3, kb4, kb5⟩
  refine wpAnyH_take (i := 0) (v := ?_) rfl (by kernel_rfl) (by kernel_rfl) (by kernel_rfl) (fun _ _ _ h => h) (Or.inl ⟨by rfl, ?_⟩) hHeld ?_
  rotate_left
  · (intro w hSw; (try dsimp only at hSw); go_simp; (try with_reducible rfl))
  try simp only [Act.put, pT]
  refine wpAnyH_take (i := 1) (v := ?_) rfl (by kernel_rfl) (by kernel_rfl) (by kernel_rfl) (fun _ _ _ h => h) (Or.inl ⟨by rfl, ?_⟩) hHeld ?_
  rotate_left
  · (intro w hSw; (try dsimp only at hSw); go_simp; (try with_reducible rfl))
  try simp only [Act.put, pT]
  refine wpAnyH_take (i := 2) (v := ?_) rfl (by kernel_rfl) (by kernel_rfl) (by kernel_rfl) (fun _ _ _ h => h) (Or.inl ⟨by rfl, ?_⟩) hHeld ?_
  rotate_left
  · (intro w hSw; (try dsimp only at hSw); go_simp; (try with_reducible rfl))
  try simp only [Act.put, pT]
  refine wpAnyH_take (i := 3) (v := ?_) rfl (by kernel_rfl) (by kernel_rfl) (by kernel_rfl) (fun _ _ _ h => h) (Or.inl ⟨by rfl, ?_⟩) hHeld ?_
  rotate_left
  · (intro w hSw; (try dsimp only at hSw); go_simp; (try with_reducible rfl))
  try simp only [Act.put, pT]
  refine wpAnyH_take (i := 5) (v := ?_) rfl (by kernel_rfl) (by kernel_rfl) (by kernel_rfl) (fun _ _ _ h => h) (Or.inl ⟨by rfl, ?_⟩) hHeld ?_
  rotate_left
  · (intro w hSw; (try dsimp only at hSw); go_simp; (try with_reducible rfl))
  try simp only [Act.put, pT]
  refine wpAnyH_take (i := 6) (v := ?_) rfl (by kernel_rfl) (by kernel_rfl) (by kernel_rfl) (fun _ _ _ h => h) (Or.inl ⟨by rfl, ?_⟩) hHeld ?_
  rotate_left
  · (intro w hSw; (try dsimp only at hSw); go_simp; (try with_reducible rfl))
  try simp only [Act.put, pT]
  refine wpAnyH_take (i := 7) (v := ?_) rfl (by kernel_rfl) (by kernel_rfl) (by kernel_rfl) (fun _ _ _ h => h) (Or.inl ⟨by rfl, ?_⟩) hHeld ?_
  rotate_left
  · (intro w hSw; (try dsimp only at hSw); go_simp; (try with_reducible rfl))
  try simp only [Act.put, pT]
  refine wpAnyH_take (i := 8) (v := ?_) rfl (by kernel_rfl) (by kernel_rfl) (by kernel_rfl) (fun _ _ _ h => h) (Or.inl ⟨by rfl, ?_⟩) hHeld ?_
  rotate_left
  · (intro w hSw; (try dsimp only at hSw); go_simp; (try with_reducible rfl))
  try simp only [Act.put, pT]
  refine wpAnyH_take (i := 10) (v := ?_) rfl (by kernel_rfl) (by kernel_rfl) (by kernel_rfl) (fun _ _ _ h => h) (Or.inl ⟨by rfl, ?_⟩) hHeld ?_
  rotate_left
  · (intro w hSw; (try dsimp only at hSw); go_simp; (try with_reducible rfl))
  try simp only [Act.put, pT]
  refine wpAnyH_take (i := 11) (v := ?_) rfl (by kernel_rfl) (by kernel_rfl) (by kernel_rfl) (fun _ _ _ h => h) (Or.inl ⟨by rfl, ?_⟩) hHeld ?_
  rotate_left
  · (intro w hSw; (try dsimp only at hSw); go_simp; (try with_reducible rfl))
  try simp only [Act.put, pT]
  refine wpAnyH_take (i := 12) (v := ?_) rfl (by kernel_rfl) (by kernel_rfl) (by kernel_rfl) (fun _ _ _ h => h) (Or.inl ⟨by rfl, ?_⟩) hHeld ?_
  rotate_left
  · (intro w hSw; (try dsimp only at hSw); go_simp; (try with_reducible rfl))
  try simp only [Act.put, pT]
  refine wpAnyH_take (i := 13) (v := ?_) rfl (by kernel_rfl) (by kernel_rfl) (by kernel_rfl) (fun _ _ _ h => h) (Or.inl ⟨by rfl, ?_⟩) hHeld ?_
  rotate_left
  · (intro w hSw; (try dsimp only at hSw); go_simp; (try with_reducible rfl))
  try simp only [Act.put, pT]
  refine wpAnyH_take (i := 15) (v := ?_) rfl (by kernel_rfl) (by kernel_rfl) (by kernel_rfl) (fun _ _ _ h => h) (Or.inl ⟨by rfl, ?_⟩) hHeld ?_
  rotate_left
  · (intro w hSw; (try dsimp only at hSw); go_simp; (try with_reducible rfl))
  try simp only [Act.put, pT]
  refine wpAnyH_take (i := 16) (v := ?_) rfl (by kernel_rfl) (by kernel_rfl) (by kernel_rfl) (fun _ _ _ h => h) (Or.inl ⟨by rfl, ?_⟩) hHeld ?_
  rotate_left
  · (intro w hSw; (try dsimp only at hSw); go_simp; (try with_reducible rfl))
  try simp only [Act.put, pT]
  refine wpAnyH_take (i := 17) (v := ?_) rfl (by kernel_rfl) (by kernel_rfl) (by kernel_rfl) (fun _ _ _ h => h) (Or.inl ⟨by rfl, ?_⟩) hHeld ?_
  rotate_left
  · (intro w hSw; (try dsimp only at hSw); go_simp; (try with_reducible rfl))
  try simp only [Act.put, pT]
  refine wpAnyH_take (i := 18) (v := ?_) rfl (by kernel_rfl) (by kernel_rfl) (by kernel_rfl) (fun _ _ _ h => h) (Or.inl ⟨by rfl, ?_⟩) hHeld ?_
  rotate_left
  · (intro w hSw; (try dsimp only at hSw); go_simp; (try with_reducible rfl))
  try simp only [Act.put, pT]
  refine wpAnyH_ready (rs := [4]) (by kernel_rfl) (by simp) ?_
  refine AllReadyH.cons rfl (fun K hK => ?_) AllReadyH.nil
  (try simp only [pT])
  rw [if_pos (by rfl)]
  go_simp
  go_at_call 34
  refine (rtmul_N h0 s0 h1 s1).mono ?_
  rintro e w2 ⟨be, Ae, ne, ce, Be, me, de, rfl, ye, b⟩
  rewrite [fR b g_l] at f0 f1 f2 f3 f4 f5
  replace h0 := h0.on b
  replace g0 := g0.on b
  replace h1 := h1.on b
  replace g1 := g1.on b
  rewrite [cR b kal] at ka0 ka1 ka2 ka3 ka4 ka5
  replace kal := lK b kal
  rewrite [cR b kbl] at kb0 kb1 kb2 kb3 kb4 kb5
  replace kbl := lK b kbl
  rewrite [cR b g_l] at g_0 g_1 g_2 g_3 g_4 g_5
  replace g_l := lK b g_l
  replace cc := bK cc b
  clear b
  refine hK.out _ _ ?_ (fun hHeld => ?_)
  · exact ⟨ka0, ka1, ka2, ka3, ka4, ka5, kb0, kb1, kb2, kb3, kb4, kb5⟩
  clear hK K
  try simp only [Act.put, pT]
  refine wpAnyH_ready (rs := [9]) (by kernel_rfl) (by simp) ?_
  refine AllReadyH.cons rfl (fun K hK => ?_) AllReadyH.nil
  (try simp only [pT])
  rw [if_pos (by rfl)]
  go_simp
  go_at_call 34
  refine (rtmul_N h0 s0 g1 t1).mono ?_
  rintro e w3 ⟨bf, Af, nf, cf, Bf, mf, df, rfl, yf, b⟩
  rewrite [fR b g_l] at f0 f1 f2 f3 f4 f5
  replace h0 := h0.on b
  replace g0 := g0.on b
  replace h1 := h1.on b
  replace g1 := g1.on b
  replace ye := ye.on b
  rewrite [cR b kal] at ka0 ka1 ka2 ka3 ka4 ka5
  replace kal := lK b kal
  rewrite [cR b kbl] at kb0 kb1 kb2 kb3 kb4 kb5
  replace kbl := lK b kbl
  rewrite [cR b g_l] at g_0 g_1 g_2 g_3 g_4 g_5
  replace g_l := lK b g_l
  replace cc := bK cc b
  clear b
  refine hK.out _ _ ?_ (fun hHeld => ?_)
  · exact ⟨ka0, ka1, ka2, ka3, ka4, ka5, kb0, kb1, kb2, kb3, kb4, kb5⟩
  clear hK K
  try simp only [Act.put, pT]
  refine wpAnyH_ready (rs := [14]) (by kernel_rfl) (by simp) ?_
  refine AllReadyH.cons rfl (fun K hK => ?_) AllReadyH.nil
  (try simp only [pT])
  rw [if_pos (by rfl)]
  go_simp
  go_at_call 34
  refine (rtmul_N g0 t0 h1 s1).mono ?_
  rintro e w4 ⟨bi, Ai, ni, ci, Bi, mi, di, rfl, yi, b⟩
  rewrite [fR b g_l] at f0 f1 f2 f3 f4 f5
  replace h0 := h0.on b
  replace g0 := g0.on b
  replace h1 := h1.on b
  replace g1 := g1.on b
  replace ye := ye.on b
  replace yf := yf.on b
  rewrite [cR b kal] at ka0 ka1 ka2 ka3 ka4 ka5
  replace kal := lK b kal
  rewrite [cR b kbl] at kb0 kb1 kb2 kb3 kb4 kb5
  replace kbl := lK b kbl
  rewrite [cR b g_l] at g_0 g_1 g_2 g_3 g_4 g_5
  replace g_l := lK b g_l
  replace cc := bK cc b
  clear b
  refine hK.out _ _ ?_ (fun hHeld => ?_)
  · exact ⟨ka0, ka1, ka2, ka3, ka4, ka5, kb0, kb1, kb2, kb3, kb4, kb5⟩
  clear hK K
  try simp only [Act.put, pT]
  refine wpAnyH_ready (rs := [19]) (by kernel_rfl) (by simp) ?_
  refine AllReadyH.cons rfl (fun K hK => ?_) AllReadyH.nil
  (try simp only [pT])
  rw [if_pos (by rfl)]
  go_simp
  go_at_call 34
  refine (rtmul_N g0 t0 g1 t1).mono ?_
  rintro e w5 ⟨bj, Aj, nj, cj, Bj, mj, dj, rfl, yj, b⟩
  rewrite [fR b g_l] at f0 f1 f2 f3 f4 f5
  replace h0 := h0.on b
  replace g0 := g0.on b
  replace h1 := h1.on b
  replace g1 := g1.on b
  replace ye := ye.on b
  replace yf := yf.on b
  replace yi := yi.on b
  rewrite [cR b kal] at ka0 ka1 ka2 ka3 ka4 ka5
  replace kal := lK b kal
  rewrite [cR b kbl] at kb0 kb1 kb2 kb3 kb4 kb5
  replace kbl := lK b kbl
  rewrite [cR b g_l] at g_0 g_1 g_2 g_3 g_4 g_5
  replace g_l := lK b g_l
  replace cc := bK cc b
  clear b
  refine hK.out _ _ ?_ (fun hHeld => ?_)
  · exact ⟨ka0, ka1, ka2, ka3, ka4, ka5, kb0, kb1, kb2, kb3, kb4, kb5⟩
  clear hK K
  try simp only [Act.put, pT]
  refine wpAnyH_ready (rs := [20]) (by kernel_rfl) (by simp) ?_
  refine AllReadyH.cons rfl (fun K hK => ?_) AllReadyH.nil
  (try simp only [pT])
  rw [if_pos (by rfl)]
  go_simp
  generalize hv_ : w5.alloc (.cells #[.bool be, .slice Ae ne ce, .slice Be me de, .bool bf, .slice Af nf cf, .slice Bf mf df, .bool bi, .slice Ai ni ci, .slice Bi mi di, .bool bj, .slice Aj nj cj, .slice Bj mj dj] 27) = v6
  have bA : Below w5.heap.size w5 v6 := by rw [← hv_]; exact below_one _ _
  rewrite [fR bA g_l] at f0 f1 f2 f3 f4 f5
  replace h0 := h0.on bA
  replace g0 := g0.on bA
  replace h1 := h1.on bA
  replace g1 := g1.on bA
  replace ye := ye.on bA
  replace yf := yf.on bA
  replace yi := yi.on bA
  replace yj := yj.on bA
  rewrite [cR bA kal] at ka0 ka1 ka2 ka3 ka4 ka5
  replace kal := lK bA kal
  rewrite [cR bA kbl] at kb0 kb1 kb2 kb3 kb4 kb5
  replace kbl := lK bA kbl
  rewrite [cR bA g_l] at g_0 g_1 g_2 g_3 g_4 g_5
  replace g_l := lK bA g_l
  replace cc := bK cc bA
  clear bA
  have ro0 : v6.cell? ⟨w5.heap.size, 0, none⟩ = some (.bool be) := by simp [← hv_, go_sem]
  have ro1 : v6.cell? ⟨w5.heap.size, 1, none⟩ = some (.slice Ae ne ce) := by simp [← hv_, go_sem]
  have ro2 : v6.cell? ⟨w5.heap.size, 2, none⟩ = some (.slice Be me de) := by simp [← hv_, go_sem]
  have ro3 : v6.cell? ⟨w5.heap.size, 3, none⟩ = some (.bool bf) := by simp [← hv_, go_sem]
  have ro4 : v6.cell? ⟨w5.heap.size, 4, none⟩ = some (.slice Af nf cf) := by simp [← hv_, go_sem]
  have ro5 : v6.cell? ⟨w5.heap.size, 5, none⟩ = some (.slice Bf mf df) := by simp [← hv_, go_sem]
  have ro6 : v6.cell? ⟨w5.heap.size, 6, none⟩ = some (.bool bi) := by simp [← hv_, go_sem]
  have ro7 : v6.cell? ⟨w5.heap.size, 7, none⟩ = some (.slice Ai ni ci) := by simp [← hv_, go_sem]
  have ro8 : v6.cell? ⟨w5.heap.size, 8, none⟩ = some (.slice Bi mi di) := by simp [← hv_, go_sem]
  have ro9 : v6.cell? ⟨w5.heap.size, 9, none⟩ = some (.bool bj) := by simp [← hv_, go_sem]
  have ro10 : v6.cell? ⟨w5.heap.size, 10, none⟩ = some (.slice Aj nj cj) := by simp [← hv_, go_sem]
  have ro11 : v6.cell? ⟨w5.heap.size, 11, none⟩ = some (.slice Bj mj dj) := by simp [← hv_, go_sem]
  have rol : w5.heap.size < v6.heap.size := by simp [← hv_]
  clear hv_
  refine hK.out _ _ ?_ (fun hHeld => ?_)
  · exact ⟨ka0, ka1, ka2, ka3, ka4, ka5, kb0, kb1, kb2, kb3, kb4, kb5⟩
  clear hK K
  try simp only [Act.put, pT]
  refine wpAnyH_ready (rs := [21]) (by kernel_rfl) (by simp) ?_
  refine AllReadyH.cons rfl (fun K hK => ?_) AllReadyH.nil
  (try simp only [pT])
  rw [if_pos (by rfl)]
  go_simp
  go_at_call 51
  refine (around_N rol (by omega) (by omega) (row4 ro0 ro1 ro2 ro3 ro4 ro5 ro6 ro7 ro8 ro9 ro10 ro11 ye yf yi yj) HS.out).mono ?_
  rintro e w7 ⟨bz, Az, nz, cz, Bz, mz, dz, pz, Vz, rz, kz, Uz, oz, qz, rfl, ⟨hz, gz⟩, b⟩
  rewrite [fR b g_l] at f0 f1 f2 f3 f4 f5
  replace h0 := h0.on b
  replace g0 := g0.on b
  replace h1 := h1.on b
  replace g1 := g1.on b
  replace ye := ye.on b
  replace yf := yf.on b
  replace yi := yi.on b
  replace yj := yj.on b
  rewrite [cR b kal] at ka0 ka1 ka2 ka3 ka4 ka5
  replace kal := lK b kal
  rewrite [cR b kbl] at kb0 kb1 kb2 kb3 kb4 kb5
  replace kbl := lK b kbl
  rewrite [cR b g_l] at g_0 g_1 g_2 g_3 g_4 g_5
  replace g_l := lK b g_l
  rewrite [cR b rol] at ro0 ro1 ro2 ro3 ro4 ro5 ro6 ro7 ro8 ro9 ro10 ro11
  replace rol := lK b rol
  replace cc := bK cc b
  clear b
  refine hK.out _ _ ?_ (fun hHeld => ?_)
  · exact ⟨ka0, ka1, ka2, ka3, ka4, ka5, kb0, kb1, kb2, kb3, kb4, kb5⟩
  clear hK K
  try simp only [Act.put, pT]
  refine wpAnyH_ready (rs := [22]) (by kernel_rfl) (by simp) ?_
  refine AllReadyH.cons rfl (fun K hK => ?_) AllReadyH.nil
  (try simp only [pT])
  rw [if_pos (by rfl)]
  go_simp
  refine hK.out _ _ ?_ (fun hHeld => ?_)
  · exact ⟨(cell_putS (by omega)).trans ka0, (cell_putS (by omega)).trans ka1, (cell_putS (by omega)).trans ka2, (cell_putS (by omega)).trans ka3, (cell_putS (by omega)).trans ka4, (cell_putS (by omega)).trans ka5, (cell_putS (by omega)).trans kb0, (cell_putS (by omega)).trans kb1, (cell_putS (by omega)).trans kb2, (cell_putS (by omega)).trans kb3, (cell_putS (by omega)).trans kb4, (cell_putS (by omega)).trans kb5⟩
  clear hK K
  try simp only [Act.put, pT]
  refine wpAnyH_done (by kernel_rfl) ?_ _
  clear hHeld
  have hb_ : Held w7 (w.heap.size + 1 + 1) := held6 g_0 g_1 g_2 g_3 g_4 g_5
  have HL : Hid (Rt (putS w7 (w.heap.size + 1 + 1) (.bool bz) (.slice Az nz cz) (.slice Bz mz dz) (.bool pz) (.slice Vz rz kz) (.slice Uz oz qz)) bz Az nz cz Bz mz dz (mlo x0 y0 x1 y1)) := Lib.hid (Rt.putS hz hb_ _ _)
  have HH : Hid (Rt (putS w7 (w.heap.size + 1 + 1) (.bool bz) (.slice Az nz cz) (.slice Bz mz dz) (.bool pz) (.slice Vz rz kz) (.slice Uz oz qz)) pz Vz rz kz Uz oz qz (mhi x0 y0 x1 y1)) := Lib.hid (Rt.putS gz hb_ _ _)
  go_wp2_with fail
  refine bodyPost_ret (v := .agg #[.bool bz, .slice Az nz cz, .slice Bz mz dz, .bool pz, .slice Vz rz kz, .slice Uz oz qz]) (by simp [results, Tryz.results27, go_sem, g_0, g_1, g_2, g_3, g_4, g_5]) rfl ⟨_, _, _, _, _, _, _, _, _, _, _, _, _, _, rfl, ⟨HL.out, HH.out⟩, below_putS cc (by omega) _ _ _ _ _ _⟩

end Go.Proofs.YtanpklbconflmaaGreat

/-
  The contracts of the seventh reference: Out; refusals.
-/
namespace Go.Proofs.YtanpklbconflmaaGreat
set_option maxRecDepth 100000
set_option maxHeartbeats 8000000
open Go.RowKit
set_option linter.unusedVariables false
set_option linter.unusedSimpArgs false

theorem stout_N {w : World} {b0 p0 : Bool} {A0 B0 V0 U0 : Option Addr} {n0 c0 m0 d0 r0 k0 o0 q0 : Nat} {x0 y0 : Rat} (h0 : Rt w b0 A0 n0 c0 B0 m0 d0 x0) (g0 : Rt w p0 V0 r0 k0 U0 o0 q0 y0) (s0 : Sz x0 30) (t0 : Sz y0 30) {j : Int} (j0 : 0 ≤ j) (j1 : j ≤ 500) :
    Calls Tryz.prog 29 #[.agg #[.bool b0, .slice A0 n0 c0, .slice B0 m0 d0, .bool p0, .slice V0 r0 k0, .slice U0 o0 q0], .int .i64 j] w (GotSp w (bak (flo x0 j.toNat) j.toNat) (bak (cei y0 j.toNat) j.toNat) 0) := by
  have t1_ : decide (j < 0) = false := decide_eq_false (by omega)
  have t2_ : decide (1000 < j) = false := decide_eq_false (by omega)
  have jl : j.toNat ≤ 500 := by omega
  have ll := flo_len s0 jl
  have lh := cei_len t0 jl
  have cc := Below.refl w.heap.size w
  go_enter Tryz.func29, Tryz.ntmps29
  go_wp2_with fail
  generalize hv_ : (w.alloc (.cells #[.bool b0, .slice A0 n0 c0, .slice B0 m0 d0, .bool p0, .slice V0 r0 k0, .slice U0 o0 q0] 29)).alloc (.cells #[.bool false, .slice none 0 0, .slice none 0 0, .bool false, .slice none 0 0, .slice none 0 0] 29) = v1
  obtain ⟨f0, f1, f2, f3, f4, f5⟩ : Fz6 v1 (w.heap.size + 1) := by simp [Fz6, ← hv_, go_sem]
  have bA : Below w.heap.size w v1 := by rw [← hv_]; exact (((Below.refl _ w).alloc (by simp) _).alloc (by simp) _)
  replace h0 := h0.on bA
  replace g0 := g0.on bA
  replace cc := bK cc bA
  clear bA
  obtain ⟨ka0, ka1, ka2, ka3, ka4, ka5⟩ : Cs6 v1 w.heap.size (.bool b0) (.slice A0 n0 c0) (.slice B0 m0 d0) (.bool p0) (.slice V0 r0 k0) (.slice U0 o0 q0) := by simp [Cs6, ← hv_, go_sem]
  have kal : w.heap.size < v1.heap.size := by simp [← hv_] <;> omega
  obtain ⟨g_0, g_1, g_2, g_3, g_4, g_5⟩ : Cs6 v1 (w.heap.size + 1) (.bool false) (.slice none 0 0) (.slice none 0 0) (.bool false) (.slice none 0 0) (.slice none 0 0) := by simp [Cs6, ← hv_, go_sem]
  have g_l : w.heap.size + 1 < v1.heap.size := by simp [← hv_] <;> omega
  clear hv_
  refine (rfloor_N h0 (s0.le (by omega)) j0 j1).mono ?_
  rintro e w2 ⟨bl, Al, nl, cl, rfl, hl, b⟩
  rewrite [fR b g_l] at f0 f1 f2 f3 f4 f5
  replace h0 := h0.on b
  replace g0 := g0.on b
  rewrite [cR b kal] at ka0 ka1 ka2 ka3 ka4 ka5
  replace kal := lK b kal
  rewrite [cR b g_l] at g_0 g_1 g_2 g_3 g_4 g_5
  replace g_l := lK b g_l
  replace cc := bK cc b
  clear b
  go_wp2_with fail
  generalize hv_ : w2.alloc (.cells #[.bool bl, .slice Al nl cl] 25) = v3
  have bA : Below w2.heap.size w2 v3 := by rw [← hv_]; exact below_one _ _
  rewrite [fR bA g_l] at f0 f1 f2 f3 f4 f5
  replace h0 := h0.on bA
  replace g0 := g0.on bA
  replace hl := hl.on bA
  rewrite [cR bA kal] at ka0 ka1 ka2 ka3 ka4 ka5
  replace kal := lK bA kal
  rewrite [cR bA g_l] at g_0 g_1 g_2 g_3 g_4 g_5
  replace g_l := lK bA g_l
  replace cc := bK cc bA
  clear bA
  obtain ⟨ba0, ba1⟩ : Cs2 v3 w2.heap.size (.bool bl) (.slice Al nl cl) := by simp [Cs2, ← hv_, go_sem]
  have bal : w2.heap.size < v3.heap.size := by simp [← hv_]
  clear hv_
  refine (rceil_N g0 (t0.le (by omega)) j0 j1).mono ?_
  rintro e w4 ⟨bh, Ah, nh, ch, rfl, hh, b⟩
  rewrite [fR b g_l] at f0 f1 f2 f3 f4 f5
  replace h0 := h0.on b
  replace g0 := g0.on b
  replace hl := hl.on b
  rewrite [cR b kal] at ka0 ka1 ka2 ka3 ka4 ka5
  replace kal := lK b kal
  rewrite [cR b g_l] at g_0 g_1 g_2 g_3 g_4 g_5
  replace g_l := lK b g_l
  rewrite [cR b bal] at ba0 ba1
  replace bal := lK b bal
  replace cc := bK cc b
  clear b
  go_wp2_with fail
  generalize hv_ : w4.alloc (.cells #[.bool bh, .slice Ah nh ch] 25) = v5
  have bA : Below w4.heap.size w4 v5 := by rw [← hv_]; exact below_one _ _
  rewrite [fR bA g_l] at f0 f1 f2 f3 f4 f5
  replace h0 := h0.on bA
  replace g0 := g0.on bA
  replace hl := hl.on bA
  replace hh := hh.on bA
  rewrite [cR bA kal] at ka0 ka1 ka2 ka3 ka4 ka5
  replace kal := lK bA kal
  rewrite [cR bA g_l] at g_0 g_1 g_2 g_3 g_4 g_5
  replace g_l := lK bA g_l
  rewrite [cR bA bal] at ba0 ba1
  replace bal := lK bA bal
  replace cc := bK cc bA
  clear bA
  obtain ⟨bb0, bb1⟩ : Cs2 v5 w4.heap.size (.bool bh) (.slice Ah nh ch) := by simp [Cs2, ← hv_, go_sem]
  have bbl : w4.heap.size < v5.heap.size := by simp [← hv_]
  clear hv_
  refine (rback_N hl (by omega) j0 j1).mono ?_
  rintro e w6 ⟨bx, Ax, nx, cx, Bx, mx, dx, rfl, hx, b⟩
  rewrite [fR b g_l] at f0 f1 f2 f3 f4 f5
  replace h0 := h0.on b
  replace g0 := g0.on b
  replace hl := hl.on b
  replace hh := hh.on b
  rewrite [cR b kal] at ka0 ka1 ka2 ka3 ka4 ka5
  replace kal := lK b kal
  rewrite [cR b g_l] at g_0 g_1 g_2 g_3 g_4 g_5
  replace g_l := lK b g_l
  rewrite [cR b bal] at ba0 ba1
  replace bal := lK b bal
  rewrite [cR b bbl] at bb0 bb1
  replace bbl := lK b bbl
  replace cc := bK cc b
  clear b
  go_wp2_with fail
  generalize hv_ : w6.alloc (.cells #[.bool bx, .slice Ax nx cx, .slice Bx mx dx] 27) = v7
  have bA : Below w6.heap.size w6 v7 := by rw [← hv_]; exact below_one _ _
  rewrite [fR bA g_l] at f0 f1 f2 f3 f4 f5
  replace h0 := h0.on bA
  replace g0 := g0.on bA
  replace hl := hl.on bA
  replace hh := hh.on bA
  replace hx := hx.on bA
  rewrite [cR bA kal] at ka0 ka1 ka2 ka3 ka4 ka5
  replace kal := lK bA kal
  rewrite [cR bA g_l] at g_0 g_1 g_2 g_3 g_4 g_5
  replace g_l := lK bA g_l
  rewrite [cR bA bal] at ba0 ba1
  replace bal := lK bA bal
  rewrite [cR bA bbl] at bb0 bb1
  replace bbl := lK bA bbl
  replace cc := bK cc bA
  clear bA
  obtain ⟨bc0, bc1, bc2⟩ : Cs3 v7 w6.heap.size (.bool bx) (.slice Ax nx cx) (.slice Bx mx dx) := by simp [Cs3, ← hv_, go_sem]
  have bcl : w6.heap.size < v7.heap.size := by simp [← hv_]
  clear hv_
  refine (rback_N hh (by omega) j0 j1).mono ?_
  rintro e w8 ⟨bt, At, nt, ct, Bt, mt, dt, rfl, ht, b⟩
  rewrite [fR b g_l] at f0 f1 f2 f3 f4 f5
  replace h0 := h0.on b
  replace g0 := g0.on b
  replace hl := hl.on b
  replace hh := hh.on b
  replace hx := hx.on b
  rewrite [cR b kal] at ka0 ka1 ka2 ka3 ka4 ka5
  replace kal := lK b kal
  rewrite [cR b g_l] at g_0 g_1 g_2 g_3 g_4 g_5
  replace g_l := lK b g_l
  rewrite [cR b bal] at ba0 ba1
  replace bal := lK b bal
  rewrite [cR b bbl] at bb0 bb1
  replace bbl := lK b bbl
  rewrite [cR b bcl] at bc0 bc1 bc2
  replace bcl := lK b bcl
  replace cc := bK cc b
  clear b
  go_upto_region 7 with fail
  generalize hv_ : w8.alloc (.cells #[.bool bt, .slice At nt ct, .slice Bt mt dt] 27) = v9
  have bA : Below w8.heap.size w8 v9 := by rw [← hv_]; exact below_one _ _
  rewrite [fR bA g_l] at f0 f1 f2 f3 f4 f5
  replace h0 := h0.on bA
  replace g0 := g0.on bA
  replace hl := hl.on bA
  replace hh := hh.on bA
  replace hx := hx.on bA
  replace ht := ht.on bA
  rewrite [cR bA kal] at ka0 ka1 ka2 ka3 ka4 ka5
  replace kal := lK bA kal
  rewrite [cR bA g_l] at g_0 g_1 g_2 g_3 g_4 g_5
  replace g_l := lK bA g_l
  rewrite [cR bA bal] at ba0 ba1
  replace bal := lK bA bal
  rewrite [cR bA bbl] at bb0 bb1
  replace bbl := lK bA bbl
  rewrite [cR bA bcl] at bc0 bc1 bc2
  replace bcl := lK bA bcl
  replace cc := bK cc bA
  clear bA
  obtain ⟨bd0, bd1, bd2⟩ : Cs3 v9 w8.heap.size (.bool bt) (.slice At nt ct) (.slice Bt mt dt) := by simp [Cs3, ← hv_, go_sem]
  have bdl : w8.heap.size < v9.heap.size := by simp [← hv_]
  clear hv_
  have hb_ : Held v9 (w.heap.size + 1) := held6 g_0 g_1 g_2 g_3 g_4 g_5
  have HL : Hid (Rt (putS v9 (w.heap.size + 1) (.bool bx) (.slice Ax nx cx) (.slice Bx mx dx) (.bool bt) (.slice At nt ct) (.slice Bt mt dt)) bx Ax nx cx Bx mx dx (bak (flo x0 j.toNat) j.toNat)) := Lib.hid (Rt.putS hx hb_ _ _)
  have HH : Hid (Rt (putS v9 (w.heap.size + 1) (.bool bx) (.slice Ax nx cx) (.slice Bx mx dx) (.bool bt) (.slice At nt ct) (.slice Bt mt dt)) bt At nt ct Bt mt dt (bak (cei y0 j.toNat) j.toNat)) := Lib.hid (Rt.putS ht hb_ _ _)
  go_wp2_with fail
  refine bodyPost_ret (v := .tuple #[.agg #[.bool bx, .slice Ax nx cx, .slice Bx mx dx, .bool bt, .slice At nt ct, .slice Bt mt dt], .int .i64 0]) (by simp [results, Tryz.results29, go_sem, g_0, g_1, g_2, g_3, g_4, g_5]) rfl ⟨_, _, _, _, _, _, _, _, _, _, _, _, _, _, rfl, ⟨HL.out, HH.out⟩, below_putS cc (by omega) _ _ _ _ _ _⟩

theorem stout_no0 {w : World} {b0 p0 : Bool} {A0 B0 V0 U0 : Option Addr} {n0 c0 m0 d0 r0 k0 o0 q0 : Nat} {j : Int} (h : j < 0) :
    Calls Tryz.prog 29 #[.agg #[.bool b0, .slice A0 n0 c0, .slice B0 m0 d0, .bool p0, .slice V0 r0 k0, .slice U0 o0 q0], .int .i64 j] w (GotV w (.tuple #[.agg #[.bool false, .slice none 0 0, .slice none 0 0, .bool false, .slice none 0 0, .slice none 0 0], .int .i64 1])) := by
  have t1_ : decide (j < 0) = true := decide_eq_true h
  have cc := Below.refl w.heap.size w
  go_enter Tryz.func29, Tryz.ntmps29
  go_wp2_with fail
  generalize hv_ : (w.alloc (.cells #[.bool b0, .slice A0 n0 c0, .slice B0 m0 d0, .bool p0, .slice V0 r0 k0, .slice U0 o0 q0] 29)).alloc (.cells #[.bool false, .slice none 0 0, .slice none 0 0, .bool false, .slice none 0 0, .slice none 0 0] 29) = v1
  obtain ⟨f0, f1, f2, f3, f4, f5⟩ : Fz6 v1 (w.heap.size + 1) := by simp [Fz6, ← hv_, go_sem]
  have bA : Below w.heap.size w v1 := by rw [← hv_]; exact (((Below.refl _ w).alloc (by simp) _).alloc (by simp) _)
  replace cc := bK cc bA
  clear bA
  obtain ⟨ka0, ka1, ka2, ka3, ka4, ka5⟩ : Cs6 v1 w.heap.size (.bool b0) (.slice A0 n0 c0) (.slice B0 m0 d0) (.bool p0) (.slice V0 r0 k0) (.slice U0 o0 q0) := by simp [Cs6, ← hv_, go_sem]
  have kal : w.heap.size < v1.heap.size := by simp [← hv_] <;> omega
  obtain ⟨g_0, g_1, g_2, g_3, g_4, g_5⟩ : Cs6 v1 (w.heap.size + 1) (.bool false) (.slice none 0 0) (.slice none 0 0) (.bool false) (.slice none 0 0) (.slice none 0 0) := by simp [Cs6, ← hv_, go_sem]
  have g_l : w.heap.size + 1 < v1.heap.size := by simp [← hv_] <;> omega
  clear hv_
  exact bodyPost_ret (v := .tuple #[.agg #[.bool false, .slice none 0 0, .slice none 0 0, .bool false, .slice none 0 0, .slice none 0 0], .int .i64 1]) (by simp [results, Tryz.results29, go_sem, g_0, g_1, g_2, g_3, g_4, g_5]) rfl ⟨rfl, cc⟩

theorem stout_no1 {w : World} {b0 p0 : Bool} {A0 B0 V0 U0 : Option Addr} {n0 c0 m0 d0 r0 k0 o0 q0 : Nat} {j : Int} (h : 1000 < j) :
    Calls Tryz.prog 29 #[.agg #[.bool b0, .slice A0 n0 c0, .slice B0 m0 d0, .bool p0, .slice V0 r0 k0, .slice U0 o0 q0], .int .i64 j] w (GotV w (.tuple #[.agg #[.bool false, .slice none 0 0, .slice none 0 0, .bool false, .slice none 0 0, .slice none 0 0], .int .i64 1])) := by
  have t1_ : decide (j < 0) = false := decide_eq_false (by omega)
  have t2_ : decide (1000 < j) = true := decide_eq_true h
  have cc := Below.refl w.heap.size w
  go_enter Tryz.func29, Tryz.ntmps29
  go_wp2_with fail
  generalize hv_ : (w.alloc (.cells #[.bool b0, .slice A0 n0 c0, .slice B0 m0 d0, .bool p0, .slice V0 r0 k0, .slice U0 o0 q0] 29)).alloc (.cells #[.bool false, .slice none 0 0, .slice none 0 0, .bool false, .slice none 0 0, .slice none 0 0] 29) = v1
  obtain ⟨f0, f1, f2, f3, f4, f5⟩ : Fz6 v1 (w.heap.size + 1) := by simp [Fz6, ← hv_, go_sem]
  have bA : Below w.heap.size w v1 := by rw [← hv_]; exact (((Below.refl _ w).alloc (by simp) _).alloc (by simp) _)
  replace cc := bK cc bA
  clear bA
  obtain ⟨ka0, ka1, ka2, ka3, ka4, ka5⟩ : Cs6 v1 w.heap.size (.bool b0) (.slice A0 n0 c0) (.slice B0 m0 d0) (.bool p0) (.slice V0 r0 k0) (.slice U0 o0 q0) := by simp [Cs6, ← hv_, go_sem]
  have kal : w.heap.size < v1.heap.size := by simp [← hv_] <;> omega
  obtain ⟨g_0, g_1, g_2, g_3, g_4, g_5⟩ : Cs6 v1 (w.heap.size + 1) (.bool false) (.slice none 0 0) (.slice none 0 0) (.bool false) (.slice none 0 0) (.slice none 0 0) := by simp [Cs6, ← hv_, go_sem]
  have g_l : w.heap.size + 1 < v1.heap.size := by simp [← hv_] <;> omega
  clear hv_
  exact bodyPost_ret (v := .tuple #[.agg #[.bool false, .slice none 0 0, .slice none 0 0, .bool false, .slice none 0 0, .slice none 0 0], .int .i64 1]) (by simp [results, Tryz.results29, go_sem, g_0, g_1, g_2, g_3, g_4, g_5]) rfl ⟨rfl, cc⟩

theorem stsqrt_no0 {w : World} {b0 p0 : Bool} {A0 B0 V0 U0 : Option Addr} {n0 c0 m0 d0 r0 k0 o0 q0 : Nat} {j : Int} (h : j < 0) :
    Calls Tryz.prog 31 #[.agg #[.bool b0, .slice A0 n0 c0, .slice B0 m0 d0, .bool p0, .slice V0 r0 k0, .slice U0 o0 q0], .int .i64 j] w (GotV w (.tuple #[.agg #[.bool false, .slice none 0 0, .slice none 0 0, .bool false, .slice none 0 0, .slice none 0 0], .int .i64 1])) := by
  have t1_ : decide (j < 0) = true := decide_eq_true h
  have cc := Below.refl w.heap.size w
  go_enter Tryz.func31, Tryz.ntmps31
  go_wp2_with fail
  generalize hv_ : (w.alloc (.cells #[.bool b0, .slice A0 n0 c0, .slice B0 m0 d0, .bool p0, .slice V0 r0 k0, .slice U0 o0 q0] 29)).alloc (.cells #[.bool false, .slice none 0 0, .slice none 0 0, .bool false, .slice none 0 0, .slice none 0 0] 29) = v1
  obtain ⟨f0, f1, f2, f3, f4, f5⟩ : Fz6 v1 (w.heap.size + 1) := by simp [Fz6, ← hv_, go_sem]
  have bA : Below w.heap.size w v1 := by rw [← hv_]; exact (((Below.refl _ w).alloc (by simp) _).alloc (by simp) _)
  replace cc := bK cc bA
  clear bA
  obtain ⟨ka0, ka1, ka2, ka3, ka4, ka5⟩ : Cs6 v1 w.heap.size (.bool b0) (.slice A0 n0 c0) (.slice B0 m0 d0) (.bool p0) (.slice V0 r0 k0) (.slice U0 o0 q0) := by simp [Cs6, ← hv_, go_sem]
  have kal : w.heap.size < v1.heap.size := by simp [← hv_] <;> omega
  obtain ⟨g_0, g_1, g_2, g_3, g_4, g_5⟩ : Cs6 v1 (w.heap.size + 1) (.bool false) (.slice none 0 0) (.slice none 0 0) (.bool false) (.slice none 0 0) (.slice none 0 0) := by simp [Cs6, ← hv_, go_sem]
  have g_l : w.heap.size + 1 < v1.heap.size := by simp [← hv_] <;> omega
  clear hv_
  exact bodyPost_ret (v := .tuple #[.agg #[.bool false, .slice none 0 0, .slice none 0 0, .bool false, .slice none 0 0, .slice none 0 0], .int .i64 1]) (by simp [results, Tryz.results31, go_sem, g_0, g_1, g_2, g_3, g_4, g_5]) rfl ⟨rfl, cc⟩

theorem stsqrt_no1 {w : World} {b0 p0 : Bool} {A0 B0 V0 U0 : Option Addr} {n0 c0 m0 d0 r0 k0 o0 q0 : Nat} {j : Int} (h : 1000 < j) :
    Calls Tryz.prog 31 #[.agg #[.bool b0, .slice A0 n0 c0, .slice B0 m0 d0, .bool p0, .slice V0 r0 k0, .slice U0 o0 q0], .int .i64 j] w (GotV w (.tuple #[.agg #[.bool false, .slice none 0 0, .slice none 0 0, .bool false, .slice none 0 0, .slice none 0 0], .int .i64 1])) := by
  have t1_ : decide (j < 0) = false := decide_eq_false (by omega)
  have t2_ : decide (1000 < j) = true := decide_eq_true h
  have cc := Below.refl w.heap.size w
  go_enter Tryz.func31, Tryz.ntmps31
  go_wp2_with fail
  generalize hv_ : (w.alloc (.cells #[.bool b0, .slice A0 n0 c0, .slice B0 m0 d0, .bool p0, .slice V0 r0 k0, .slice U0 o0 q0] 29)).alloc (.cells #[.bool false, .slice none 0 0, .slice none 0 0, .bool false, .slice none 0 0, .slice none 0 0] 29) = v1
  obtain ⟨f0, f1, f2, f3, f4, f5⟩ : Fz6 v1 (w.heap.size + 1) := by simp [Fz6, ← hv_, go_sem]
  have bA : Below w.heap.size w v1 := by rw [← hv_]; exact (((Below.refl _ w).alloc (by simp) _).alloc (by simp) _)
  replace cc := bK cc bA
  clear bA
  obtain ⟨ka0, ka1, ka2, ka3, ka4, ka5⟩ : Cs6 v1 w.heap.size (.bool b0) (.slice A0 n0 c0) (.slice B0 m0 d0) (.bool p0) (.slice V0 r0 k0) (.slice U0 o0 q0) := by simp [Cs6, ← hv_, go_sem]
  have kal : w.heap.size < v1.heap.size := by simp [← hv_] <;> omega
  obtain ⟨g_0, g_1, g_2, g_3, g_4, g_5⟩ : Cs6 v1 (w.heap.size + 1) (.bool false) (.slice none 0 0) (.slice none 0 0) (.bool false) (.slice none 0 0) (.slice none 0 0) := by simp [Cs6, ← hv_, go_sem]
  have g_l : w.heap.size + 1 < v1.heap.size := by simp [← hv_] <;> omega
  clear hv_
  exact bodyPost_ret (v := .tuple #[.agg #[.bool false, .slice none 0 0, .slice none 0 0, .bool false, .slice none 0 0, .slice none 0 0], .int .i64 1]) (by simp [results, Tryz.results31, go_sem, g_0, g_1, g_2, g_3, g_4, g_5]) rfl ⟨rfl, cc⟩

theorem stsqrt_no2 {w : World} {b0 p0 : Bool} {A0 B0 V0 U0 : Option Addr} {n0 c0 m0 d0 r0 k0 o0 q0 : Nat} {j : Int} (ha : 0 ≤ j) (hb : j ≤ 1000) (h : b0 = true) :
    Calls Tryz.prog 31 #[.agg #[.bool b0, .slice A0 n0 c0, .slice B0 m0 d0, .bool p0, .slice V0 r0 k0, .slice U0 o0 q0], .int .i64 j] w (GotV w (.tuple #[.agg #[.bool false, .slice none 0 0, .slice none 0 0, .bool false, .slice none 0 0, .slice none 0 0], .int .i64 1])) := by
  have t1_ : decide (j < 0) = false := decide_eq_false (by omega)
  have t2_ : decide (1000 < j) = false := decide_eq_false (by omega)
  subst h
  have cc := Below.refl w.heap.size w
  go_enter Tryz.func31, Tryz.ntmps31
  go_wp2_with fail
  generalize hv_ : (w.alloc (.cells #[.bool true, .slice A0 n0 c0, .slice B0 m0 d0, .bool p0, .slice V0 r0 k0, .slice U0 o0 q0] 29)).alloc (.cells #[.bool false, .slice none 0 0, .slice none 0 0, .bool false, .slice none 0 0, .slice none 0 0] 29) = v1
  obtain ⟨f0, f1, f2, f3, f4, f5⟩ : Fz6 v1 (w.heap.size + 1) := by simp [Fz6, ← hv_, go_sem]
  have bA : Below w.heap.size w v1 := by rw [← hv_]; exact (((Below.refl _ w).alloc (by simp) _).alloc (by simp) _)
  replace cc := bK cc bA
  clear bA
  obtain ⟨ka0, ka1, ka2, ka3, ka4, ka5⟩ : Cs6 v1 w.heap.size (.bool true) (.slice A0 n0 c0) (.slice B0 m0 d0) (.bool p0) (.slice V0 r0 k0) (.slice U0 o0 q0) := by simp [Cs6, ← hv_, go_sem]
  have kal : w.heap.size < v1.heap.size := by simp [← hv_] <;> omega
  obtain ⟨g_0, g_1, g_2, g_3, g_4, g_5⟩ : Cs6 v1 (w.heap.size + 1) (.bool false) (.slice none 0 0) (.slice none 0 0) (.bool false) (.slice none 0 0) (.slice none 0 0) := by simp [Cs6, ← hv_, go_sem]
  have g_l : w.heap.size + 1 < v1.heap.size := by simp [← hv_] <;> omega
  clear hv_
  exact bodyPost_ret (v := .tuple #[.agg #[.bool false, .slice none 0 0, .slice none 0 0, .bool false, .slice none 0 0, .slice none 0 0], .int .i64 1]) (by simp [results, Tryz.results31, go_sem, g_0, g_1, g_2, g_3, g_4, g_5]) rfl ⟨rfl, cc⟩

end Go.Proofs.YtanpklbconflmaaGreat

/-
  Plain arithmetic of powers and roots.
-/
namespace Go.Proofs.YtanpklbconflmaaGreat

/-- The greatest number up to n whose power of k is at most x. -/
def irootTo (k x : Nat) : Nat → Nat
  | 0 => 0
  | n + 1 => if (n + 1) ^ k ≤ x then n + 1 else irootTo k x n
/-- A root, down. -/
def iroot (k x : Nat) : Nat := irootTo k x x
/-- A root, up. -/
def uroot (k x : Nat) : Nat := if iroot k x ^ k = x then iroot k x else iroot k x + 1

theorem irootTo_pow {k x : Nat} (hk : k ≠ 0) (n : Nat) : irootTo k x n ^ k ≤ x := by
  induction n with
  | zero => unfold irootTo; rw [Nat.zero_pow (by omega)]; omega
  | succ n ih =>
    unfold irootTo
    split
    · assumption
    · exact ih
theorem le_irootTo {k x r : Nat} (n : Nat) (hr : r ≤ n) (h : r ^ k ≤ x) : r ≤ irootTo k x n := by
  induction n with
  | zero => omega
  | succ n ih =>
    unfold irootTo
    split
    · exact hr
    · rename_i hn
      rcases Nat.lt_or_ge n r with h1 | h1
      · have : r = n + 1 := by omega
        subst this; exact absurd h hn
      · exact ih h1
theorem self_le_pow {k : Nat} (r : Nat) (hk : k ≠ 0) : r ≤ r ^ k := Nat.le_self_pow hk r
theorem pow_le {a b : Nat} (k : Nat) (h : a ≤ b) : a ^ k ≤ b ^ k := Nat.pow_le_pow_left h k
theorem pow_lt {a b k : Nat} (hk : k ≠ 0) (h : a < b) : a ^ k < b ^ k := Nat.pow_lt_pow_left h hk
/-- A number is at most the root just if its power is at most the number. -/
theorem le_iroot {k x r : Nat} (hk : k ≠ 0) : r ≤ iroot k x ↔ r ^ k ≤ x := by
  constructor
  · intro h
    exact Nat.le_trans (pow_le k h) (irootTo_pow hk x)
  · intro h
    exact le_irootTo x (Nat.le_trans (self_le_pow r hk) h) h
theorem iroot_pow {k : Nat} (x : Nat) (hk : k ≠ 0) : iroot k x ^ k ≤ x := irootTo_pow hk x
theorem lt_iroot {k : Nat} (x : Nat) (hk : k ≠ 0) : x < (iroot k x + 1) ^ k := by
  rcases Nat.lt_or_ge x ((iroot k x + 1) ^ k) with h | h
  · exact h
  · have := (le_iroot hk).2 h; omega
theorem iroot_eq {k x r : Nat} (hk : k ≠ 0) (h1 : r ^ k ≤ x) (h2 : x < (r + 1) ^ k) : iroot k x = r := by
  have a := (le_iroot hk).2 h1
  rcases Nat.lt_or_ge r (iroot k x) with h | h
  · have := (le_iroot (x := x) (r := r + 1) hk).1 h; omega
  · omega
theorem uroot_le {k x r : Nat} (hk : k ≠ 0) : uroot k x ≤ r ↔ x ≤ r ^ k := by
  unfold uroot
  have h1 := iroot_pow x hk
  have h2 := lt_iroot x hk
  split
  · rename_i e
    constructor
    · intro h
      rw [← e]; exact pow_le k h
    · intro h
      rcases Nat.lt_or_ge r (iroot k x) with h3 | h3
      · have := pow_lt hk h3; omega
      · exact h3
  · rename_i e
    constructor
    · intro h
      have := pow_le k h; omega
    · intro h
      rcases Nat.lt_or_ge (iroot k x) r with h3 | h3
      · exact h3
      · have := pow_le k h3; omega
theorem iroot_le {k : Nat} (x : Nat) (hk : k ≠ 0) : iroot k x ≤ x := Nat.le_trans (self_le_pow _ hk) (iroot_pow x hk)
theorem uroot_le_self {k : Nat} (x : Nat) (hk : k ≠ 0) : uroot k x ≤ x := (uroot_le hk).2 (self_le_pow x hk)

theorem limbs_length_pow {a m : Nat} (h : (limbs a).length ≤ m) (k : Nat) : (limbs (a ^ k)).length ≤ m * k + 1 := by
  refine Nat.le_trans (limbs_length_le (n := a ^ k) (k := m * k + 1) ?_) (Nat.le_refl _)
  have h1 : a ^ k ≤ (B64 ^ m) ^ k := pow_le k (Nat.le_of_lt (lt_of_limbs_length h))
  rw [← Nat.pow_mul] at h1
  have h2 : B64 ^ (m * k) < B64 ^ (m * k + 1) := Nat.pow_lt_pow_right B64_gt (Nat.lt_succ_self _)
  omega

/-- The reference's loop: its start, a step, its end. -/
theorem root_start {a b k : Nat} (hk : k ≠ 0) (ha : a < 2 ^ b) : a < (0 + 2 ^ (b / k + 1)) ^ k := by
  rw [Nat.zero_add, ← Nat.pow_mul]
  refine Nat.lt_of_lt_of_le ha (Nat.pow_le_pow_right (by omega) ?_)
  have := Nat.div_add_mod b k
  have := Nat.mod_lt b (show k > 0 by omega)
  rw [Nat.add_mul, Nat.one_mul, Nat.mul_comm (b / k)]
  omega
theorem root_step {out i : Nat} : out + 2 ^ (i + 1) = out + 2 ^ i + 2 ^ i := by rw [Nat.pow_succ]; omega

end Go.Proofs.YtanpklbconflmaaGreat

/-
  The contracts of the third reference: power, Pow, Root, Up.
-/
namespace Go.Proofs.YtanpklbconflmaaGreat
set_option maxRecDepth 100000
set_option maxHeartbeats 4000000
open Go.RowKit

theorem rpow3_N {w : World} {A : Option Addr} {n c x k : Nat} (ha : Num w A n c x) (hx : (limbs x).length ≤ 1000) (hk : k ≤ 16) : Calls Tryz.prog 134 #[.slice A n c, .int .i64 (k : Int)] w (GotN w (x ^ k)) := by
  go_enter Tryz.func134, Tryz.ntmps134
  go_wp2_with fail
  refine (rof_N w 1 B64_gt).mono ?_
  rintro e w1 ⟨A1, n1, c1, rfl, h1, b1⟩
  go_wp2_with fail
  go_loopw [5, 6] (fun ov iv wr => ∃ (j : Nat) (A' : Option Addr) (n' c' : Nat), j ≤ k ∧ iv = .int .i64 (j : Int) ∧ ov = .slice A' n' c' ∧ Num wr A' n' c' (x ^ j) ∧ Below w.heap.size w wr) (fun _ iv _ => k - (intOf iv).toNat)
  case atStart => exact ⟨0, A1, n1, c1, Nat.zero_le _, rfl, rfl, h1, b1⟩
  case round =>
    obtain ⟨j, A', n', c', hj, rfl, rfl, hN, hb⟩ := hrel
    have hl := limbs_length_pow hx j
    have ha' := ha.on hb
    by_cases hlt : j < k
    · have hl2 : (limbs (x ^ j)).length ≤ 1000000 := by omega
      clear hl
      go_wp2_with fail
      refine (rmul_N hN ha' hl2 (by omega)).mono ?_
      rintro e w2 ⟨A2, n2, c2, rfl, h2, b2⟩
      rw [← Nat.pow_succ] at h2
      go_wp2_with fail
      go_roundw
      case rel => exact ⟨j + 1, A2, n2, c2, by omega, by go_num, rfl, h2, hb.trans (b2.mono hb.size)⟩
      case measure => simp [intOf]; omega
    · obtain rfl : j = k := by omega
      clear hl
      go_wp2_with fail
      go_ret
      exact ⟨_, _, _, rfl, hN, hb⟩

theorem num_none (w : World) (A : Option Addr) (c : Nat) : Num w A 0 c 0 := by
  unfold Num
  rw [limbs_zero]
  exact Lim.nil _ _ _ _
theorem blen_len {x m : Nat} (h : (limbs x).length ≤ m) : blen x ≤ 64 * m := by
  refine blen_le ?_
  have := lt_of_limbs_length h
  rw [B64_pow2] at this
  exact this
theorem limbs_two_pow {i m : Nat} (h : i < 64 * m) : (limbs (2 ^ i)).length ≤ m := by
  refine limbs_length_le ?_
  rw [B64_pow2]
  exact (Nat.pow_lt_pow_iff_right (by omega)).2 h

theorem rroot_N {w : World} {A : Option Addr} {n c x k : Nat} (ha : Num w A n c x) (hx : (limbs x).length ≤ 300) (h1 : 1 ≤ k) (hk : k ≤ 16) : Calls Tryz.prog 101 #[.slice A n c, .int .i64 (k : Int)] w (GotP w (iroot k x) 0) := by
  have hk0 : ¬ k = 0 := by omega
  obtain ⟨b, hb⟩ : ∃ b, blen x = b := ⟨_, rfl⟩
  have hb2 : b ≤ 19200 := by
    rw [← hb]
    exact blen_len hx
  obtain ⟨q, hq⟩ : ∃ q, q = b / k := ⟨_, rfl⟩
  have hq2 : q ≤ 19200 := by rw [hq]; exact Nat.le_trans (Nat.div_le_self _ _) hb2
  have hst : x < (0 + 2 ^ (q + 1)) ^ k := by rw [hq, ← hb]; exact root_start hk0 (lt_blen x)
  have hw : IntKind.i64.wrap ((b : Int) / (k : Int)) = (q : Int) := by
    have h2 : ((b / k : Nat) : Int) = (b : Int) / (k : Int) := by simp
    rw [hq, ← h2, IntWalk.i64_in _ (by omega)]
  have d1 : decide ((k : Int) < 1) = false := by simp; omega
  have d2 : decide (16 < (k : Int)) = false := by simp; omega
  have HB := Lib.hid hb
  have HST := Lib.hid hst
  clear hb hst hq
  go_enter Tryz.func101, Tryz.ntmps101
  go_wp2_with fail
  refine (rbits_N (Num.on ha ((Below.refl _ w).alloc (Nat.le_refl _) _)) (by omega)).mono ?_
  rintro e w1 ⟨rfl, b1⟩
  rw [HB.out]
  have hB1 : Below w.heap.size w w1 := ((Below.refl _ w).alloc (Nat.le_refl _) _).trans (b1.mono (by simp))
  go_wp2_with fail
  clear hw b1
  go_loopw [6, 7] (fun ov iv wr => ∃ (j : Nat) (A' : Option Addr) (n' c' r : Nat), j ≤ q + 1 ∧ iv = .int .i64 ((j : Int) - 1) ∧ ov = .slice A' n' c' ∧ Num wr A' n' c' r ∧ Hid (r ^ k ≤ x) ∧ Hid (x < (r + 2 ^ j) ^ k) ∧ Below w.heap.size w wr) (fun _ iv _ => (intOf iv + 1).toNat)
  case atStart => exact ⟨q + 1, _, _, _, 0, Nat.le_refl _, congrArg (Value.int .i64) (by omega), rfl, num_none _ _ _, Lib.hid (by rw [Nat.zero_pow (by omega)]; omega), HST, hB1⟩
  case round =>
    obtain ⟨j, A', n', c', r, hjq, hiv, rfl, hN, HR, HX, hB⟩ := hrel
    subst hiv
    have ha' := ha.on hB
    have hrx : r ≤ x := Nat.le_trans (self_le_pow r hk0) HR.out
    have hrl : (limbs r).length ≤ 300 := Nat.le_trans (limbs_length_mono hrx) hx
    clear hrx
    cases j with
    | zero =>
      rw [show (((0 : Nat) : Int) - 1) = -1 from rfl]
      have e : iroot k x = r := iroot_eq hk0 HR.out HX.out
      have HE := Lib.hid e
      clear e
      go_wp2_with fail
      go_ret2
      rw [HE.out]
      exact ⟨_, _, _, rfl, hN, hB⟩
    | succ i =>
      rw [show (((i + 1 : Nat) : Int) - 1) = (i : Int) by omega]
      have hi : i ≤ 19200 := by omega
      have hpl := limbs_two_pow (i := i) (m := 301) (by omega)
      have hml := limbs_length_add (Nat.le_trans hrl (by omega)) hpl
      have hpw := limbs_length_pow hml k
      have hpw2 : (limbs ((r + 2 ^ i) ^ k)).length ≤ 1000000 := by
        refine Nat.le_trans hpw ?_
        have : 302 * k ≤ 302 * 16 := Nat.mul_le_mul_left _ hk
        omega
      have HPL := Lib.hid hpl
      clear hpw hpl
      go_wp2_with fail
      refine (rof_N _ 1 B64_gt).mono ?_
      rintro e w2 ⟨A2, n2, c2, rfl, h2, b2⟩
      go_wp2_with fail
      refine (rshl_N h2 (by rw [limbs_one (by omega) B64_gt]; simp) (by omega)).mono ?_
      rintro e w3 ⟨A3, n3, c3, rfl, h3, b3⟩
      rw [Nat.one_mul] at h3
      have c3' := b2.trans (b3.mono b2.size)
      replace hN := hN.on c3'
      replace ha' := ha'.on c3'
      replace hB := hB.trans (c3'.mono hB.size)
      clear b2 b3 c3' h2
      go_wp2_with fail
      refine (radd_N hN h3 (by omega) (by have := HPL.out; omega)).mono ?_
      rintro e w4 ⟨A4, n4, c4, rfl, h4, b4⟩
      replace hN := hN.on b4
      replace ha' := ha'.on b4
      replace hB := bK hB b4
      clear b4 h3
      go_wp2_with fail
      refine (rpow3_N h4 (by omega) hk).mono ?_
      rintro e w5 ⟨A5, n5, c5, rfl, h5, b5⟩
      replace hN := hN.on b5
      replace ha' := ha'.on b5
      replace h4 := h4.on b5
      replace hB := bK hB b5
      clear b5
      go_wp2_with fail
      refine (rcmp_N h5 ha' (by omega) (by omega)).mono ?_
      rintro e w6 ⟨rfl, b6⟩
      replace hN := hN.on b6
      replace h4 := h4.on b6
      replace hB := bK hB b6
      clear b6 h5
      have hX2 := HX.out
      rw [root_step] at hX2
      have HX2 := Lib.hid hX2
      clear hX2 HX
      by_cases hle : (r + 2 ^ i) ^ k ≤ x
      · have hcm : cmpN ((r + 2 ^ i) ^ k) x ≤ 0 := by
          rcases Nat.lt_or_ge ((r + 2 ^ i) ^ k) x with h | h
          · rw [cmpN_lt h]; omega
          · rw [cmpN_zero.2 (by omega)]; omega
        have HLE := Lib.hid hle
        clear hle
        go_wp2_with fail
        go_roundw
        case rel => exact ⟨i, A4, n4, c4, r + 2 ^ i, by omega, rfl, rfl, h4, HLE, HX2, hB⟩
        case measure => simp [intOf]
      · have hcm : ¬ cmpN ((r + 2 ^ i) ^ k) x ≤ 0 := by rw [cmpN_gt (by omega)]; omega
        have HLT : Hid (x < (r + 2 ^ i) ^ k) := Lib.hid (by omega)
        clear hle
        go_wp2_with fail
        go_roundw
        case rel => exact ⟨i, A', n', c', r, by omega, rfl, rfl, hN, HR, HLT, hB⟩
        case measure => simp [intOf]
end Go.Proofs.YtanpklbconflmaaGreat

/-
  The contracts of the seventh reference: square, Sqrt.
-/
namespace Go.Proofs.YtanpklbconflmaaGreat
set_option maxRecDepth 100000
set_option maxHeartbeats 8000000
open Go.RowKit
set_option linter.unusedVariables false
set_option linter.unusedSimpArgs false

theorem len_pow (m : Nat) : (limbs (2 ^ m)).length ≤ m / 64 + 1 := by
  refine limbs_length_le (k := m / 64 + 1) ?_
  rw [show B64 = 2 ^ 64 from rfl, ← Nat.pow_mul]
  exact Nat.pow_lt_pow_right (by omega) (by omega)
/-- The greatest whole number whose square is at most x times 4 to the power of k. -/
def sqr (x : Rat) (k : Nat) : Nat := iroot 2 (x.num.natAbs * 2 ^ (2 * k) / x.den)
theorem iroot2_le (a : Nat) : iroot 2 a ≤ a := by
  have h := iroot_pow (k := 2) a (by omega)
  rcases Nat.eq_zero_or_pos (iroot 2 a) with e | e
  · omega
  · have : iroot 2 a * 1 ≤ iroot 2 a * iroot 2 a := Nat.mul_le_mul_left _ e
    rw [Nat.pow_two] at h
    omega
theorem sqr_len {x : Rat} {k m : Nat} (h : Sz x m) (hk : k ≤ 310) : (limbs (sqr x k)).length ≤ m + 10 := by
  have h1 := len_pow (2 * k)
  have h2 : (limbs (x.num.natAbs * 2 ^ (2 * k))).length ≤ m + 10 := limbs_length_mul h.1 (by omega)
  exact Nat.le_trans (limbs_length_mono (Nat.le_trans (iroot2_le _) (Nat.div_le_self _ _))) h2
/-- The upper end of roots. -/
def sqh (y : Rat) (k : Nat) : Rat := if bak (sqr y k : Int) k * bak (sqr y k : Int) k < y then bak ((sqr y k + 1 : Nat) : Int) k else bak (sqr y k : Int) k

theorem sq_N {w : World} {b : Bool} {A B : Option Addr} {n c m d : Nat} {x : Rat} (h : Rt w b A n c B m d x) (s : Sz x 10) {j : Int} (j0 : 0 ≤ j) (j1 : j ≤ 310) :
    Calls Tryz.prog 59 #[.agg #[.bool b, .slice A n c, .slice B m d], .int .i64 j] w (GotN w (sqr x j.toNat)) := by
  have p0 := h.1.1
  have q0 := h.2
  have hq0 := x.den_nz
  have je := to_nat j0
  obtain ⟨k, hk⟩ : ∃ k, j.toNat = k := ⟨_, rfl⟩
  rw [hk] at je ⊢
  have ew : IntKind.i64.wrap (2 * j) = 2 * j := IntWalk.i64_in _ (by omega)
  have l1 := len_pow (2 * k)
  have lu : (limbs (x.num.natAbs * 2 ^ (2 * k))).length ≤ 20 := Nat.le_trans (limbs_length_mul s.1 l1) (by omega)
  have ld : (limbs (x.num.natAbs * 2 ^ (2 * k) / x.den)).length ≤ 20 := Nat.le_trans (limbs_length_mono (Nat.div_le_self _ _)) lu
  have lp := s.1
  have lq := s.2
  have e2k : ((2 * k : Nat) : Int) = 2 * j := by omega
  have CS : ∀ {W : World} {A : Option Addr} {m c : Nat}, Num W A m c x.num.natAbs → Calls Tryz.prog 68 #[.slice A m c, .int .i64 (2 * j)] W (GotP W (x.num.natAbs * 2 ^ (2 * k)) 0) := fun ha => by rw [← e2k]; exact rshl_N ha (by omega) (by omega)
  obtain ⟨u, hU⟩ : ∃ u, x.num.natAbs * 2 ^ (2 * k) = u := ⟨_, rfl⟩
  have HQ : Hid (sqr x k = iroot 2 (u / x.den)) := Lib.hid (by rw [← hU]; rfl)
  rw [hU] at lu ld CS
  have CR : ∀ {W : World} {A : Option Addr} {m c : Nat}, Num W A m c (u / x.den) → Calls Tryz.prog 101 #[.slice A m c, .int .i64 2] W (GotP W (iroot 2 (u / x.den)) 0) := fun ha => rroot_N (k := 2) ha (by omega) (by omega) (by omega)
  clear hU hk je j0 j1 e2k
  have cc := Below.refl w.heap.size w
  go_enter Tryz.func59, Tryz.ntmps59
  go_wp2_with fail
  generalize hv_ : w.alloc (.cells #[.bool b, .slice A n c, .slice B m d] 27) = v1
  have bA : Below w.heap.size w v1 := by rw [← hv_]; exact ((Below.refl _ w).alloc (by simp) _)
  replace p0 := p0.on bA
  replace q0 := q0.on bA
  replace cc := bK cc bA
  clear bA
  obtain ⟨ka0, ka1, ka2⟩ : Cs3 v1 w.heap.size (.bool b) (.slice A n c) (.slice B m d) := by simp [Cs3, ← hv_, go_sem]
  have kal : w.heap.size < v1.heap.size := by simp [← hv_] <;> omega
  clear hv_
  refine (CS p0).mono ?_
  rintro e w2 ⟨Av, nv, cv, rfl, v, b⟩
  replace p0 := p0.on b
  replace q0 := q0.on b
  rewrite [cR b kal] at ka0 ka1 ka2
  replace kal := lK b kal
  replace cc := bK cc b
  clear b
  go_wp2_with fail
  refine (rdiv_N v q0 (by omega) (by omega) hq0).mono ?_
  rintro e w3 ⟨Aq, nq, cq, Ar, nr_, cr, rfl, dq, dr, b⟩
  replace p0 := p0.on b
  replace q0 := q0.on b
  replace v := v.on b
  rewrite [cR b kal] at ka0 ka1 ka2
  replace kal := lK b kal
  replace cc := bK cc b
  clear b
  go_wp2_with fail
  refine (CR dq).mono ?_
  rintro e w4 ⟨Ar, nr, cr, rfl, r, b⟩
  replace p0 := p0.on b
  replace q0 := q0.on b
  replace v := v.on b
  replace dq := dq.on b
  replace dr := dr.on b
  rewrite [cR b kal] at ka0 ka1 ka2
  replace kal := lK b kal
  replace cc := bK cc b
  clear b
  go_wp2_with fail
  go_ret
  exact ⟨_, _, _, rfl, by rw [HQ.out]; exact r, cc⟩

theorem stsqrt_ge {w : World} {b0 p0 : Bool} {A0 B0 V0 U0 : Option Addr} {n0 c0 m0 d0 r0 k0 o0 q0 : Nat} {x0 y0 : Rat} (h0 : Rt w b0 A0 n0 c0 B0 m0 d0 x0) (g0 : Rt w p0 V0 r0 k0 U0 o0 q0 y0) (s0 : Sz x0 10) (t0 : Sz y0 10) {j : Int} (j0 : 0 ≤ j) (j1 : j ≤ 310) (hb : b0 = false) (hc : ¬ bak (sqr y0 j.toNat : Int) j.toNat * bak (sqr y0 j.toNat : Int) j.toNat < y0) :
    Calls Tryz.prog 31 #[.agg #[.bool b0, .slice A0 n0 c0, .slice B0 m0 d0, .bool p0, .slice V0 r0 k0, .slice U0 o0 q0], .int .i64 j] w (GotSp w (bak (sqr x0 j.toNat : Int) j.toNat) (sqh y0 j.toNat) 0) := by
  have t1_ : decide (j < 0) = false := decide_eq_false (by omega)
  have t2_ : decide (1000 < j) = false := decide_eq_false (by omega)
  have jl : j.toNat ≤ 310 := by omega
  have ll := sqr_len s0 jl
  have lh := sqr_len t0 jl
  have jl5 : j.toNat ≤ 500 := by omega
  subst hb
  obtain ⟨nl_, el⟩ : ∃ v, sqr x0 j.toNat = v := ⟨_, rfl⟩
  obtain ⟨nh_, eh⟩ : ∃ v, sqr y0 j.toNat = v := ⟨_, rfl⟩
  rw [el] at ll
  rw [eh] at lh
  have al : (limbs ((nl_ : Nat) : Int).natAbs).length ≤ 20 := by rw [Int.natAbs_natCast]; exact ll
  have ah : (limbs ((nh_ : Nat) : Int).natAbs).length ≤ 20 := by rw [Int.natAbs_natCast]; exact lh
  have sx := bak_sz al (by omega) jl5
  have sy := bak_sz ah (by omega) jl5
  have lm : (limbs (nh_ + 1)).length ≤ 21 := limbs_length_add lh (Nat.le_trans (len_one (by decide)) (by omega))
  have am : (limbs ((nh_ + 1 : Nat) : Int).natAbs).length ≤ 21 := by rw [Int.natAbs_natCast]; exact lm
  have CL : ∀ {W : World} {b : Bool} {A B : Option Addr} {n c m d : Nat}, Rt W b A n c B m d x0 → Calls Tryz.prog 59 #[.agg #[.bool b, .slice A n c, .slice B m d], .int .i64 j] W (GotN W nl_) := fun hh => by rw [← el]; exact sq_N hh s0 j0 j1
  have CH : ∀ {W : World} {b : Bool} {A B : Option Addr} {n c m d : Nat}, Rt W b A n c B m d y0 → Calls Tryz.prog 59 #[.agg #[.bool b, .slice A n c, .slice B m d], .int .i64 j] W (GotN W nh_) := fun hh => by rw [← eh]; exact sq_N hh t0 j0 j1
  have HS : Hid (sqh y0 j.toNat = bak (nh_ : Int) j.toNat) := Lib.hid (by unfold sqh; rw [eh]; rw [eh] at hc; exact if_neg hc)
  have HLN : Hid (sqr x0 j.toNat = nl_) := Lib.hid el
  rw [eh] at hc
  obtain ⟨yh, ey⟩ : ∃ v, bak (nh_ : Int) j.toNat = v := ⟨_, rfl⟩
  have CB : ∀ {W : World} {b : Bool} {A : Option Addr} {n c : Nat}, Zn W b A n c (nh_ : Int) → Calls Tryz.prog 37 #[.agg #[.bool b, .slice A n c], .int .i64 j] W (GotRp W yh 0) := fun hh => by rw [← ey]; exact rback_N hh (by omega) j0 (by omega)
  rw [ey] at sy hc
  rw [ey] at HS
  have syy := sy.mul sy
  obtain ⟨cq, ecq⟩ : ∃ c, cmpQ (yh * yh) y0 = c := ⟨_, rfl⟩
  have HC := Lib.hid ecq
  have t3_ : decide (cq < 0) = false := decide_eq_false (fun h => hc (cmpQ_neg.1 (by rw [ecq]; exact h)))
  clear el eh ey ecq hc
  have cc := Below.refl w.heap.size w
  go_enter Tryz.func31, Tryz.ntmps31
  go_wp2_with fail
  generalize hv_ : (w.alloc (.cells #[.bool false, .slice A0 n0 c0, .slice B0 m0 d0, .bool p0, .slice V0 r0 k0, .slice U0 o0 q0] 29)).alloc (.cells #[.bool false, .slice none 0 0, .slice none 0 0, .bool false, .slice none 0 0, .slice none 0 0] 29) = v1
  obtain ⟨f0, f1, f2, f3, f4, f5⟩ : Fz6 v1 (w.heap.size + 1) := by simp [Fz6, ← hv_, go_sem]
  have bA : Below w.heap.size w v1 := by rw [← hv_]; exact (((Below.refl _ w).alloc (by simp) _).alloc (by simp) _)
  replace h0 := h0.on bA
  replace g0 := g0.on bA
  replace cc := bK cc bA
  clear bA
  obtain ⟨ka0, ka1, ka2, ka3, ka4, ka5⟩ : Cs6 v1 w.heap.size (.bool false) (.slice A0 n0 c0) (.slice B0 m0 d0) (.bool p0) (.slice V0 r0 k0) (.slice U0 o0 q0) := by simp [Cs6, ← hv_, go_sem]
  have kal : w.heap.size < v1.heap.size := by simp [← hv_] <;> omega
  obtain ⟨g_0, g_1, g_2, g_3, g_4, g_5⟩ : Cs6 v1 (w.heap.size + 1) (.bool false) (.slice none 0 0) (.slice none 0 0) (.bool false) (.slice none 0 0) (.slice none 0 0) := by simp [Cs6, ← hv_, go_sem]
  have g_l : w.heap.size + 1 < v1.heap.size := by simp [← hv_] <;> omega
  clear hv_
  refine (CL h0).mono ?_
  rintro e w2 ⟨Av, nv, cv, rfl, v, b⟩
  rewrite [fR b g_l] at f0 f1 f2 f3 f4 f5
  replace h0 := h0.on b
  replace g0 := g0.on b
  rewrite [cR b kal] at ka0 ka1 ka2 ka3 ka4 ka5
  replace kal := lK b kal
  rewrite [cR b g_l] at g_0 g_1 g_2 g_3 g_4 g_5
  replace g_l := lK b g_l
  replace cc := bK cc b
  clear b
  have zv := zn_nat v
  go_wp2_with fail
  refine (rback_N zv (by omega) j0 (by omega)).mono ?_
  rintro e w3 ⟨bx, Ax, nx, cx, Bx, mx, dx, rfl, hx, b⟩
  rewrite [fR b g_l] at f0 f1 f2 f3 f4 f5
  replace h0 := h0.on b
  replace g0 := g0.on b
  replace v := v.on b
  replace zv := zv.on b
  rewrite [cR b kal] at ka0 ka1 ka2 ka3 ka4 ka5
  replace kal := lK b kal
  rewrite [cR b g_l] at g_0 g_1 g_2 g_3 g_4 g_5
  replace g_l := lK b g_l
  replace cc := bK cc b
  clear b
  go_wp2_with fail
  have bcqka : w.heap.size < w3.heap.size := kal
  have bcqg_ : w.heap.size + 1 < w3.heap.size := g_l
  generalize hv_ : w3.alloc (.cells #[.bool bx, .slice Ax nx cx, .slice Bx mx dx] 27) = v4
  have bA : Below w3.heap.size w3 v4 := by rw [← hv_]; exact below_one _ _
  rewrite [fR bA g_l] at f0 f1 f2 f3 f4 f5
  replace h0 := h0.on bA
  replace g0 := g0.on bA
  replace v := v.on bA
  replace zv := zv.on bA
  replace hx := hx.on bA
  rewrite [cR bA kal] at ka0 ka1 ka2 ka3 ka4 ka5
  replace kal := lK bA kal
  rewrite [cR bA g_l] at g_0 g_1 g_2 g_3 g_4 g_5
  replace g_l := lK bA g_l
  replace cc := bK cc bA
  clear bA
  obtain ⟨bc0, bc1, bc2⟩ : Cs3 v4 w3.heap.size (.bool bx) (.slice Ax nx cx) (.slice Bx mx dx) := by simp [Cs3, ← hv_, go_sem]
  have bcl : w3.heap.size < v4.heap.size := by simp [← hv_]
  clear hv_
  refine (CH g0).mono ?_
  rintro e w5 ⟨Au, nu, cu, rfl, u, b⟩
  rewrite [fR b g_l] at f0 f1 f2 f3 f4 f5
  replace h0 := h0.on b
  replace g0 := g0.on b
  replace v := v.on b
  replace zv := zv.on b
  replace hx := hx.on b
  rewrite [cR b kal] at ka0 ka1 ka2 ka3 ka4 ka5
  replace kal := lK b kal
  rewrite [cR b g_l] at g_0 g_1 g_2 g_3 g_4 g_5
  replace g_l := lK b g_l
  rewrite [cR b bcl] at bc0 bc1 bc2
  replace bcl := lK b bcl
  replace cc := bK cc b
  clear b
  have zu := zn_nat u
  go_wp2_with fail
  refine (CB zu).mono ?_
  rintro e w6 ⟨bt, At, nt, ct, Bt, mt, dt, rfl, ht, b⟩
  rewrite [fR b g_l] at f0 f1 f2 f3 f4 f5
  replace h0 := h0.on b
  replace g0 := g0.on b
  replace v := v.on b
  replace zv := zv.on b
  replace hx := hx.on b
  replace u := u.on b
  replace zu := zu.on b
  rewrite [cR b kal] at ka0 ka1 ka2 ka3 ka4 ka5
  replace kal := lK b kal
  rewrite [cR b g_l] at g_0 g_1 g_2 g_3 g_4 g_5
  replace g_l := lK b g_l
  rewrite [cR b bcl] at bc0 bc1 bc2
  replace bcl := lK b bcl
  replace cc := bK cc b
  clear b
  go_wp2_with fail
  have bdqka : w.heap.size < w6.heap.size := kal
  have bdqg_ : w.heap.size + 1 < w6.heap.size := g_l
  have bdqbc : w3.heap.size < w6.heap.size := bcl
  generalize hv_ : w6.alloc (.cells #[.bool bt, .slice At nt ct, .slice Bt mt dt] 27) = v7
  have bA : Below w6.heap.size w6 v7 := by rw [← hv_]; exact below_one _ _
  rewrite [fR bA g_l] at f0 f1 f2 f3 f4 f5
  replace h0 := h0.on bA
  replace g0 := g0.on bA
  replace v := v.on bA
  replace zv := zv.on bA
  replace hx := hx.on bA
  replace u := u.on bA
  replace zu := zu.on bA
  replace ht := ht.on bA
  rewrite [cR bA kal] at ka0 ka1 ka2 ka3 ka4 ka5
  replace kal := lK bA kal
  rewrite [cR bA g_l] at g_0 g_1 g_2 g_3 g_4 g_5
  replace g_l := lK bA g_l
  rewrite [cR bA bcl] at bc0 bc1 bc2
  replace bcl := lK bA bcl
  replace cc := bK cc bA
  clear bA
  obtain ⟨bd0, bd1, bd2⟩ : Cs3 v7 w6.heap.size (.bool bt) (.slice At nt ct) (.slice Bt mt dt) := by simp [Cs3, ← hv_, go_sem]
  have bdl : w6.heap.size < v7.heap.size := by simp [← hv_]
  clear hv_
  have bD : Below v7.heap.size v7 v7.drew := below_drewN (Below.refl _ v7) 1
  rewrite [fR bD g_l] at f0 f1 f2 f3 f4 f5
  replace h0 := h0.on bD
  replace g0 := g0.on bD
  replace v := v.on bD
  replace zv := zv.on bD
  replace hx := hx.on bD
  replace u := u.on bD
  replace zu := zu.on bD
  replace ht := ht.on bD
  rewrite [cR bD kal] at ka0 ka1 ka2 ka3 ka4 ka5
  replace kal := lK bD kal
  rewrite [cR bD g_l] at g_0 g_1 g_2 g_3 g_4 g_5
  replace g_l := lK bD g_l
  rewrite [cR bD bcl] at bc0 bc1 bc2
  replace bcl := lK bD bcl
  rewrite [cR bD bdl] at bd0 bd1 bd2
  replace bdl := lK bD bdl
  replace cc := bK cc bD
  clear bD
  refine wp_region_held_drew (S := fun w' => w'.cell? ⟨w.heap.size, 0, none⟩ = some (.bool false) ∧ w'.cell? ⟨w.heap.size, 1, none⟩ = some (.slice A0 n0 c0) ∧ w'.cell? ⟨w.heap.size, 2, none⟩ = some (.slice B0 m0 d0) ∧ w'.cell? ⟨w.heap.size, 3, none⟩ = some (.bool p0) ∧ w'.cell? ⟨w.heap.size, 4, none⟩ = some (.slice V0 r0 k0) ∧ w'.cell? ⟨w.heap.size, 5, none⟩ = some (.slice U0 o0 q0) ∧ w'.cell? ⟨w3.heap.size, 0, none⟩ = some (.bool bx) ∧ w'.cell? ⟨w3.heap.size, 1, none⟩ = some (.slice Ax nx cx) ∧ w'.cell? ⟨w3.heap.size, 2, none⟩ = some (.slice Bx mx dx) ∧ w'.cell? ⟨w6.heap.size, 0, none⟩ = some (.bool bt) ∧ w'.cell? ⟨w6.heap.size, 1, none⟩ = some (.slice At nt ct) ∧ w'.cell? ⟨w6.heap.size, 2, none⟩ = some (.slice Bt mt dt)) (by kernel_rfl) ?_ (fun hHeld => ?_)
  · exact ⟨ka0, ka1, ka2, ka3, ka4, ka5, bc0, bc1, bc2, bd0, bd1, bd2⟩
  refine wpAnyH_take (i := 0) (v := ?_) rfl (by kernel_rfl) (by kernel_rfl) (by kernel_rfl) (fun _ _ _ h => h) (Or.inl ⟨by rfl, ?_⟩) hHeld ?_
  rotate_left
  · (intro w hSw; (try dsimp only at hSw); go_simp; (try with_reducible rfl))
  try simp only [Act.put, pT]
  refine wpAnyH_take (i := 1) (v := ?_) rfl (by kernel_rfl) (by kernel_rfl) (by kernel_rfl) (fun _ _ _ h => h) (Or.inl ⟨by rfl, ?_⟩) hHeld ?_
  rotate_left
  · (intro w hSw; (try dsimp only at hSw); go_simp; (try with_reducible rfl))
  try simp only [Act.put, pT]
  refine wpAnyH_take (i := 3) (v := ?_) rfl (by kernel_rfl) (by kernel_rfl) (by kernel_rfl) (fun _ _ _ h => h) (Or.inl ⟨by rfl, ?_⟩) hHeld ?_
  rotate_left
  · (intro w hSw; (try dsimp only at hSw); go_simp; (try with_reducible rfl))
  try simp only [Act.put, pT]
  refine wpAnyH_take (i := 4) (v := ?_) rfl (by kernel_rfl) (by kernel_rfl) (by kernel_rfl) (fun _ _ _ h => h) (Or.inl ⟨by rfl, ?_⟩) hHeld ?_
  rotate_left
  · (intro w hSw; (try dsimp only at hSw); go_simp; (try with_reducible rfl))
  try simp only [Act.put, pT]
  refine wpAnyH_ready (rs := [2]) (by kernel_rfl) (by simp) ?_
  refine AllReadyH.cons rfl (fun K hK => ?_) AllReadyH.nil
  (try simp only [pT])
  rw [if_pos (by rfl)]
  go_simp
  go_at_call 34
  refine (rtmul_N ht (sy.le (by omega)) ht (sy.le (by omega))).mono ?_
  rintro e w8 ⟨be, Ae, ne, ce, Be, me, de, rfl, he, b⟩
  rewrite [fR b g_l] at f0 f1 f2 f3 f4 f5
  replace h0 := h0.on b
  replace g0 := g0.on b
  replace v := v.on b
  replace zv := zv.on b
  replace hx := hx.on b
  replace u := u.on b
  replace zu := zu.on b
  replace ht := ht.on b
  rewrite [cR b kal] at ka0 ka1 ka2 ka3 ka4 ka5
  replace kal := lK b kal
  rewrite [cR b g_l] at g_0 g_1 g_2 g_3 g_4 g_5
  replace g_l := lK b g_l
  rewrite [cR b bcl] at bc0 bc1 bc2
  replace bcl := lK b bcl
  rewrite [cR b bdl] at bd0 bd1 bd2
  replace bdl := lK b bdl
  replace cc := bK cc b
  clear b
  refine hK.out _ _ ?_ (fun hHeld => ?_)
  · exact ⟨ka0, ka1, ka2, ka3, ka4, ka5, bc0, bc1, bc2, bd0, bd1, bd2⟩
  clear hK K
  try simp only [Act.put, pT]
  refine wpAnyH_ready (rs := [5]) (by kernel_rfl) (by simp) ?_
  refine AllReadyH.cons rfl (fun K hK => ?_) AllReadyH.nil
  (try simp only [pT])
  rw [if_pos (by rfl)]
  go_simp
  go_at_call 39
  refine (rtcmp_v cq he (syy.le (by omega)) g0 (t0.le (by omega)) HC.out).mono ?_
  rintro e w9 ⟨rfl, b⟩
  rewrite [fR b g_l] at f0 f1 f2 f3 f4 f5
  replace h0 := h0.on b
  replace g0 := g0.on b
  replace v := v.on b
  replace zv := zv.on b
  replace hx := hx.on b
  replace u := u.on b
  replace zu := zu.on b
  replace ht := ht.on b
  replace he := he.on b
  rewrite [cR b kal] at ka0 ka1 ka2 ka3 ka4 ka5
  replace kal := lK b kal
  rewrite [cR b g_l] at g_0 g_1 g_2 g_3 g_4 g_5
  replace g_l := lK b g_l
  rewrite [cR b bcl] at bc0 bc1 bc2
  replace bcl := lK b bcl
  rewrite [cR b bdl] at bd0 bd1 bd2
  replace bdl := lK b bdl
  replace cc := bK cc b
  clear b
  refine hK.out _ _ ?_ (fun hHeld => ?_)
  · exact ⟨ka0, ka1, ka2, ka3, ka4, ka5, bc0, bc1, bc2, bd0, bd1, bd2⟩
  clear hK K
  try simp only [Act.put, pT]
  refine wpAnyH_take (i := 6) (v := ?_) rfl (by kernel_rfl) (by kernel_rfl) (by kernel_rfl) (fun _ _ _ h => h) (Or.inl ⟨by rfl, ?_⟩) hHeld ?_
  rotate_left
  · (intro w hSw; (try dsimp only at hSw); go_simp; (try with_reducible rfl))
  try simp only [Act.put, pT]
  refine wpAnyH_done (by kernel_rfl) ?_ _
  clear hHeld
  have hb_ : Held w9 (w.heap.size + 1) := held6 g_0 g_1 g_2 g_3 g_4 g_5
  have HL : Hid (Rt (putS w9 (w.heap.size + 1) (.bool bx) (.slice Ax nx cx) (.slice Bx mx dx) (.bool bt) (.slice At nt ct) (.slice Bt mt dt)) bx Ax nx cx Bx mx dx (bak (nl_ : Int) j.toNat)) := Lib.hid (Rt.putS hx hb_ _ _)
  have HH : Hid (Rt (putS w9 (w.heap.size + 1) (.bool bx) (.slice Ax nx cx) (.slice Bx mx dx) (.bool bt) (.slice At nt ct) (.slice Bt mt dt)) bt At nt ct Bt mt dt (sqh y0 j.toNat)) := Lib.hid (Rt.putS (by rw [HS.out]; exact ht) hb_ _ _)
  go_wp2_with fail
  refine bodyPost_ret (v := .tuple #[.agg #[.bool bx, .slice Ax nx cx, .slice Bx mx dx, .bool bt, .slice At nt ct, .slice Bt mt dt], .int .i64 0]) (by simp [results, Tryz.results31, go_sem, g_0, g_1, g_2, g_3, g_4, g_5]) rfl ⟨_, _, _, _, _, _, _, _, _, _, _, _, _, _, rfl, ⟨by rw [HLN.out]; exact HL.out, HH.out⟩, below_putS cc (by omega) _ _ _ _ _ _⟩

theorem stsqrt_lt {w : World} {b0 p0 : Bool} {A0 B0 V0 U0 : Option Addr} {n0 c0 m0 d0 r0 k0 o0 q0 : Nat} {x0 y0 : Rat} (h0 : Rt w b0 A0 n0 c0 B0 m0 d0 x0) (g0 : Rt w p0 V0 r0 k0 U0 o0 q0 y0) (s0 : Sz x0 10) (t0 : Sz y0 10) {j : Int} (j0 : 0 ≤ j) (j1 : j ≤ 310) (hb : b0 = false) (hc : bak (sqr y0 j.toNat : Int) j.toNat * bak (sqr y0 j.toNat : Int) j.toNat < y0) :
    Calls Tryz.prog 31 #[.agg #[.bool b0, .slice A0 n0 c0, .slice B0 m0 d0, .bool p0, .slice V0 r0 k0, .slice U0 o0 q0], .int .i64 j] w (GotSp w (bak (sqr x0 j.toNat : Int) j.toNat) (sqh y0 j.toNat) 0) := by
  have t1_ : decide (j < 0) = false := decide_eq_false (by omega)
  have t2_ : decide (1000 < j) = false := decide_eq_false (by omega)
  have jl : j.toNat ≤ 310 := by omega
  have ll := sqr_len s0 jl
  have lh := sqr_len t0 jl
  have jl5 : j.toNat ≤ 500 := by omega
  subst hb
  obtain ⟨nl_, el⟩ : ∃ v, sqr x0 j.toNat = v := ⟨_, rfl⟩
  obtain ⟨nh_, eh⟩ : ∃ v, sqr y0 j.toNat = v := ⟨_, rfl⟩
  rw [el] at ll
  rw [eh] at lh
  have al : (limbs ((nl_ : Nat) : Int).natAbs).length ≤ 20 := by rw [Int.natAbs_natCast]; exact ll
  have ah : (limbs ((nh_ : Nat) : Int).natAbs).length ≤ 20 := by rw [Int.natAbs_natCast]; exact lh
  have sx := bak_sz al (by omega) jl5
  have sy := bak_sz ah (by omega) jl5
  have lm : (limbs (nh_ + 1)).length ≤ 21 := limbs_length_add lh (Nat.le_trans (len_one (by decide)) (by omega))
  have am : (limbs ((nh_ + 1 : Nat) : Int).natAbs).length ≤ 21 := by rw [Int.natAbs_natCast]; exact lm
  have CL : ∀ {W : World} {b : Bool} {A B : Option Addr} {n c m d : Nat}, Rt W b A n c B m d x0 → Calls Tryz.prog 59 #[.agg #[.bool b, .slice A n c, .slice B m d], .int .i64 j] W (GotN W nl_) := fun hh => by rw [← el]; exact sq_N hh s0 j0 j1
  have CH : ∀ {W : World} {b : Bool} {A B : Option Addr} {n c m d : Nat}, Rt W b A n c B m d y0 → Calls Tryz.prog 59 #[.agg #[.bool b, .slice A n c, .slice B m d], .int .i64 j] W (GotN W nh_) := fun hh => by rw [← eh]; exact sq_N hh t0 j0 j1
  have HS : Hid (sqh y0 j.toNat = bak ((nh_ + 1 : Nat) : Int) j.toNat) := Lib.hid (by unfold sqh; rw [eh]; rw [eh] at hc; exact if_pos hc)
  have HLN : Hid (sqr x0 j.toNat = nl_) := Lib.hid el
  rw [eh] at hc
  obtain ⟨yh, ey⟩ : ∃ v, bak (nh_ : Int) j.toNat = v := ⟨_, rfl⟩
  have CB : ∀ {W : World} {b : Bool} {A : Option Addr} {n c : Nat}, Zn W b A n c (nh_ : Int) → Calls Tryz.prog 37 #[.agg #[.bool b, .slice A n c], .int .i64 j] W (GotRp W yh 0) := fun hh => by rw [← ey]; exact rback_N hh (by omega) j0 (by omega)
  rw [ey] at sy hc
  have syy := sy.mul sy
  obtain ⟨cq, ecq⟩ : ∃ c, cmpQ (yh * yh) y0 = c := ⟨_, rfl⟩
  have HC := Lib.hid ecq
  have t3_ : decide (cq < 0) = true := decide_eq_true (by rw [← ecq]; exact cmpQ_neg.2 hc)
  clear el eh ey ecq hc
  have cc := Below.refl w.heap.size w
  go_enter Tryz.func31, Tryz.ntmps31
  go_wp2_with fail
  generalize hv_ : (w.alloc (.cells #[.bool false, .slice A0 n0 c0, .slice B0 m0 d0, .bool p0, .slice V0 r0 k0, .slice U0 o0 q0] 29)).alloc (.cells #[.bool false, .slice none 0 0, .slice none 0 0, .bool false, .slice none 0 0, .slice none 0 0] 29) = v1
  obtain ⟨f0, f1, f2, f3, f4, f5⟩ : Fz6 v1 (w.heap.size + 1) := by simp [Fz6, ← hv_, go_sem]
  have bA : Below w.heap.size w v1 := by rw [← hv_]; exact (((Below.refl _ w).alloc (by simp) _).alloc (by simp) _)
  replace h0 := h0.on bA
  replace g0 := g0.on bA
  replace cc := bK cc bA
  clear bA
  obtain ⟨ka0, ka1, ka2, ka3, ka4, ka5⟩ : Cs6 v1 w.heap.size (.bool false) (.slice A0 n0 c0) (.slice B0 m0 d0) (.bool p0) (.slice V0 r0 k0) (.slice U0 o0 q0) := by simp [Cs6, ← hv_, go_sem]
  have kal : w.heap.size < v1.heap.size := by simp [← hv_] <;> omega
  obtain ⟨g_0, g_1, g_2, g_3, g_4, g_5⟩ : Cs6 v1 (w.heap.size + 1) (.bool false) (.slice none 0 0) (.slice none 0 0) (.bool false) (.slice none 0 0) (.slice none 0 0) := by simp [Cs6, ← hv_, go_sem]
  have g_l : w.heap.size + 1 < v1.heap.size := by simp [← hv_] <;> omega
  clear hv_
  refine (CL h0).mono ?_
  rintro e w2 ⟨Av, nv, cv, rfl, v, b⟩
  rewrite [fR b g_l] at f0 f1 f2 f3 f4 f5
  replace h0 := h0.on b
  replace g0 := g0.on b
  rewrite [cR b kal] at ka0 ka1 ka2 ka3 ka4 ka5
  replace kal := lK b kal
  rewrite [cR b g_l] at g_0 g_1 g_2 g_3 g_4 g_5
  replace g_l := lK b g_l
  replace cc := bK cc b
  clear b
  have zv := zn_nat v
  go_wp2_with fail
  refine (rback_N zv (by omega) j0 (by omega)).mono ?_
  rintro e w3 ⟨bx, Ax, nx, cx, Bx, mx, dx, rfl, hx, b⟩
  rewrite [fR b g_l] at f0 f1 f2 f3 f4 f5
  replace h0 := h0.on b
  replace g0 := g0.on b
  replace v := v.on b
  replace zv := zv.on b
  rewrite [cR b kal] at ka0 ka1 ka2 ka3 ka4 ka5
  replace kal := lK b kal
  rewrite [cR b g_l] at g_0 g_1 g_2 g_3 g_4 g_5
  replace g_l := lK b g_l
  replace cc := bK cc b
  clear b
  go_wp2_with fail
  have bcqka : w.heap.size < w3.heap.size := kal
  have bcqg_ : w.heap.size + 1 < w3.heap.size := g_l
  generalize hv_ : w3.alloc (.cells #[.bool bx, .slice Ax nx cx, .slice Bx mx dx] 27) = v4
  have bA : Below w3.heap.size w3 v4 := by rw [← hv_]; exact below_one _ _
  rewrite [fR bA g_l] at f0 f1 f2 f3 f4 f5
  replace h0 := h0.on bA
  replace g0 := g0.on bA
  replace v := v.on bA
  replace zv := zv.on bA
  replace hx := hx.on bA
  rewrite [cR bA kal] at ka0 ka1 ka2 ka3 ka4 ka5
  replace kal := lK bA kal
  rewrite [cR bA g_l] at g_0 g_1 g_2 g_3 g_4 g_5
  replace g_l := lK bA g_l
  replace cc := bK cc bA
  clear bA
  obtain ⟨bc0, bc1, bc2⟩ : Cs3 v4 w3.heap.size (.bool bx) (.slice Ax nx cx) (.slice Bx mx dx) := by simp [Cs3, ← hv_, go_sem]
  have bcl : w3.heap.size < v4.heap.size := by simp [← hv_]
  clear hv_
  refine (CH g0).mono ?_
  rintro e w5 ⟨Au, nu, cu, rfl, u, b⟩
  rewrite [fR b g_l] at f0 f1 f2 f3 f4 f5
  replace h0 := h0.on b
  replace g0 := g0.on b
  replace v := v.on b
  replace zv := zv.on b
  replace hx := hx.on b
  rewrite [cR b kal] at ka0 ka1 ka2 ka3 ka4 ka5
  replace kal := lK b kal
  rewrite [cR b g_l] at g_0 g_1 g_2 g_3 g_4 g_5
  replace g_l := lK b g_l
  rewrite [cR b bcl] at bc0 bc1 bc2
  replace bcl := lK b bcl
  replace cc := bK cc b
  clear b
  have zu := zn_nat u
  go_wp2_with fail
  refine (CB zu).mono ?_
  rintro e w6 ⟨bt, At, nt, ct, Bt, mt, dt, rfl, ht, b⟩
  rewrite [fR b g_l] at f0 f1 f2 f3 f4 f5
  replace h0 := h0.on b
  replace g0 := g0.on b
  replace v := v.on b
  replace zv := zv.on b
  replace hx := hx.on b
  replace u := u.on b
  replace zu := zu.on b
  rewrite [cR b kal] at ka0 ka1 ka2 ka3 ka4 ka5
  replace kal := lK b kal
  rewrite [cR b g_l] at g_0 g_1 g_2 g_3 g_4 g_5
  replace g_l := lK b g_l
  rewrite [cR b bcl] at bc0 bc1 bc2
  replace bcl := lK b bcl
  replace cc := bK cc b
  clear b
  go_wp2_with fail
  have bdqka : w.heap.size < w6.heap.size := kal
  have bdqg_ : w.heap.size + 1 < w6.heap.size := g_l
  have bdqbc : w3.heap.size < w6.heap.size := bcl
  generalize hv_ : w6.alloc (.cells #[.bool bt, .slice At nt ct, .slice Bt mt dt] 27) = v7
  have bA : Below w6.heap.size w6 v7 := by rw [← hv_]; exact below_one _ _
  rewrite [fR bA g_l] at f0 f1 f2 f3 f4 f5
  replace h0 := h0.on bA
  replace g0 := g0.on bA
  replace v := v.on bA
  replace zv := zv.on bA
  replace hx := hx.on bA
  replace u := u.on bA
  replace zu := zu.on bA
  replace ht := ht.on bA
  rewrite [cR bA kal] at ka0 ka1 ka2 ka3 ka4 ka5
  replace kal := lK bA kal
  rewrite [cR bA g_l] at g_0 g_1 g_2 g_3 g_4 g_5
  replace g_l := lK bA g_l
  rewrite [cR bA bcl] at bc0 bc1 bc2
  replace bcl := lK bA bcl
  replace cc := bK cc bA
  clear bA
  obtain ⟨bd0, bd1, bd2⟩ : Cs3 v7 w6.heap.size (.bool bt) (.slice At nt ct) (.slice Bt mt dt) := by simp [Cs3, ← hv_, go_sem]
  obtain ⟨bdr0, bdr1, bdr2⟩ : Fz3 v7 w6.heap.size := by simp [Fz3, ← hv_, go_sem]
  have bdl : w6.heap.size < v7.heap.size := by simp [← hv_]
  clear hv_
  have bD : Below v7.heap.size v7 v7.drew := below_drewN (Below.refl _ v7) 1
  rewrite [fR bD g_l] at f0 f1 f2 f3 f4 f5
  replace h0 := h0.on bD
  replace g0 := g0.on bD
  replace v := v.on bD
  replace zv := zv.on bD
  replace hx := hx.on bD
  replace u := u.on bD
  replace zu := zu.on bD
  replace ht := ht.on bD
  rewrite [fR bD bdl] at bdr0 bdr1 bdr2
  rewrite [cR bD kal] at ka0 ka1 ka2 ka3 ka4 ka5
  replace kal := lK bD kal
  rewrite [cR bD g_l] at g_0 g_1 g_2 g_3 g_4 g_5
  replace g_l := lK bD g_l
  rewrite [cR bD bcl] at bc0 bc1 bc2
  replace bcl := lK bD bcl
  rewrite [cR bD bdl] at bd0 bd1 bd2
  replace bdl := lK bD bdl
  replace cc := bK cc bD
  clear bD
  refine wp_region_held_drew (S := fun w' => w'.cell? ⟨w.heap.size, 0, none⟩ = some (.bool false) ∧ w'.cell? ⟨w.heap.size, 1, none⟩ = some (.slice A0 n0 c0) ∧ w'.cell? ⟨w.heap.size, 2, none⟩ = some (.slice B0 m0 d0) ∧ w'.cell? ⟨w.heap.size, 3, none⟩ = some (.bool p0) ∧ w'.cell? ⟨w.heap.size, 4, none⟩ = some (.slice V0 r0 k0) ∧ w'.cell? ⟨w.heap.size, 5, none⟩ = some (.slice U0 o0 q0) ∧ w'.cell? ⟨w3.heap.size, 0, none⟩ = some (.bool bx) ∧ w'.cell? ⟨w3.heap.size, 1, none⟩ = some (.slice Ax nx cx) ∧ w'.cell? ⟨w3.heap.size, 2, none⟩ = some (.slice Bx mx dx) ∧ w'.cell? ⟨w6.heap.size, 0, none⟩ = some (.bool bt) ∧ w'.cell? ⟨w6.heap.size, 1, none⟩ = some (.slice At nt ct) ∧ w'.cell? ⟨w6.heap.size, 2, none⟩ = some (.slice Bt mt dt)) (by kernel_rfl) ?_ (fun hHeld => ?_)
  · exact ⟨ka0, ka1, ka2, ka3, ka4, ka5, bc0, bc1, bc2, bd0, bd1, bd2⟩
  refine wpAnyH_take (i := 0) (v := ?_) rfl (by kernel_rfl) (by kernel_rfl) (by kernel_rfl) (fun _ _ _ h => h) (Or.inl ⟨by rfl, ?_⟩) hHeld ?_
  rotate_left
  · (intro w hSw; (try dsimp only at hSw); go_simp; (try with_reducible rfl))
  try simp only [Act.put, pT]
  refine wpAnyH_take (i := 1) (v := ?_) rfl (by kernel_rfl) (by kernel_rfl) (by kernel_rfl) (fun _ _ _ h => h) (Or.inl ⟨by rfl, ?_⟩) hHeld ?_
  rotate_left
  · (intro w hSw; (try dsimp only at hSw); go_simp; (try with_reducible rfl))
  try simp only [Act.put, pT]
  refine wpAnyH_take (i := 3) (v := ?_) rfl (by kernel_rfl) (by kernel_rfl) (by kernel_rfl) (fun _ _ _ h => h) (Or.inl ⟨by rfl, ?_⟩) hHeld ?_
  rotate_left
  · (intro w hSw; (try dsimp only at hSw); go_simp; (try with_reducible rfl))
  try simp only [Act.put, pT]
  refine wpAnyH_take (i := 4) (v := ?_) rfl (by kernel_rfl) (by kernel_rfl) (by kernel_rfl) (fun _ _ _ h => h) (Or.inl ⟨by rfl, ?_⟩) hHeld ?_
  rotate_left
  · (intro w hSw; (try dsimp only at hSw); go_simp; (try with_reducible rfl))
  try simp only [Act.put, pT]
  refine wpAnyH_ready (rs := [2]) (by kernel_rfl) (by simp) ?_
  refine AllReadyH.cons rfl (fun K hK => ?_) AllReadyH.nil
  (try simp only [pT])
  rw [if_pos (by rfl)]
  go_simp
  go_at_call 34
  refine (rtmul_N ht (sy.le (by omega)) ht (sy.le (by omega))).mono ?_
  rintro e w8 ⟨be, Ae, ne, ce, Be, me, de, rfl, he, b⟩
  rewrite [fR b g_l] at f0 f1 f2 f3 f4 f5
  replace h0 := h0.on b
  replace g0 := g0.on b
  replace v := v.on b
  replace zv := zv.on b
  replace hx := hx.on b
  replace u := u.on b
  replace zu := zu.on b
  replace ht := ht.on b
  rewrite [fR b bdl] at bdr0 bdr1 bdr2
  rewrite [cR b kal] at ka0 ka1 ka2 ka3 ka4 ka5
  replace kal := lK b kal
  rewrite [cR b g_l] at g_0 g_1 g_2 g_3 g_4 g_5
  replace g_l := lK b g_l
  rewrite [cR b bcl] at bc0 bc1 bc2
  replace bcl := lK b bcl
  rewrite [cR b bdl] at bd0 bd1 bd2
  replace bdl := lK b bdl
  replace cc := bK cc b
  clear b
  refine hK.out _ _ ?_ (fun hHeld => ?_)
  · exact ⟨ka0, ka1, ka2, ka3, ka4, ka5, bc0, bc1, bc2, bd0, bd1, bd2⟩
  clear hK K
  try simp only [Act.put, pT]
  refine wpAnyH_ready (rs := [5]) (by kernel_rfl) (by simp) ?_
  refine AllReadyH.cons rfl (fun K hK => ?_) AllReadyH.nil
  (try simp only [pT])
  rw [if_pos (by rfl)]
  go_simp
  go_at_call 39
  refine (rtcmp_v cq he (syy.le (by omega)) g0 (t0.le (by omega)) HC.out).mono ?_
  rintro e w9 ⟨rfl, b⟩
  rewrite [fR b g_l] at f0 f1 f2 f3 f4 f5
  replace h0 := h0.on b
  replace g0 := g0.on b
  replace v := v.on b
  replace zv := zv.on b
  replace hx := hx.on b
  replace u := u.on b
  replace zu := zu.on b
  replace ht := ht.on b
  replace he := he.on b
  rewrite [fR b bdl] at bdr0 bdr1 bdr2
  rewrite [cR b kal] at ka0 ka1 ka2 ka3 ka4 ka5
  replace kal := lK b kal
  rewrite [cR b g_l] at g_0 g_1 g_2 g_3 g_4 g_5
  replace g_l := lK b g_l
  rewrite [cR b bcl] at bc0 bc1 bc2
  replace bcl := lK b bcl
  rewrite [cR b bdl] at bd0 bd1 bd2
  replace bdl := lK b bdl
  replace cc := bK cc b
  clear b
  refine hK.out _ _ ?_ (fun hHeld => ?_)
  · exact ⟨ka0, ka1, ka2, ka3, ka4, ka5, bc0, bc1, bc2, bd0, bd1, bd2⟩
  clear hK K
  try simp only [Act.put, pT]
  refine wpAnyH_take (i := 6) (v := ?_) rfl (by kernel_rfl) (by kernel_rfl) (by kernel_rfl) (fun _ _ _ h => h) (Or.inl ⟨by rfl, ?_⟩) hHeld ?_
  rotate_left
  · (intro w hSw; (try dsimp only at hSw); go_simp; (try with_reducible rfl))
  try simp only [Act.put, pT]
  refine wpAnyH_done (by kernel_rfl) ?_ _
  clear hHeld
  go_wp2_with fail
  refine (rof_N _ 1 (by decide)).mono ?_
  rintro e w10 ⟨Ao, no, co, rfl, o, b⟩
  rewrite [fR b g_l] at f0 f1 f2 f3 f4 f5
  replace h0 := h0.on b
  replace g0 := g0.on b
  replace v := v.on b
  replace zv := zv.on b
  replace hx := hx.on b
  replace u := u.on b
  replace zu := zu.on b
  replace ht := ht.on b
  replace he := he.on b
  rewrite [fR b bdl] at bdr0 bdr1 bdr2
  rewrite [cR b kal] at ka0 ka1 ka2 ka3 ka4 ka5
  replace kal := lK b kal
  rewrite [cR b g_l] at g_0 g_1 g_2 g_3 g_4 g_5
  replace g_l := lK b g_l
  rewrite [cR b bcl] at bc0 bc1 bc2
  replace bcl := lK b bcl
  rewrite [cR b bdl] at bd0 bd1 bd2
  replace bdl := lK b bdl
  replace cc := bK cc b
  clear b
  go_wp2_with fail
  refine (radd_N u o (by omega) (Nat.le_trans (len_one (by decide)) (by omega))).mono ?_
  rintro e w11 ⟨Aa, na, ca, rfl, a, b⟩
  rewrite [fR b g_l] at f0 f1 f2 f3 f4 f5
  replace h0 := h0.on b
  replace g0 := g0.on b
  replace v := v.on b
  replace zv := zv.on b
  replace hx := hx.on b
  replace u := u.on b
  replace zu := zu.on b
  replace ht := ht.on b
  replace he := he.on b
  replace o := o.on b
  rewrite [fR b bdl] at bdr0 bdr1 bdr2
  rewrite [cR b kal] at ka0 ka1 ka2 ka3 ka4 ka5
  replace kal := lK b kal
  rewrite [cR b g_l] at g_0 g_1 g_2 g_3 g_4 g_5
  replace g_l := lK b g_l
  rewrite [cR b bcl] at bc0 bc1 bc2
  replace bcl := lK b bcl
  rewrite [cR b bdl] at bd0 bd1 bd2
  replace bdl := lK b bdl
  replace cc := bK cc b
  clear b
  have za := zn_nat a
  go_wp2_with fail
  refine (rback_N za (by omega) j0 (by omega)).mono ?_
  rintro e w12 ⟨bi, Ai, ni, ci, Bi, mi, di, rfl, hi, b⟩
  rewrite [fR b g_l] at f0 f1 f2 f3 f4 f5
  replace h0 := h0.on b
  replace g0 := g0.on b
  replace v := v.on b
  replace zv := zv.on b
  replace hx := hx.on b
  replace u := u.on b
  replace zu := zu.on b
  replace ht := ht.on b
  replace he := he.on b
  replace o := o.on b
  replace a := a.on b
  replace za := za.on b
  rewrite [fR b bdl] at bdr0 bdr1 bdr2
  rewrite [cR b kal] at ka0 ka1 ka2 ka3 ka4 ka5
  replace kal := lK b kal
  rewrite [cR b g_l] at g_0 g_1 g_2 g_3 g_4 g_5
  replace g_l := lK b g_l
  rewrite [cR b bcl] at bc0 bc1 bc2
  replace bcl := lK b bcl
  rewrite [cR b bdl] at bd0 bd1 bd2
  replace bdl := lK b bdl
  replace cc := bK cc b
  clear b
  go_upto_region 8 with fail
  have beqka : w.heap.size < w12.heap.size := kal
  have beqg_ : w.heap.size + 1 < w12.heap.size := g_l
  have beqbc : w3.heap.size < w12.heap.size := bcl
  have beqbd : w6.heap.size < w12.heap.size := bdl
  generalize hv_ : w12.alloc (.cells #[.bool bi, .slice Ai ni ci, .slice Bi mi di] 27) = v13
  have bA : Below w12.heap.size w12 v13 := by rw [← hv_]; exact below_one _ _
  rewrite [fR bA g_l] at f0 f1 f2 f3 f4 f5
  replace h0 := h0.on bA
  replace g0 := g0.on bA
  replace v := v.on bA
  replace zv := zv.on bA
  replace hx := hx.on bA
  replace u := u.on bA
  replace zu := zu.on bA
  replace ht := ht.on bA
  replace he := he.on bA
  replace o := o.on bA
  replace a := a.on bA
  replace za := za.on bA
  replace hi := hi.on bA
  rewrite [fR bA bdl] at bdr0 bdr1 bdr2
  rewrite [cR bA kal] at ka0 ka1 ka2 ka3 ka4 ka5
  replace kal := lK bA kal
  rewrite [cR bA g_l] at g_0 g_1 g_2 g_3 g_4 g_5
  replace g_l := lK bA g_l
  rewrite [cR bA bcl] at bc0 bc1 bc2
  replace bcl := lK bA bcl
  rewrite [cR bA bdl] at bd0 bd1 bd2
  replace bdl := lK bA bdl
  replace cc := bK cc bA
  clear bA
  obtain ⟨be0, be1, be2⟩ : Cs3 v13 w12.heap.size (.bool bi) (.slice Ai ni ci) (.slice Bi mi di) := by simp [Cs3, ← hv_, go_sem]
  have bel : w12.heap.size < v13.heap.size := by simp [← hv_]
  clear hv_
  clear v zv u zu o a za he h0 g0 ht
  go_upto_region 9 with fail
  have bb_ : BoxR v13 (w6.heap.size) bt At nt ct Bt mt dt := ⟨bd0, bd1, bd2⟩
  have bn_ : BoxR (((v13.setCell ⟨w6.heap.size, 0, none⟩ (.bool bi)).setCell ⟨w6.heap.size, 1, none⟩ (.slice Ai ni ci)).setCell ⟨w6.heap.size, 2, none⟩ (.slice Bi mi di)) (w6.heap.size) bi Ai ni ci Bi mi di := BoxR.put bb_ bi Ai ni ci Bi mi di
  replace hx : Rt (((v13.setCell ⟨w6.heap.size, 0, none⟩ (.bool bi)).setCell ⟨w6.heap.size, 1, none⟩ (.slice Ai ni ci)).setCell ⟨w6.heap.size, 2, none⟩ (.slice Bi mi di)) bx Ax nx cx Bx mx dx (bak ((nl_ : Nat) : Int) j.toNat) := Rt.putR hx bb_ _ _ _
  replace hi : Rt (((v13.setCell ⟨w6.heap.size, 0, none⟩ (.bool bi)).setCell ⟨w6.heap.size, 1, none⟩ (.slice Ai ni ci)).setCell ⟨w6.heap.size, 2, none⟩ (.slice Bi mi di)) bi Ai ni ci Bi mi di (bak ((nh_ + 1 : Nat) : Int) j.toNat) := Rt.putR hi bb_ _ _ _
  replace ka0 : (((v13.setCell ⟨w6.heap.size, 0, none⟩ (.bool bi)).setCell ⟨w6.heap.size, 1, none⟩ (.slice Ai ni ci)).setCell ⟨w6.heap.size, 2, none⟩ (.slice Bi mi di)).cell? ⟨w.heap.size, 0, none⟩ = some (.bool false) := (cell_putR (by omega)).trans ka0
  replace ka1 : (((v13.setCell ⟨w6.heap.size, 0, none⟩ (.bool bi)).setCell ⟨w6.heap.size, 1, none⟩ (.slice Ai ni ci)).setCell ⟨w6.heap.size, 2, none⟩ (.slice Bi mi di)).cell? ⟨w.heap.size, 1, none⟩ = some (.slice A0 n0 c0) := (cell_putR (by omega)).trans ka1
  replace ka2 : (((v13.setCell ⟨w6.heap.size, 0, none⟩ (.bool bi)).setCell ⟨w6.heap.size, 1, none⟩ (.slice Ai ni ci)).setCell ⟨w6.heap.size, 2, none⟩ (.slice Bi mi di)).cell? ⟨w.heap.size, 2, none⟩ = some (.slice B0 m0 d0) := (cell_putR (by omega)).trans ka2
  replace ka3 : (((v13.setCell ⟨w6.heap.size, 0, none⟩ (.bool bi)).setCell ⟨w6.heap.size, 1, none⟩ (.slice Ai ni ci)).setCell ⟨w6.heap.size, 2, none⟩ (.slice Bi mi di)).cell? ⟨w.heap.size, 3, none⟩ = some (.bool p0) := (cell_putR (by omega)).trans ka3
  replace ka4 : (((v13.setCell ⟨w6.heap.size, 0, none⟩ (.bool bi)).setCell ⟨w6.heap.size, 1, none⟩ (.slice Ai ni ci)).setCell ⟨w6.heap.size, 2, none⟩ (.slice Bi mi di)).cell? ⟨w.heap.size, 4, none⟩ = some (.slice V0 r0 k0) := (cell_putR (by omega)).trans ka4
  replace ka5 : (((v13.setCell ⟨w6.heap.size, 0, none⟩ (.bool bi)).setCell ⟨w6.heap.size, 1, none⟩ (.slice Ai ni ci)).setCell ⟨w6.heap.size, 2, none⟩ (.slice Bi mi di)).cell? ⟨w.heap.size, 5, none⟩ = some (.slice U0 o0 q0) := (cell_putR (by omega)).trans ka5
  replace g_0 : (((v13.setCell ⟨w6.heap.size, 0, none⟩ (.bool bi)).setCell ⟨w6.heap.size, 1, none⟩ (.slice Ai ni ci)).setCell ⟨w6.heap.size, 2, none⟩ (.slice Bi mi di)).cell? ⟨w.heap.size + 1, 0, none⟩ = some (.bool false) := (cell_putR (by omega)).trans g_0
  replace g_1 : (((v13.setCell ⟨w6.heap.size, 0, none⟩ (.bool bi)).setCell ⟨w6.heap.size, 1, none⟩ (.slice Ai ni ci)).setCell ⟨w6.heap.size, 2, none⟩ (.slice Bi mi di)).cell? ⟨w.heap.size + 1, 1, none⟩ = some (.slice none 0 0) := (cell_putR (by omega)).trans g_1
  replace g_2 : (((v13.setCell ⟨w6.heap.size, 0, none⟩ (.bool bi)).setCell ⟨w6.heap.size, 1, none⟩ (.slice Ai ni ci)).setCell ⟨w6.heap.size, 2, none⟩ (.slice Bi mi di)).cell? ⟨w.heap.size + 1, 2, none⟩ = some (.slice none 0 0) := (cell_putR (by omega)).trans g_2
  replace g_3 : (((v13.setCell ⟨w6.heap.size, 0, none⟩ (.bool bi)).setCell ⟨w6.heap.size, 1, none⟩ (.slice Ai ni ci)).setCell ⟨w6.heap.size, 2, none⟩ (.slice Bi mi di)).cell? ⟨w.heap.size + 1, 3, none⟩ = some (.bool false) := (cell_putR (by omega)).trans g_3
  replace g_4 : (((v13.setCell ⟨w6.heap.size, 0, none⟩ (.bool bi)).setCell ⟨w6.heap.size, 1, none⟩ (.slice Ai ni ci)).setCell ⟨w6.heap.size, 2, none⟩ (.slice Bi mi di)).cell? ⟨w.heap.size + 1, 4, none⟩ = some (.slice none 0 0) := (cell_putR (by omega)).trans g_4
  replace g_5 : (((v13.setCell ⟨w6.heap.size, 0, none⟩ (.bool bi)).setCell ⟨w6.heap.size, 1, none⟩ (.slice Ai ni ci)).setCell ⟨w6.heap.size, 2, none⟩ (.slice Bi mi di)).cell? ⟨w.heap.size + 1, 5, none⟩ = some (.slice none 0 0) := (cell_putR (by omega)).trans g_5
  replace bc0 : (((v13.setCell ⟨w6.heap.size, 0, none⟩ (.bool bi)).setCell ⟨w6.heap.size, 1, none⟩ (.slice Ai ni ci)).setCell ⟨w6.heap.size, 2, none⟩ (.slice Bi mi di)).cell? ⟨w3.heap.size, 0, none⟩ = some (.bool bx) := (cell_putR (by omega)).trans bc0
  replace bc1 : (((v13.setCell ⟨w6.heap.size, 0, none⟩ (.bool bi)).setCell ⟨w6.heap.size, 1, none⟩ (.slice Ai ni ci)).setCell ⟨w6.heap.size, 2, none⟩ (.slice Bi mi di)).cell? ⟨w3.heap.size, 1, none⟩ = some (.slice Ax nx cx) := (cell_putR (by omega)).trans bc1
  replace bc2 : (((v13.setCell ⟨w6.heap.size, 0, none⟩ (.bool bi)).setCell ⟨w6.heap.size, 1, none⟩ (.slice Ai ni ci)).setCell ⟨w6.heap.size, 2, none⟩ (.slice Bi mi di)).cell? ⟨w3.heap.size, 2, none⟩ = some (.slice Bx mx dx) := (cell_putR (by omega)).trans bc2
  replace be0 : (((v13.setCell ⟨w6.heap.size, 0, none⟩ (.bool bi)).setCell ⟨w6.heap.size, 1, none⟩ (.slice Ai ni ci)).setCell ⟨w6.heap.size, 2, none⟩ (.slice Bi mi di)).cell? ⟨w12.heap.size, 0, none⟩ = some (.bool bi) := (cell_putR (by omega)).trans be0
  replace be1 : (((v13.setCell ⟨w6.heap.size, 0, none⟩ (.bool bi)).setCell ⟨w6.heap.size, 1, none⟩ (.slice Ai ni ci)).setCell ⟨w6.heap.size, 2, none⟩ (.slice Bi mi di)).cell? ⟨w12.heap.size, 1, none⟩ = some (.slice Ai ni ci) := (cell_putR (by omega)).trans be1
  replace be2 : (((v13.setCell ⟨w6.heap.size, 0, none⟩ (.bool bi)).setCell ⟨w6.heap.size, 1, none⟩ (.slice Ai ni ci)).setCell ⟨w6.heap.size, 2, none⟩ (.slice Bi mi di)).cell? ⟨w12.heap.size, 2, none⟩ = some (.slice Bi mi di) := (cell_putR (by omega)).trans be2
  replace f0 : (((v13.setCell ⟨w6.heap.size, 0, none⟩ (.bool bi)).setCell ⟨w6.heap.size, 1, none⟩ (.slice Ai ni ci)).setCell ⟨w6.heap.size, 2, none⟩ (.slice Bi mi di)).frozen? ⟨w.heap.size + 1, 0, none⟩ = false := by simpa [go_sem] using f0
  replace f1 : (((v13.setCell ⟨w6.heap.size, 0, none⟩ (.bool bi)).setCell ⟨w6.heap.size, 1, none⟩ (.slice Ai ni ci)).setCell ⟨w6.heap.size, 2, none⟩ (.slice Bi mi di)).frozen? ⟨w.heap.size + 1, 1, none⟩ = false := by simpa [go_sem] using f1
  replace f2 : (((v13.setCell ⟨w6.heap.size, 0, none⟩ (.bool bi)).setCell ⟨w6.heap.size, 1, none⟩ (.slice Ai ni ci)).setCell ⟨w6.heap.size, 2, none⟩ (.slice Bi mi di)).frozen? ⟨w.heap.size + 1, 2, none⟩ = false := by simpa [go_sem] using f2
  replace f3 : (((v13.setCell ⟨w6.heap.size, 0, none⟩ (.bool bi)).setCell ⟨w6.heap.size, 1, none⟩ (.slice Ai ni ci)).setCell ⟨w6.heap.size, 2, none⟩ (.slice Bi mi di)).frozen? ⟨w.heap.size + 1, 3, none⟩ = false := by simpa [go_sem] using f3
  replace f4 : (((v13.setCell ⟨w6.heap.size, 0, none⟩ (.bool bi)).setCell ⟨w6.heap.size, 1, none⟩ (.slice Ai ni ci)).setCell ⟨w6.heap.size, 2, none⟩ (.slice Bi mi di)).frozen? ⟨w.heap.size + 1, 4, none⟩ = false := by simpa [go_sem] using f4
  replace f5 : (((v13.setCell ⟨w6.heap.size, 0, none⟩ (.bool bi)).setCell ⟨w6.heap.size, 1, none⟩ (.slice Ai ni ci)).setCell ⟨w6.heap.size, 2, none⟩ (.slice Bi mi di)).frozen? ⟨w.heap.size + 1, 5, none⟩ = false := by simpa [go_sem] using f5
  replace cc : Below w.heap.size w (((v13.setCell ⟨w6.heap.size, 0, none⟩ (.bool bi)).setCell ⟨w6.heap.size, 1, none⟩ (.slice Ai ni ci)).setCell ⟨w6.heap.size, 2, none⟩ (.slice Bi mi di)) := below_putR cc (by omega) (.bool bi) (.slice Ai ni ci) (.slice Bi mi di)
  have es_ : (((v13.setCell ⟨w6.heap.size, 0, none⟩ (.bool bi)).setCell ⟨w6.heap.size, 1, none⟩ (.slice Ai ni ci)).setCell ⟨w6.heap.size, 2, none⟩ (.slice Bi mi di)).heap.size = v13.heap.size := by simp
  rw [← es_] at kal g_l bcl bdl bel
  clear es_ bb_ bd0 bd1 bd2 bdr0 bdr1 bdr2
  generalize ((v13.setCell ⟨w6.heap.size, 0, none⟩ (.bool bi)).setCell ⟨w6.heap.size, 1, none⟩ (.slice Ai ni ci)).setCell ⟨w6.heap.size, 2, none⟩ (.slice Bi mi di) = wp at *
  obtain ⟨bd0, bd1, bd2⟩ := bn_
  have hb_ : Held wp (w.heap.size + 1) := held6 g_0 g_1 g_2 g_3 g_4 g_5
  have HL : Hid (Rt (putS wp (w.heap.size + 1) (.bool bx) (.slice Ax nx cx) (.slice Bx mx dx) (.bool bi) (.slice Ai ni ci) (.slice Bi mi di)) bx Ax nx cx Bx mx dx (bak (nl_ : Int) j.toNat)) := Lib.hid (Rt.putS hx hb_ _ _)
  have HH : Hid (Rt (putS wp (w.heap.size + 1) (.bool bx) (.slice Ax nx cx) (.slice Bx mx dx) (.bool bi) (.slice Ai ni ci) (.slice Bi mi di)) bi Ai ni ci Bi mi di (sqh y0 j.toNat)) := Lib.hid (Rt.putS (by rw [HS.out]; exact hi) hb_ _ _)
  go_wp2_with fail
  refine bodyPost_ret (v := .tuple #[.agg #[.bool bx, .slice Ax nx cx, .slice Bx mx dx, .bool bi, .slice Ai ni ci, .slice Bi mi di], .int .i64 0]) (by simp [results, Tryz.results31, go_sem, g_0, g_1, g_2, g_3, g_4, g_5]) rfl ⟨_, _, _, _, _, _, _, _, _, _, _, _, _, _, rfl, ⟨by rw [HLN.out]; exact HL.out, HH.out⟩, below_putS cc (by omega) _ _ _ _ _ _⟩

theorem stsqrt_N {w : World} {b0 p0 : Bool} {A0 B0 V0 U0 : Option Addr} {n0 c0 m0 d0 r0 k0 o0 q0 : Nat} {x0 y0 : Rat} (h0 : Rt w b0 A0 n0 c0 B0 m0 d0 x0) (g0 : Rt w p0 V0 r0 k0 U0 o0 q0 y0) (s0 : Sz x0 10) (t0 : Sz y0 10) {j : Int} (j0 : 0 ≤ j) (j1 : j ≤ 310) (hb : b0 = false) :
    Calls Tryz.prog 31 #[.agg #[.bool b0, .slice A0 n0 c0, .slice B0 m0 d0, .bool p0, .slice V0 r0 k0, .slice U0 o0 q0], .int .i64 j] w (GotSp w (bak (sqr x0 j.toNat : Int) j.toNat) (sqh y0 j.toNat) 0) := by
  by_cases hc : bak (sqr y0 j.toNat : Int) j.toNat * bak (sqr y0 j.toNat : Int) j.toNat < y0
  · exact stsqrt_lt h0 g0 s0 t0 j0 j1 hb hc
  · exact stsqrt_ge h0 g0 s0 t0 j0 j1 hb hc

end Go.Proofs.YtanpklbconflmaaGreat

/-
  Spans: the ends of a product, of roots.
-/
namespace Go.Proofs.YtanpklbconflmaaGreat
set_option linter.unusedSimpArgs false
set_option linter.unusedVariables false

theorem mul_ge {a x b z l : Rat} (h1 : a ≤ x) (h2 : x ≤ b) (ha : l ≤ a * z) (hb : l ≤ b * z) : l ≤ x * z := by
  rcases (Rat.le_total : (0 : Rat) ≤ z ∨ z ≤ 0) with h | h
  · exact Rat.le_trans ha (Rat.mul_le_mul_of_nonneg_right h1 h)
  · have hn : 0 ≤ -z := by grind
    have h3 := Rat.mul_le_mul_of_nonneg_right h2 hn
    rw [Rat.mul_neg, Rat.mul_neg] at h3
    grind
theorem mul_le_of {a x b z l : Rat} (h1 : a ≤ x) (h2 : x ≤ b) (ha : a * z ≤ l) (hb : b * z ≤ l) : x * z ≤ l := by
  have h := mul_ge (z := -z) (l := -l) h1 h2 (by rw [Rat.mul_neg]; grind) (by rw [Rat.mul_neg]; grind)
  rw [Rat.mul_neg] at h
  grind
theorem mlo_all (a b c d : Rat) : mlo a b c d ≤ a * c ∧ mlo a b c d ≤ a * d ∧ mlo a b c d ≤ b * c ∧ mlo a b c d ≤ b * d := by
  unfold mlo lowR lowR lowR lowR lowR four
  grind
theorem mhi_all (a b c d : Rat) : a * c ≤ mhi a b c d ∧ a * d ≤ mhi a b c d ∧ b * c ≤ mhi a b c d ∧ b * d ≤ mhi a b c d := by
  unfold mhi highR highR highR highR highR four
  grind
theorem mlo_one (a b c d : Rat) : mlo a b c d = a * c ∨ mlo a b c d = a * d ∨ mlo a b c d = b * c ∨ mlo a b c d = b * d := by
  unfold mlo lowR lowR lowR lowR lowR four
  grind
theorem mhi_one (a b c d : Rat) : mhi a b c d = a * c ∨ mhi a b c d = a * d ∨ mhi a b c d = b * c ∨ mhi a b c d = b * d := by
  unfold mhi highR highR highR highR highR four
  grind
/-- A product of members is a member. -/
theorem mlo_has {a b c d x z : Rat} (h1 : a ≤ x) (h2 : x ≤ b) (h3 : c ≤ z) (h4 : z ≤ d) : mlo a b c d ≤ x * z ∧ x * z ≤ mhi a b c d := by
  obtain ⟨l1, l2, l3, l4⟩ := mlo_all a b c d
  obtain ⟨u1, u2, u3, u4⟩ := mhi_all a b c d
  have e : ∀ v w : Rat, w * v = v * w := fun v w => Rat.mul_comm w v
  constructor
  · refine mul_ge h1 h2 ?_ ?_
    · rw [Rat.mul_comm a z]; exact mul_ge h3 h4 (by rw [Rat.mul_comm c a]; exact l1) (by rw [Rat.mul_comm d a]; exact l2)
    · rw [Rat.mul_comm b z]; exact mul_ge h3 h4 (by rw [Rat.mul_comm c b]; exact l3) (by rw [Rat.mul_comm d b]; exact l4)
  · refine mul_le_of h1 h2 ?_ ?_
    · rw [Rat.mul_comm a z]; exact mul_le_of h3 h4 (by rw [Rat.mul_comm c a]; exact u1) (by rw [Rat.mul_comm d a]; exact u2)
    · rw [Rat.mul_comm b z]; exact mul_le_of h3 h4 (by rw [Rat.mul_comm c b]; exact u3) (by rw [Rat.mul_comm d b]; exact u4)
theorem mlo_mhi (a b c d : Rat) : mlo a b c d ≤ mhi a b c d := Rat.le_trans (mlo_all a b c d).1 (mhi_all a b c d).1
/-- Smaller spans have a smaller product. -/
theorem mlo_mono {a b c d x y z v : Rat} (h1 : a ≤ x) (h2 : x ≤ y) (h3 : y ≤ b) (h4 : c ≤ z) (h5 : z ≤ v) (h6 : v ≤ d) : mlo a b c d ≤ mlo x y z v ∧ mhi x y z v ≤ mhi a b c d := by
  have h7 := Rat.le_trans h1 h2
  have h8 := Rat.le_trans h2 h3
  have h9 := Rat.le_trans h4 h5
  have h10 := Rat.le_trans h5 h6
  constructor
  · rcases mlo_one x y z v with e | e | e | e <;> rw [e]
    · exact (mlo_has h1 h8 h4 h10).1
    · exact (mlo_has h1 h8 h9 h6).1
    · exact (mlo_has h7 h3 h4 h10).1
    · exact (mlo_has h7 h3 h9 h6).1
  · rcases mhi_one x y z v with e | e | e | e <;> rw [e]
    · exact (mlo_has h1 h8 h4 h10).2
    · exact (mlo_has h1 h8 h9 h6).2
    · exact (mlo_has h7 h3 h4 h10).2
    · exact (mlo_has h7 h3 h9 h6).2
theorem mlo_comm (a b c d : Rat) : mlo c d a b = mlo a b c d ∧ mhi c d a b = mhi a b c d := by
  have k1 := Rat.mul_comm c a
  have k2 := Rat.mul_comm d a
  have k3 := Rat.mul_comm c b
  have k4 := Rat.mul_comm d b
  obtain ⟨l1, l2, l3, l4⟩ := mlo_all a b c d
  obtain ⟨u1, u2, u3, u4⟩ := mhi_all a b c d
  obtain ⟨m1, m2, m3, m4⟩ := mlo_all c d a b
  obtain ⟨v1, v2, v3, v4⟩ := mhi_all c d a b
  rw [k1] at m1 v1
  rw [k3] at m2 v2
  rw [k2] at m3 v3
  rw [k4] at m4 v4
  have e1 := mlo_one a b c d
  have e2 := mhi_one a b c d
  have e3 := mlo_one c d a b
  have e4 := mhi_one c d a b
  rw [k1, k3, k2, k4] at e3 e4
  constructor
  · apply Rat.le_antisymm
    · rcases e1 with e | e | e | e <;> rw [e] <;> with_reducible assumption
    · rcases e3 with e | e | e | e <;> rw [e] <;> with_reducible assumption
  · apply Rat.le_antisymm
    · rcases e4 with e | e | e | e <;> rw [e] <;> with_reducible assumption
    · rcases e2 with e | e | e | e <;> rw [e] <;> with_reducible assumption
theorem mlo_self (a b : Rat) : mlo a a b b = a * b ∧ mhi a a b b = a * b := by
  have h := mlo_one a a b b
  have g := mhi_one a a b b
  simp only [or_self] at h g
  exact ⟨h, g⟩
/-- A whole number's square, on the grid's square. -/
theorem bak_sq (n : Nat) (k : Nat) : bak (n : Int) k * bak (n : Int) k = bak ((n * n : Nat) : Int) (2 * k) := by
  have h1 := bak_mul (n : Int) k
  have h2 := bak_mul ((n * n : Nat) : Int) (2 * k)
  apply dw_cancel (k := 2 * k)
  rw [h2, Nat.two_mul, dw_add]
  have e : bak (n : Int) k * bak (n : Int) k * (dw k * dw k) = (bak (n : Int) k * dw k) * (bak (n : Int) k * dw k) := by grind
  rw [e, h1, show ((n * n : Nat) : Int) = (n : Int) * (n : Int) by simp, Rat.intCast_mul]
theorem bak_le_iff (n : Int) (x : Rat) (k : Nat) : bak n k ≤ x ↔ n ≤ flo x k := by
  have hd := dw_pos k
  unfold flo
  rw [Rat.le_floor_iff, ← bak_mul n k]
  constructor
  · intro h; exact Rat.mul_le_mul_of_nonneg_right h (Rat.le_of_lt hd)
  · intro h; exact Rat.le_of_mul_le_mul_right h hd
theorem sqr_flo {x : Rat} (k : Nat) (h : ¬ x.num < 0) : (iroot 2 (x.num.natAbs * 2 ^ (2 * k) / x.den)) = sqr x k ∧ flo x (2 * k) = ((x.num.natAbs * 2 ^ (2 * k) / x.den : Nat) : Int) := ⟨rfl, flo_pos x (2 * k) h⟩
theorem sqr_iff {x : Rat} (k r : Nat) (h : ¬ x.num < 0) : bak (r : Int) k * bak (r : Int) k ≤ x ↔ r ≤ sqr x k := by
  obtain ⟨e1, e2⟩ := sqr_flo k h
  rw [bak_sq, bak_le_iff, e2, ← e1, le_iroot (by omega), Nat.pow_two]
  omega
/-- The lower end of roots. -/
theorem sqr_le {x : Rat} (k : Nat) (h : ¬ x.num < 0) : bak (sqr x k : Int) k * bak (sqr x k : Int) k ≤ x := (sqr_iff k _ h).2 (Nat.le_refl _)
theorem sqr_lt {x : Rat} (k : Nat) (h : ¬ x.num < 0) : x < bak ((sqr x k + 1 : Nat) : Int) k * bak ((sqr x k + 1 : Nat) : Int) k := by
  have h1 := sqr_iff k (sqr x k + 1) h
  have h2 : ¬ sqr x k + 1 ≤ sqr x k := by omega
  rw [← h1] at h2
  grind
theorem bak_step (n : Nat) (k : Nat) : bak ((n + 1 : Nat) : Int) k = bak (n : Int) k + bak 1 k := by
  apply dw_cancel (k := k)
  rw [Rat.add_mul, bak_mul, bak_mul, bak_mul, ← Rat.intCast_add]
  rfl
theorem bak_pos (k : Nat) : 0 < bak 1 k := by
  have h1 := bak_one k
  have h2 := dw_pos k
  by_cases h : 0 < bak 1 k
  · exact h
  · have h3 : bak 1 k ≤ 0 := by grind
    have h4 := Rat.mul_le_mul_of_nonneg_right h3 (Rat.le_of_lt h2)
    grind
theorem bak_nat (n : Nat) (k : Nat) : 0 ≤ bak (n : Int) k := by
  induction n with
  | zero => apply Rat.le_of_mul_le_mul_right (c := dw k) _ (dw_pos k); rw [bak_mul]; simp
  | succ n ih => rw [bak_step]; have := bak_pos k; grind
/-- The upper end of roots: a number of the grid. -/
theorem sqh_bak (y : Rat) (k : Nat) : ∃ n : Nat, sqh y k = bak (n : Int) k ∧ sqr y k ≤ n := by
  unfold sqh
  split
  · exact ⟨sqr y k + 1, rfl, by omega⟩
  · exact ⟨sqr y k, rfl, by omega⟩
theorem sqh_ge {y : Rat} (k : Nat) (h : ¬ y.num < 0) : y ≤ sqh y k * sqh y k := by
  unfold sqh
  split
  · exact Rat.le_of_lt (sqr_lt k h)
  · grind
theorem sqh_less {y : Rat} (k : Nat) (h : ¬ y.num < 0) : sqh y k - bak 1 k < 0 ∨ (sqh y k - bak 1 k) * (sqh y k - bak 1 k) < y := by
  unfold sqh
  split
  · right
    rw [bak_step]
    have e : bak (sqr y k : Int) k + bak 1 k - bak 1 k = bak (sqr y k : Int) k := by grind
    rw [e]; assumption
  · rename_i h1
    have h2 := sqr_le k h
    have h3 : bak (sqr y k : Int) k * bak (sqr y k : Int) k = y := by grind
    rcases Nat.eq_zero_or_pos (sqr y k) with e | e
    · left
      have h4 : bak ((0 : Nat) : Int) k = 0 := by apply dw_cancel (k := k); rw [bak_mul]; simp
      have := bak_pos k
      rw [e, h4]; grind
    · right
      obtain ⟨n, hn⟩ : ∃ n, sqr y k = n + 1 := ⟨sqr y k - 1, by omega⟩
      rw [hn, bak_step] at h3 ⊢
      have a := bak_nat n k
      have b := bak_pos k
      have e2 : bak (n : Int) k + bak 1 k - bak 1 k = bak (n : Int) k := by grind
      rw [e2, ← h3]
      have m1 : 0 ≤ bak (n : Int) k * bak 1 k := Rat.mul_nonneg a (Rat.le_of_lt b)
      have m2 : 0 < bak 1 k * bak 1 k := Rat.mul_pos b b
      grind
theorem sqr_mono {x y : Rat} (k : Nat) (h : ¬ x.num < 0) (h2 : ¬ y.num < 0) (hxy : x ≤ y) : sqr x k ≤ sqr y k := (sqr_iff k _ h2).1 (Rat.le_trans (sqr_le k h) hxy)
theorem bak_mono {n m : Nat} (k : Nat) (h : n ≤ m) : bak (n : Int) k ≤ bak (m : Int) k := by
  induction h with
  | refl => exact Rat.le_refl
  | step _ ih => rw [Nat.succ_eq_add_one, bak_step]; have := bak_pos k; grind
/-- Roots are right. -/
theorem sqr_sqh {x y : Rat} (k : Nat) (h : ¬ x.num < 0) (h2 : ¬ y.num < 0) (hxy : x ≤ y) : bak (sqr x k : Int) k ≤ sqh y k := by
  obtain ⟨n, e, hn⟩ := sqh_bak y k
  rw [e]
  exact bak_mono k (Nat.le_trans (sqr_mono k h h2 hxy) hn)
/-- Roots, rounded outward, are themselves. -/
theorem sqr_on (x : Rat) (k : Nat) : bak (flo (bak (sqr x k : Int) k) k) k = bak (sqr x k : Int) k := by rw [flo_bak]
theorem sqh_on (y : Rat) (k : Nat) : bak (cei (sqh y k) k) k = sqh y k := by
  obtain ⟨n, e, hn⟩ := sqh_bak y k
  rw [e, cei_bak]
/-- Out is around, and keeps what is in. -/
theorem bak_mono_int {n m : Int} (k : Nat) (h : n ≤ m) : bak n k ≤ bak m k := by
  apply Rat.le_of_mul_le_mul_right (c := dw k) _ (dw_pos k)
  rw [bak_mul, bak_mul]
  exact Rat.intCast_le_intCast.2 h
theorem out_low (a : Rat) (k : Nat) : bak (flo a k) k ≤ a := (bak_le_iff _ _ _).2 (Int.le_refl _)
theorem out_high (a : Rat) (k : Nat) : a ≤ bak (cei a k) k := by
  have h := out_low (-a) k
  unfold cei
  rw [← bak_neg]
  grind
theorem out_mono {a b : Rat} (k : Nat) (h : a ≤ b) : bak (flo a k) k ≤ bak (flo b k) k ∧ bak (cei a k) k ≤ bak (cei b k) k := ⟨bak_mono_int k (flo_mono k h), bak_mono_int k (cei_mono k h)⟩
/-- Reciprocals turn the order around where both have one sign. -/
theorem inv_le {a b : Rat} (h : a ≤ b) (hs : 0 < a ∨ b < 0) : 1 / b ≤ 1 / a := by
  rcases hs with h0 | h0
  · have hb : 0 < b := by grind
    apply Rat.le_of_mul_le_mul_right (c := a * b) _ (Rat.mul_pos h0 hb)
    have e1 : 1 / b * (a * b) = a := by grind
    have e2 : 1 / a * (a * b) = b := by grind
    rw [e1, e2]; exact h
  · have ha : a < 0 := by grind
    have hp : 0 < a * b := by
      have := Rat.mul_pos (show 0 < -a by grind) (show 0 < -b by grind)
      rw [Rat.neg_mul, Rat.mul_neg, Rat.neg_neg] at this
      exact this
    apply Rat.le_of_mul_le_mul_right (c := a * b) _ hp
    have e1 : 1 / b * (a * b) = a := by grind
    have e2 : 1 / a * (a * b) = b := by grind
    rw [e1, e2]; exact h
/-- A quotient of members is a member. -/
theorem mlo_div {a b c d x z : Rat} (h1 : a ≤ x) (h2 : x ≤ b) (h3 : c ≤ z) (h4 : z ≤ d) (hs : 0 < c ∨ d < 0) : mlo a b (1 / d) (1 / c) ≤ x / z ∧ x / z ≤ mhi a b (1 / d) (1 / c) := by
  have e : x / z = x * (1 / z) := by
    have : z ≠ 0 := by grind
    grind
  rw [e]
  exact mlo_has h1 h2 (inv_le h4 (by grind)) (inv_le h3 (by grind))
/-- A number so far between the ends. -/
theorem between_ends {a b t : Rat} (h : a ≤ b) (h0 : 0 ≤ t) (h1 : t ≤ 1) : a ≤ a + (b - a) * t ∧ a + (b - a) * t ≤ b := by
  have hw : 0 ≤ b - a := by grind
  have m1 := Rat.mul_nonneg hw h0
  have m2 := Rat.mul_nonneg hw (show 0 ≤ 1 - t by grind)
  grind
theorem between_mono {a b t u : Rat} (h : a ≤ b) (h0 : t ≤ u) : a + (b - a) * t ≤ a + (b - a) * u := by
  have m2 := Rat.mul_nonneg (show 0 ≤ b - a by grind) (show 0 ≤ u - t by grind)
  grind
