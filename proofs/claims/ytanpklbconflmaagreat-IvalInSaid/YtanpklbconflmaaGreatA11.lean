/-
  Several texts in one: IC, MathN, RT1, RT2, RT3, RT4, RT, H9.
-/
import Derived.Test.YtanpklbconflmaaGreatA10
import Derived.Test.YtanpklbconflmaaGreatA3
import Derived.Test.YtanpklbconflmaaGreatA6
import Derived.Deep.LoopGhost
import Derived.Test.YtanpklbconflmaaGreatA8
import Derived.Test.YtanpklbconflmaaGreatA5

/-
  The contracts of ival: Mul, turned, Div.
-/
namespace Go.Proofs.YtanpklbconflmaaGreat
set_option maxRecDepth 100000
set_option maxHeartbeats 8000000
open Go.RowKit
set_option linter.unusedVariables false
set_option linter.unusedSimpArgs false

theorem row3 {W : World} {g : Nat} {b1 b2 b3 : Bool} {A1 B1 A2 B2 A3 B3 : Option Addr} {n1 c1 m1 d1 n2 c2 m2 d2 n3 c3 m3 d3 : Nat} {x0 x1 x2 x3 : Rat} (c0_ : W.cell? ⟨g, 0, none⟩ = some (.bool b1)) (c1_ : W.cell? ⟨g, 1, none⟩ = some (.slice A1 n1 c1)) (c2_ : W.cell? ⟨g, 2, none⟩ = some (.slice B1 m1 d1)) (c3_ : W.cell? ⟨g, 3, none⟩ = some (.bool b2)) (c4_ : W.cell? ⟨g, 4, none⟩ = some (.slice A2 n2 c2)) (c5_ : W.cell? ⟨g, 5, none⟩ = some (.slice B2 m2 d2)) (c6_ : W.cell? ⟨g, 6, none⟩ = some (.bool b3)) (c7_ : W.cell? ⟨g, 7, none⟩ = some (.slice A3 n3 c3)) (c8_ : W.cell? ⟨g, 8, none⟩ = some (.slice B3 m3 d3)) (k1 : Rt W b1 A1 n1 c1 B1 m1 d1 x1) (k2 : Rt W b2 A2 n2 c2 B2 m2 d2 x2) (k3 : Rt W b3 A3 n3 c3 B3 m3 d3 x3) : RowR W g 3 (fun i => four x0 x1 x2 x3 (i + 1)) := by
  intro i hi
  match i, hi with
  | 0, _ => exact ⟨_, _, _, _, _, _, _, c0_, c1_, c2_, k1⟩
  | 1, _ => exact ⟨_, _, _, _, _, _, _, c3_, c4_, c5_, k2⟩
  | 2, _ => exact ⟨_, _, _, _, _, _, _, c6_, c7_, c8_, k3⟩

theorem imul_N {w : World} {b0 p0 : Bool} {A0 B0 V0 U0 : Option Addr} {n0 c0 m0 d0 r0 k0 o0 q0 : Nat} {b1 p1 : Bool} {A1 B1 V1 U1 : Option Addr} {n1 c1 m1 d1 r1 k1 o1 q1 : Nat} {x0 y0 : Rat} (h0 : Rt w b0 A0 n0 c0 B0 m0 d0 x0) (g0 : Rt w p0 V0 r0 k0 U0 o0 q0 y0) (s0 : Sz x0 15) (t0 : Sz y0 15) {x1 y1 : Rat} (h1 : Rt w b1 A1 n1 c1 B1 m1 d1 x1) (g1 : Rt w p1 V1 r1 k1 U1 o1 q1 y1) (s1 : Sz x1 15) (t1 : Sz y1 15) :
    Calls Tryz.prog 26 #[.agg #[.bool b0, .slice A0 n0 c0, .slice B0 m0 d0, .bool p0, .slice V0 r0 k0, .slice U0 o0 q0], .agg #[.bool b1, .slice A1 n1 c1, .slice B1 m1 d1, .bool p1, .slice V1 r1 k1, .slice U1 o1 q1]] w (GotSt w (mlo x0 y0 x1 y1) (mhi x0 y0 x1 y1)) := by
  have z1 := s0.mul s1
  have z2 := s0.mul t1
  have z3 := t0.mul s1
  have z4 := t0.mul t1
  have HS := Lib.hid (four_sz z1 z2 z3 z4)
  clear z1 z2 z3 z4
  have cc := Below.refl w.heap.size w
  go_enter Tryz.func26, Tryz.ntmps26
  go_wp2_with fail
  generalize hv_ : ((w.alloc (.cells #[.bool b0, .slice A0 n0 c0, .slice B0 m0 d0, .bool p0, .slice V0 r0 k0, .slice U0 o0 q0] 29)).alloc (.cells #[.bool b1, .slice A1 n1 c1, .slice B1 m1 d1, .bool p1, .slice V1 r1 k1, .slice U1 o1 q1] 29)).alloc (.cells #[.bool false, .slice none 0 0, .slice none 0 0, .bool false, .slice none 0 0, .slice none 0 0] 29) = v1
  obtain ⟨f0, f1, f2, f3, f4, f5⟩ : Fz6 v1 (w.heap.size + 1 + 1) := by simp [Fz6, ← hv_, go_sem]
  have bA : Below w.heap.size w v1 := by rw [← hv_]; exact ((((Below.refl _ w).alloc (by simp) _).alloc (by simp) _).alloc (by simp <;> omega) _)
  replace h0 := h0.on bA
  replace g0 := g0.on bA
  replace h1 := h1.on bA
  replace g1 := g1.on bA
  replace cc := bK cc bA
  clear bA
  obtain ⟨ka0, ka1, ka2, ka3, ka4, ka5⟩ : Cs6 v1 w.heap.size (.bool b0) (.slice A0 n0 c0) (.slice B0 m0 d0) (.bool p0) (.slice V0 r0 k0) (.slice U0 o0 q0) := by simp [Cs6, ← hv_, go_sem]
  have kal : w.heap.size < v1.heap.size := by simp [← hv_] <;> omega
  obtain ⟨kb0, kb1, kb2, kb3, kb4, kb5⟩ : Cs6 v1 (w.heap.size + 1) (.bool b1) (.slice A1 n1 c1) (.slice B1 m1 d1) (.bool p1) (.slice V1 r1 k1) (.slice U1 o1 q1) := by simp [Cs6, ← hv_, go_sem]
  have kbl : w.heap.size + 1 < v1.heap.size := by simp [← hv_] <;> omega
  obtain ⟨g_0, g_1, g_2, g_3, g_4, g_5⟩ : Cs6 v1 (w.heap.size + 1 + 1) (.bool false) (.slice none 0 0) (.slice none 0 0) (.bool false) (.slice none 0 0) (.slice none 0 0) := by simp [Cs6, ← hv_, go_sem]
  have g_l : w.heap.size + 1 + 1 < v1.heap.size := by simp [← hv_] <;> omega
  clear hv_
  have bD : Below v1.heap.size v1 v1.drew := below_drewN (Below.refl _ v1) 1
  rewrite [fR bD g_l] at f0 f1 f2 f3 f4 f5
  replace h0 := h0.on bD
  replace g0 := g0.on bD
  replace h1 := h1.on bD
  replace g1 := g1.on bD
  rewrite [cR bD kal] at ka0 ka1 ka2 ka3 ka4 ka5
  replace kal := lK bD kal
  rewrite [cR bD kbl] at kb0 kb1 kb2 kb3 kb4 kb5
  replace kbl := lK bD kbl
  rewrite [cR bD g_l] at g_0 g_1 g_2 g_3 g_4 g_5
  replace g_l := lK bD g_l
  replace cc := bK cc bD
  clear bD
  refine wp_region_held_drew (S := fun w' => w'.cell? ⟨w.heap.size, 0, none⟩ = some (.bool b0) ∧ w'.cell? ⟨w.heap.size, 1, none⟩ = some (.slice A0 n0 c0) ∧ w'.cell? ⟨w.heap.size, 2, none⟩ = some (.slice B0 m0 d0) ∧ w'.cell? ⟨w.heap.size, 3, none⟩ = some (.bool p0) ∧ w'.cell? ⟨w.heap.size, 4, none⟩ = some (.slice V0 r0 k0) ∧ w'.cell? ⟨w.heap.size, 5, none⟩ = some (.slice U0 o0 q0) ∧ w'.cell? ⟨w.heap.size + 1, 0, none⟩ = some (.bool b1) ∧ w'.cell? ⟨w.heap.size + 1, 1, none⟩ = some (.slice A1 n1 c1) ∧ w'.cell? ⟨w.heap.size + 1, 2, none⟩ = some (.slice B1 m1 d1) ∧ w'.cell? ⟨w.heap.size + 1, 3, none⟩ = some (.bool p1) ∧ w'.cell? ⟨w.heap.size + 1, 4, none⟩ = some (.slice V1 r1 k1) ∧ w'.cell? ⟨w.heap.size + 1, 5, none⟩ = some (.slice U1 o1 q1)) (by kernel_rfl) ?_ (fun hHeld => ?_)
  · exact ⟨ka0, ka1, ka2, ka3, ka4, ka5, kb0, kb1, kb2, kb3, kb4, kb5⟩
  refine wpAnyH_take (i := 0) (v := ?_) rfl (by kernel_rfl) (by kernel_rfl) (by kernel_rfl) (fun _ _ _ h => h) (Or.inl ⟨by rfl, ?_⟩) hHeld ?_
  rotate_left
  · (intro w hSw; (try dsimp only at hSw); go_simp; (try with_reducible rfl))
  try simp only [Act.put, pT]
  refine wpAnyH_take (i := 1) (v := ?_) rfl (by kernel_rfl) (by kernel_rfl) (by kernel_rfl) (fun _ _ _ h => h) (Or.inl ⟨by rfl, ?_⟩) hHeld ?_
  rotate_left
  · (intro w hSw; (try dsimp only at hSw); go_simp; (try with_reducible rfl))
  try simp only [Act.put, pT]
  refine wpAnyH_take (i := 2) (v := ?_) rfl (by kernel_rfl) (by kernel_rfl) (by kernel_rfl) (fun _ _ _ h => h) (Or.inl ⟨by rfl, ?_⟩) hHeld ?_
  rotate_left
  · (intro w hSw; (try dsimp only at hSw); go_simp; (try with_reducible rfl))
  try simp only [Act.put, pT]
  refine wpAnyH_take (i := 3) (v := ?_) rfl (by kernel_rfl) (by kernel_rfl) (by kernel_rfl) (fun _ _ _ h => h) (Or.inl ⟨by rfl, ?_⟩) hHeld ?_
  rotate_left
  · (intro w hSw; (try dsimp only at hSw); go_simp; (try with_reducible rfl))
  try simp only [Act.put, pT]
  refine wpAnyH_take (i := 5) (v := ?_) rfl (by kernel_rfl) (by kernel_rfl) (by kernel_rfl) (fun _ _ _ h => h) (Or.inl ⟨by rfl, ?_⟩) hHeld ?_
  rotate_left
  · (intro w hSw; (try dsimp only at hSw); go_simp; (try with_reducible rfl))
  try simp only [Act.put, pT]
  refine wpAnyH_take (i := 6) (v := ?_) rfl (by kernel_rfl) (by kernel_rfl) (by kernel_rfl) (fun _ _ _ h => h) (Or.inl ⟨by rfl, ?_⟩) hHeld ?_
  rotate_left
  · (intro w hSw; (try dsimp only at hSw); go_simp; (try with_reducible rfl))
  try simp only [Act.put, pT]
  refine wpAnyH_take (i := 7) (v := ?_) rfl (by kernel_rfl) (by kernel_rfl) (by kernel_rfl) (fun _ _ _ h => h) (Or.inl ⟨by rfl, ?_⟩) hHeld ?_
  rotate_left
  · (intro w hSw; (try dsimp only at hSw); go_simp; (try with_reducible rfl))
  try simp only [Act.put, pT]
  refine wpAnyH_take (i := 8) (v := ?_) rfl (by kernel_rfl) (by kernel_rfl) (by kernel_rfl) (fun _ _ _ h => h) (Or.inl ⟨by rfl, ?_⟩) hHeld ?_
  rotate_left
  · (intro w hSw; (try dsimp only at hSw); go_simp; (try with_reducible rfl))
  try simp only [Act.put, pT]
  refine wpAnyH_take (i := 10) (v := ?_) rfl (by kernel_rfl) (by kernel_rfl) (by kernel_rfl) (fun _ _ _ h => h) (Or.inl ⟨by rfl, ?_⟩) hHeld ?_
  rotate_left
  · (intro w hSw; (try dsimp only at hSw); go_simp; (try with_reducible rfl))
  try simp only [Act.put, pT]
  refine wpAnyH_take (i := 11) (v := ?_) rfl (by kernel_rfl) (by kernel_rfl) (by kernel_rfl) (fun _ _ _ h => h) (Or.inl ⟨by rfl, ?_⟩) hHeld ?_
  rotate_left
  · (intro w hSw; (try dsimp only at hSw); go_simp; (try with_reducible rfl))
  try simp only [Act.put, pT]
  refine wpAnyH_take (i := 12) (v := ?_) rfl (by kernel_rfl) (by kernel_rfl) (by kernel_rfl) (fun _ _ _ h => h) (Or.inl ⟨by rfl, ?_⟩) hHeld ?_
  rotate_left
  · (intro w hSw; (try dsimp only at hSw); go_simp; (try with_reducible rfl))
  try simp only [Act.put, pT]
  refine wpAnyH_take (i := 13) (v := ?_) rfl (by kernel_rfl) (by kernel_rfl) (by kernel_rfl) (fun _ _ _ h => h) (Or.inl ⟨by rfl, ?_⟩) hHeld ?_
  rotate_left
  · (intro w hSw; (try dsimp only at hSw); go_simp; (try with_reducible rfl))
  try simp only [Act.put, pT]
  refine wpAnyH_take (i := 15) (v := ?_) rfl (by kernel_rfl) (by kernel_rfl) (by kernel_rfl) (fun _ _ _ h => h) (Or.inl ⟨by rfl, ?_⟩) hHeld ?_
  rotate_left
  · (intro w hSw; (try dsimp only at hSw); go_simp; (try with_reducible rfl))
  try simp only [Act.put, pT]
  refine wpAnyH_take (i := 16) (v := ?_) rfl (by kernel_rfl) (by kernel_rfl) (by kernel_rfl) (fun _ _ _ h => h) (Or.inl ⟨by rfl, ?_⟩) hHeld ?_
  rotate_left
  · (intro w hSw; (try dsimp only at hSw); go_simp; (try with_reducible rfl))
  try simp only [Act.put, pT]
  refine wpAnyH_take (i := 17) (v := ?_) rfl (by kernel_rfl) (by kernel_rfl) (by kernel_rfl) (fun _ _ _ h => h) (Or.inl ⟨by rfl, ?_⟩) hHeld ?_
  rotate_left
  · (intro w hSw; (try dsimp only at hSw); go_simp; (try with_reducible rfl))
  try simp only [Act.put, pT]
  refine wpAnyH_take (i := 18) (v := ?_) rfl (by kernel_rfl) (by kernel_rfl) (by kernel_rfl) (fun _ _ _ h => h) (Or.inl ⟨by rfl, ?_⟩) hHeld ?_
  rotate_left
  · (intro w hSw; (try dsimp only at hSw); go_simp; (try with_reducible rfl))
  try simp only [Act.put, pT]
  refine wpAnyH_ready (rs := [4]) (by kernel_rfl) (by simp) ?_
  refine AllReadyH.cons rfl (fun K hK => ?_) AllReadyH.nil
  (try simp only [pT])
  rw [if_pos (by rfl)]
  go_simp
  go_at_call 50
  refine (qmul_N h0 (s0.le (by omega)) h1 (s1.le (by omega))).mono ?_
  rintro e w2 ⟨be, Ae, ne, ce, Be, me, de, rfl, ye, b⟩
  rewrite [fR b g_l] at f0 f1 f2 f3 f4 f5
  replace h0 := h0.on b
  replace g0 := g0.on b
  replace h1 := h1.on b
  replace g1 := g1.on b
  rewrite [cR b kal] at ka0 ka1 ka2 ka3 ka4 ka5
  replace kal := lK b kal
  rewrite [cR b kbl] at kb0 kb1 kb2 kb3 kb4 kb5
  replace kbl := lK b kbl
  rewrite [cR b g_l] at g_0 g_1 g_2 g_3 g_4 g_5
  replace g_l := lK b g_l
  replace cc := bK cc b
  clear b
  refine hK.out _ _ ?_ (fun hHeld => ?_)
  · exact ⟨ka0, ka1, ka2, ka3, ka4, ka5, kb0, kb1, kb2, kb3, kb4, kb5⟩
  clear hK K
  try simp only [Act.put, pT]
  refine wpAnyH_ready (rs := [9]) (by kernel_rfl) (by simp) ?_
  refine AllReadyH.cons rfl (fun K hK => ?_) AllReadyH.nil
  (try simp only [pT])
  rw [if_pos (by rfl)]
  go_simp
  go_at_call 50
  refine (qmul_N h0 (s0.le (by omega)) g1 (t1.le (by omega))).mono ?_
  rintro e w3 ⟨bf, Af, nf, cf, Bf, mf, df, rfl, yf, b⟩
  rewrite [fR b g_l] at f0 f1 f2 f3 f4 f5
  replace h0 := h0.on b
  replace g0 := g0.on b
  replace h1 := h1.on b
  replace g1 := g1.on b
  replace ye := ye.on b
  rewrite [cR b kal] at ka0 ka1 ka2 ka3 ka4 ka5
  replace kal := lK b kal
  rewrite [cR b kbl] at kb0 kb1 kb2 kb3 kb4 kb5
  replace kbl := lK b kbl
  rewrite [cR b g_l] at g_0 g_1 g_2 g_3 g_4 g_5
  replace g_l := lK b g_l
  replace cc := bK cc b
  clear b
  refine hK.out _ _ ?_ (fun hHeld => ?_)
  · exact ⟨ka0, ka1, ka2, ka3, ka4, ka5, kb0, kb1, kb2, kb3, kb4, kb5⟩
  clear hK K
  try simp only [Act.put, pT]
  refine wpAnyH_ready (rs := [14]) (by kernel_rfl) (by simp) ?_
  refine AllReadyH.cons rfl (fun K hK => ?_) AllReadyH.nil
  (try simp only [pT])
  rw [if_pos (by rfl)]
  go_simp
  go_at_call 50
  refine (qmul_N g0 (t0.le (by omega)) h1 (s1.le (by omega))).mono ?_
  rintro e w4 ⟨bi, Ai, ni, ci, Bi, mi, di, rfl, yi, b⟩
  rewrite [fR b g_l] at f0 f1 f2 f3 f4 f5
  replace h0 := h0.on b
  replace g0 := g0.on b
  replace h1 := h1.on b
  replace g1 := g1.on b
  replace ye := ye.on b
  replace yf := yf.on b
  rewrite [cR b kal] at ka0 ka1 ka2 ka3 ka4 ka5
  replace kal := lK b kal
  rewrite [cR b kbl] at kb0 kb1 kb2 kb3 kb4 kb5
  replace kbl := lK b kbl
  rewrite [cR b g_l] at g_0 g_1 g_2 g_3 g_4 g_5
  replace g_l := lK b g_l
  replace cc := bK cc b
  clear b
  refine hK.out _ _ ?_ (fun hHeld => ?_)
  · exact ⟨ka0, ka1, ka2, ka3, ka4, ka5, kb0, kb1, kb2, kb3, kb4, kb5⟩
  clear hK K
  try simp only [Act.put, pT]
  refine wpAnyH_ready (rs := [19]) (by kernel_rfl) (by simp) ?_
  refine AllReadyH.cons rfl (fun K hK => ?_) AllReadyH.nil
  (try simp only [pT])
  rw [if_pos (by rfl)]
  go_simp
  go_at_call 50
  refine (qmul_N g0 (t0.le (by omega)) g1 (t1.le (by omega))).mono ?_
  rintro e w5 ⟨bj, Aj, nj, cj, Bj, mj, dj, rfl, yj, b⟩
  rewrite [fR b g_l] at f0 f1 f2 f3 f4 f5
  replace h0 := h0.on b
  replace g0 := g0.on b
  replace h1 := h1.on b
  replace g1 := g1.on b
  replace ye := ye.on b
  replace yf := yf.on b
  replace yi := yi.on b
  rewrite [cR b kal] at ka0 ka1 ka2 ka3 ka4 ka5
  replace kal := lK b kal
  rewrite [cR b kbl] at kb0 kb1 kb2 kb3 kb4 kb5
  replace kbl := lK b kbl
  rewrite [cR b g_l] at g_0 g_1 g_2 g_3 g_4 g_5
  replace g_l := lK b g_l
  replace cc := bK cc b
  clear b
  refine hK.out _ _ ?_ (fun hHeld => ?_)
  · exact ⟨ka0, ka1, ka2, ka3, ka4, ka5, kb0, kb1, kb2, kb3, kb4, kb5⟩
  clear hK K
  try simp only [Act.put, pT]
  refine wpAnyH_ready (rs := [20]) (by kernel_rfl) (by simp) ?_
  refine AllReadyH.cons rfl (fun K hK => ?_) AllReadyH.nil
  (try simp only [pT])
  rw [if_pos (by rfl)]
  go_simp
  generalize hv_ : w5.alloc (.cells #[.bool bf, .slice Af nf cf, .slice Bf mf df, .bool bi, .slice Ai ni ci, .slice Bi mi di, .bool bj, .slice Aj nj cj, .slice Bj mj dj] 27) = v6
  have bA : Below w5.heap.size w5 v6 := by rw [← hv_]; exact below_one _ _
  rewrite [fR bA g_l] at f0 f1 f2 f3 f4 f5
  replace h0 := h0.on bA
  replace g0 := g0.on bA
  replace h1 := h1.on bA
  replace g1 := g1.on bA
  replace ye := ye.on bA
  replace yf := yf.on bA
  replace yi := yi.on bA
  replace yj := yj.on bA
  rewrite [cR bA kal] at ka0 ka1 ka2 ka3 ka4 ka5
  replace kal := lK bA kal
  rewrite [cR bA kbl] at kb0 kb1 kb2 kb3 kb4 kb5
  replace kbl := lK bA kbl
  rewrite [cR bA g_l] at g_0 g_1 g_2 g_3 g_4 g_5
  replace g_l := lK bA g_l
  replace cc := bK cc bA
  clear bA
  have ro0 : v6.cell? ⟨w5.heap.size, 0, none⟩ = some (.bool bf) := by simp [← hv_, go_sem]
  have ro1 : v6.cell? ⟨w5.heap.size, 1, none⟩ = some (.slice Af nf cf) := by simp [← hv_, go_sem]
  have ro2 : v6.cell? ⟨w5.heap.size, 2, none⟩ = some (.slice Bf mf df) := by simp [← hv_, go_sem]
  have ro3 : v6.cell? ⟨w5.heap.size, 3, none⟩ = some (.bool bi) := by simp [← hv_, go_sem]
  have ro4 : v6.cell? ⟨w5.heap.size, 4, none⟩ = some (.slice Ai ni ci) := by simp [← hv_, go_sem]
  have ro5 : v6.cell? ⟨w5.heap.size, 5, none⟩ = some (.slice Bi mi di) := by simp [← hv_, go_sem]
  have ro6 : v6.cell? ⟨w5.heap.size, 6, none⟩ = some (.bool bj) := by simp [← hv_, go_sem]
  have ro7 : v6.cell? ⟨w5.heap.size, 7, none⟩ = some (.slice Aj nj cj) := by simp [← hv_, go_sem]
  have ro8 : v6.cell? ⟨w5.heap.size, 8, none⟩ = some (.slice Bj mj dj) := by simp [← hv_, go_sem]
  have rol : w5.heap.size < v6.heap.size := by simp [← hv_]
  clear hv_
  refine hK.out _ _ ?_ (fun hHeld => ?_)
  · exact ⟨ka0, ka1, ka2, ka3, ka4, ka5, kb0, kb1, kb2, kb3, kb4, kb5⟩
  clear hK K
  try simp only [Act.put, pT]
  refine wpAnyH_ready (rs := [21]) (by kernel_rfl) (by simp) ?_
  refine AllReadyH.cons rfl (fun K hK => ?_) AllReadyH.nil
  (try simp only [pT])
  rw [if_pos (by rfl)]
  go_simp
  go_at_call 49
  refine (iaround_N (X := four (x0 * x1) (x0 * y1) (y0 * x1) (y0 * y1)) ye rol (by omega) (row3 ro0 ro1 ro2 ro3 ro4 ro5 ro6 ro7 ro8 yf yi yj) HS.out).mono ?_
  rintro e w7 ⟨bz, Az, nz, cz, Bz, mz, dz, pz, Vz, rz, kz, Uz, oz, qz, rfl, ⟨hz, gz⟩, b⟩
  rewrite [fR b g_l] at f0 f1 f2 f3 f4 f5
  replace h0 := h0.on b
  replace g0 := g0.on b
  replace h1 := h1.on b
  replace g1 := g1.on b
  replace ye := ye.on b
  replace yf := yf.on b
  replace yi := yi.on b
  replace yj := yj.on b
  rewrite [cR b kal] at ka0 ka1 ka2 ka3 ka4 ka5
  replace kal := lK b kal
  rewrite [cR b kbl] at kb0 kb1 kb2 kb3 kb4 kb5
  replace kbl := lK b kbl
  rewrite [cR b g_l] at g_0 g_1 g_2 g_3 g_4 g_5
  replace g_l := lK b g_l
  rewrite [cR b rol] at ro0 ro1 ro2 ro3 ro4 ro5 ro6 ro7 ro8
  replace rol := lK b rol
  replace cc := bK cc b
  clear b
  refine hK.out _ _ ?_ (fun hHeld => ?_)
  · exact ⟨ka0, ka1, ka2, ka3, ka4, ka5, kb0, kb1, kb2, kb3, kb4, kb5⟩
  clear hK K
  try simp only [Act.put, pT]
  refine wpAnyH_ready (rs := [22]) (by kernel_rfl) (by simp) ?_
  refine AllReadyH.cons rfl (fun K hK => ?_) AllReadyH.nil
  (try simp only [pT])
  rw [if_pos (by rfl)]
  go_simp
  refine hK.out _ _ ?_ (fun hHeld => ?_)
  · exact ⟨(cell_putS (by omega)).trans ka0, (cell_putS (by omega)).trans ka1, (cell_putS (by omega)).trans ka2, (cell_putS (by omega)).trans ka3, (cell_putS (by omega)).trans ka4, (cell_putS (by omega)).trans ka5, (cell_putS (by omega)).trans kb0, (cell_putS (by omega)).trans kb1, (cell_putS (by omega)).trans kb2, (cell_putS (by omega)).trans kb3, (cell_putS (by omega)).trans kb4, (cell_putS (by omega)).trans kb5⟩
  clear hK K
  try simp only [Act.put, pT]
  refine wpAnyH_done (by kernel_rfl) ?_ _
  clear hHeld
  have hb_ : Held w7 (w.heap.size + 1 + 1) := held6 g_0 g_1 g_2 g_3 g_4 g_5
  have HL : Hid (Rt (putS w7 (w.heap.size + 1 + 1) (.bool bz) (.slice Az nz cz) (.slice Bz mz dz) (.bool pz) (.slice Vz rz kz) (.slice Uz oz qz)) bz Az nz cz Bz mz dz (mlo x0 y0 x1 y1)) := Lib.hid (Rt.putS hz hb_ _ _)
  have HH : Hid (Rt (putS w7 (w.heap.size + 1 + 1) (.bool bz) (.slice Az nz cz) (.slice Bz mz dz) (.bool pz) (.slice Vz rz kz) (.slice Uz oz qz)) pz Vz rz kz Uz oz qz (mhi x0 y0 x1 y1)) := Lib.hid (Rt.putS gz hb_ _ _)
  go_wp2_with fail
  refine bodyPost_ret (v := .agg #[.bool bz, .slice Az nz cz, .slice Bz mz dz, .bool pz, .slice Vz rz kz, .slice Uz oz qz]) (by simp [results, Tryz.results26, go_sem, g_0, g_1, g_2, g_3, g_4, g_5]) rfl ⟨_, _, _, _, _, _, _, _, _, _, _, _, _, _, rfl, ⟨HL.out, HH.out⟩, below_putS cc (by omega) _ _ _ _ _ _⟩

theorem iturned_N {w : World} {b : Bool} {A B : Option Addr} {n c m d : Nat} {x : Rat} (h : Rt w b A n c B m d x) (s : Sz x 30) (hx : x.num ≠ 0) :
    Calls Tryz.prog 47 #[.agg #[.bool b, .slice A n c, .slice B m d]] w (GotRt w (((1 : Int) : Rat) / x)) := by
  obtain ⟨r1_, q1_⟩ : ∃ r, ((1 : Int) : Rat) = r := ⟨_, rfl⟩
  have C1 : ∀ W : World, Calls Tryz.prog 46 #[.int .i64 1] W (GotRt W r1_) := fun W => by rw [← q1_]; exact qof_N W 1 (by unfold I64; omega)
  have z1_ : Sz r1_ 30 := by rw [← q1_]; exact (sz_of (len_one (by decide))).le (by omega)
  rw [q1_]
  clear q1_
  have cc := Below.refl w.heap.size w
  go_enter Tryz.func47, Tryz.ntmps47
  go_wp2_with fail
  generalize hv_ : (w.alloc (.cells #[.bool b, .slice A n c, .slice B m d] 27)).alloc (.cells #[.bool false, .slice none 0 0, .slice none 0 0] 27) = v1
  obtain ⟨f0, f1, f2⟩ : Fz3 v1 (w.heap.size + 1) := by simp [Fz3, ← hv_, go_sem]
  have bA : Below w.heap.size w v1 := by rw [← hv_]; exact (((Below.refl _ w).alloc (by simp) _).alloc (by simp) _)
  replace h := h.on bA
  replace cc := bK cc bA
  clear bA
  obtain ⟨ka0, ka1, ka2⟩ : Cs3 v1 w.heap.size (.bool b) (.slice A n c) (.slice B m d) := by simp [Cs3, ← hv_, go_sem]
  have kal : w.heap.size < v1.heap.size := by simp [← hv_] <;> omega
  obtain ⟨g_0, g_1, g_2⟩ : Cs3 v1 (w.heap.size + 1) (.bool false) (.slice none 0 0) (.slice none 0 0) := by simp [Cs3, ← hv_, go_sem]
  have g_l : w.heap.size + 1 < v1.heap.size := by simp [← hv_] <;> omega
  clear hv_
  go_upto_region 1 with fail
  go_cut [3, 4] (fun u ue wx => ∃ (g_ : Nat) (b_ : Bool) (A_ : Option Addr) (n_ c_ : Nat) (B_ : Option Addr) (m_ d_ : Nat), u = .pointer (some ⟨g_, 0, none⟩) ∧ ue = .int .i64 0 ∧ LoneR v1 wx g_ b_ A_ n_ c_ B_ m_ d_ (r1_ / x))
  case first =>
    have BB0 : Below v1.heap.size v1 v1.drew := below_drewN (Below.refl _ v1) 1
    have BB1 : Below v1.heap.size v1 (v1.alloc (.cells #[.bool false, .slice none 0 0, .slice none 0 0] 27)).drew := below_drewN (below_one _ _) 1
    go_region_held3 (fun w' => w'.cell? ⟨w.heap.size, 0, none⟩ = some (.bool b) ∧ w'.cell? ⟨w.heap.size, 1, none⟩ = some (.slice A n c) ∧ w'.cell? ⟨w.heap.size, 2, none⟩ = some (.slice B m d) ∧ w'.cell? ⟨w.heap.size + 1, 0, none⟩ = some (.bool false) ∧ w'.cell? ⟨w.heap.size + 1, 1, none⟩ = some (.slice none 0 0) ∧ w'.cell? ⟨w.heap.size + 1, 2, none⟩ = some (.slice none 0 0))
      (first | with_reducible exact ⟨(cK qq ka0 kal), (cK qq ka1 kal), (cK qq ka2 kal), (cK qq g_0 g_l), (cK qq g_1 g_l), (cK qq g_2 g_l)⟩ | with_reducible exact ⟨keep_alloc ((cK qq ka0 kal)), keep_alloc ((cK qq ka1 kal)), keep_alloc ((cK qq ka2 kal)), keep_alloc ((cK qq g_0 g_l)), keep_alloc ((cK qq g_1 g_l)), keep_alloc ((cK qq g_2 g_l))⟩ | with_reducible exact ⟨((cell_putR (by omega)).trans (cK qq ka0 kal)), ((cell_putR (by omega)).trans (cK qq ka1 kal)), ((cell_putR (by omega)).trans (cK qq ka2 kal)), ((cell_putR (by omega)).trans (cK qq g_0 g_l)), ((cell_putR (by omega)).trans (cK qq g_1 g_l)), ((cell_putR (by omega)).trans (cK qq g_2 g_l))⟩ | go_keep)
      (first
        | (go_at_call 46; (with_reducible refine (C1 _).mono ?_); rintro e y1 ⟨be, Ae, ne, ce, Be, me, de, rfl, he, q⟩; have qq := BB0.trans (q.mono BB0.size); have h' := (h.on BB0).on q; have qs1 := qq.size; clear q)
        | (go_at_call 46; (with_reducible refine (C1 _).mono ?_); rintro e y1 ⟨be, Ae, ne, ce, Be, me, de, rfl, he, q⟩; have qq := BB1.trans (q.mono BB1.size); have h' := (h.on BB1).on q; have qs1 := qq.size; obtain ⟨bo_0, fo_0, bo_1, fo_1, bo_2, fo_2, ol⟩ := zb3 (g := v1.heap.size) q (by simp) (by simp [Cs3, go_sem]) (by simp [Fz3, go_sem]); clear q)
        | (go_at_call 86; have up := Below.refl y1.heap.size y1; (with_reducible refine (qdiv_N (he.on up) z1_ (h'.on up) s hx).mono ?_); rintro e y2 ⟨bo, Ao, no, co, Bo, mo, do_, rfl, o, q⟩; replace qq := uK qq up q; replace h' := (h'.on up).on q; replace he := (he.on up).on q; (try (rewrite [cR up ol, cR q (lK up ol)] at bo_0 bo_1 bo_2; rewrite [fR up ol, fR q (lK up ol)] at fo_0 fo_1 fo_2; replace ol := lK q (lK up ol))); have qs2 := qq.size; clear q up)
        | (go_at_call 86; have up := below_one y1 (.cells #[.bool false, .slice none 0 0, .slice none 0 0] 27); (with_reducible refine (qdiv_N (he.on up) z1_ (h'.on up) s hx).mono ?_); rintro e y2 ⟨bo, Ao, no, co, Bo, mo, do_, rfl, o, q⟩; replace qq := uK qq up q; replace h' := (h'.on up).on q; replace he := (he.on up).on q; (try (rewrite [cR up ol, cR q (lK up ol)] at bo_0 bo_1 bo_2; rewrite [fR up ol, fR q (lK up ol)] at fo_0 fo_1 fo_2; replace ol := lK q (lK up ol))); have qs2 := qq.size; obtain ⟨bo_0, fo_0, bo_1, fo_1, bo_2, fo_2, ol⟩ := zb3 (g := y1.heap.size) q (by simp) (by simp [Cs3, go_sem]) (by simp [Fz3, go_sem]); clear q up))
    all_goals (go_wp2_with fail; go_meet)
    all_goals refine ⟨_, bo, Ao, no, co, Bo, mo, do_, rfl, rfl, ?_⟩
    all_goals first
      | with_reducible exact loneRA o qq _
      | with_reducible exact loneRB bo_0 bo_1 bo_2 o qq (by omega)
  case rest =>
    obtain ⟨gua, bua, Aua, nua, cua, Bua, mua, dua, rfl, rfl, ⟨ua0, ua1, ua2⟩, hua, b, uage⟩ := hcut
    have ual := cell_lt ua0
    simp only at ual
    have uaqka : w.heap.size < gua := Nat.lt_of_lt_of_le kal uage
    have uaqg_ : w.heap.size + 1 < gua := Nat.lt_of_lt_of_le g_l uage
    rewrite [fR b g_l] at f0 f1 f2
    replace h := h.on b
    rewrite [cR b kal] at ka0 ka1 ka2
    replace kal := lK b kal
    rewrite [cR b g_l] at g_0 g_1 g_2
    replace g_l := lK b g_l
    replace cc := bK cc b
    clear b
    have hn : Rt wc bua Aua nua cua Bua mua dua (r1_ / x) := hua
    have eb : BoxR wc (w.heap.size + 1) false none 0 0 none 0 0 := ⟨g_0, g_1, g_2⟩
    have HZ : Hid (Rt (putR wc (w.heap.size + 1) (.bool bua) (.slice Aua nua cua) (.slice Bua mua dua)) bua Aua nua cua Bua mua dua (r1_ / x)) := Lib.hid (Rt.putR hn eb _ _ _)
    clear hn
    go_wp2_with fail
    refine bodyPost_ret (v := .agg #[.bool bua, .slice Aua nua cua, .slice Bua mua dua]) (by simp [results, Tryz.results47, go_sem, g_0, g_1, g_2]) rfl ⟨_, _, _, _, _, _, _, rfl, HZ.out, below_putR cc (by omega) _ _ _⟩

theorem idiv_no {w : World} {b0 p0 : Bool} {A0 B0 V0 U0 : Option Addr} {n0 c0 m0 d0 r0 k0 o0 q0 : Nat} {b1 p1 : Bool} {A1 B1 V1 U1 : Option Addr} {n1 c1 m1 d1 r1 k1 o1 q1 : Nat} {x0 y0 : Rat} (h0 : Rt w b0 A0 n0 c0 B0 m0 d0 x0) (g0 : Rt w p0 V0 r0 k0 U0 o0 q0 y0) (s0 : Sz x0 10) (t0 : Sz y0 10) {x1 y1 : Rat} (h1 : Rt w b1 A1 n1 c1 B1 m1 d1 x1) (g1 : Rt w p1 V1 r1 k1 U1 o1 q1 y1) (s1 : Sz x1 10) (t1 : Sz y1 10) (hz : decide (x1 ≤ ((0 : Int) : Rat) ∧ ((0 : Int) : Rat) ≤ y1) = true) :
    Calls Tryz.prog 22 #[.agg #[.bool b0, .slice A0 n0 c0, .slice B0 m0 d0, .bool p0, .slice V0 r0 k0, .slice U0 o0 q0], .agg #[.bool b1, .slice A1 n1 c1, .slice B1 m1 d1, .bool p1, .slice V1 r1 k1, .slice U1 o1 q1]] w (GotV w (.tuple #[.agg #[.bool false, .slice none 0 0, .slice none 0 0, .bool false, .slice none 0 0, .slice none 0 0], .int .i64 4])) := by
  obtain ⟨r0_, q0_⟩ : ∃ r, ((0 : Int) : Rat) = r := ⟨_, rfl⟩
  have C0 : ∀ W : World, Calls Tryz.prog 46 #[.int .i64 0] W (GotRt W r0_) := fun W => by rw [← q0_]; exact qof_N W 0 (by unfold I64; omega)
  have z0_ : Sz r0_ 30 := by rw [← q0_]; exact (sz_of (len_one (by decide))).le (by omega)
  rw [q0_] at hz
  have HZ0 := Lib.hid hz
  clear q0_ hz
  have cc := Below.refl w.heap.size w
  go_enter Tryz.func22, Tryz.ntmps22
  go_wp2_with fail
  generalize hv_ : ((w.alloc (.cells #[.bool b0, .slice A0 n0 c0, .slice B0 m0 d0, .bool p0, .slice V0 r0 k0, .slice U0 o0 q0] 29)).alloc (.cells #[.bool b1, .slice A1 n1 c1, .slice B1 m1 d1, .bool p1, .slice V1 r1 k1, .slice U1 o1 q1] 29)).alloc (.cells #[.bool false, .slice none 0 0, .slice none 0 0, .bool false, .slice none 0 0, .slice none 0 0] 29) = v1
  obtain ⟨f0, f1, f2, f3, f4, f5⟩ : Fz6 v1 (w.heap.size + 1 + 1) := by simp [Fz6, ← hv_, go_sem]
  have bA : Below w.heap.size w v1 := by rw [← hv_]; exact ((((Below.refl _ w).alloc (by simp) _).alloc (by simp) _).alloc (by simp <;> omega) _)
  replace h0 := h0.on bA
  replace g0 := g0.on bA
  replace h1 := h1.on bA
  replace g1 := g1.on bA
  replace cc := bK cc bA
  clear bA
  obtain ⟨ka0, ka1, ka2, ka3, ka4, ka5⟩ : Cs6 v1 w.heap.size (.bool b0) (.slice A0 n0 c0) (.slice B0 m0 d0) (.bool p0) (.slice V0 r0 k0) (.slice U0 o0 q0) := by simp [Cs6, ← hv_, go_sem]
  have kal : w.heap.size < v1.heap.size := by simp [← hv_] <;> omega
  obtain ⟨kb0, kb1, kb2, kb3, kb4, kb5⟩ : Cs6 v1 (w.heap.size + 1) (.bool b1) (.slice A1 n1 c1) (.slice B1 m1 d1) (.bool p1) (.slice V1 r1 k1) (.slice U1 o1 q1) := by simp [Cs6, ← hv_, go_sem]
  have kbl : w.heap.size + 1 < v1.heap.size := by simp [← hv_] <;> omega
  obtain ⟨g_0, g_1, g_2, g_3, g_4, g_5⟩ : Cs6 v1 (w.heap.size + 1 + 1) (.bool false) (.slice none 0 0) (.slice none 0 0) (.bool false) (.slice none 0 0) (.slice none 0 0) := by simp [Cs6, ← hv_, go_sem]
  have g_l : w.heap.size + 1 + 1 < v1.heap.size := by simp [← hv_] <;> omega
  clear hv_
  have bD : Below v1.heap.size v1 v1.drew := below_drewN (Below.refl _ v1) 1
  rewrite [fR bD g_l] at f0 f1 f2 f3 f4 f5
  replace h0 := h0.on bD
  replace g0 := g0.on bD
  replace h1 := h1.on bD
  replace g1 := g1.on bD
  rewrite [cR bD kal] at ka0 ka1 ka2 ka3 ka4 ka5
  replace kal := lK bD kal
  rewrite [cR bD kbl] at kb0 kb1 kb2 kb3 kb4 kb5
  replace kbl := lK bD kbl
  rewrite [cR bD g_l] at g_0 g_1 g_2 g_3 g_4 g_5
  replace g_l := lK bD g_l
  replace cc := bK cc bD
  clear bD
  refine wp_region_held_drew (S := fun w' => w'.cell? ⟨w.heap.size, 0, none⟩ = some (.bool b0) ∧ w'.cell? ⟨w.heap.size, 1, none⟩ = some (.slice A0 n0 c0) ∧ w'.cell? ⟨w.heap.size, 2, none⟩ = some (.slice B0 m0 d0) ∧ w'.cell? ⟨w.heap.size, 3, none⟩ = some (.bool p0) ∧ w'.cell? ⟨w.heap.size, 4, none⟩ = some (.slice V0 r0 k0) ∧ w'.cell? ⟨w.heap.size, 5, none⟩ = some (.slice U0 o0 q0) ∧ w'.cell? ⟨w.heap.size + 1, 0, none⟩ = some (.bool b1) ∧ w'.cell? ⟨w.heap.size + 1, 1, none⟩ = some (.slice A1 n1 c1) ∧ w'.cell? ⟨w.heap.size + 1, 2, none⟩ = some (.slice B1 m1 d1) ∧ w'.cell? ⟨w.heap.size + 1, 3, none⟩ = some (.bool p1) ∧ w'.cell? ⟨w.heap.size + 1, 4, none⟩ = some (.slice V1 r1 k1) ∧ w'.cell? ⟨w.heap.size + 1, 5, none⟩ = some (.slice U1 o1 q1)) (by kernel_rfl) ?_ (fun hHeld => ?_)
  · exact ⟨ka0, ka1, ka2, ka3, ka4, ka5, kb0, kb1, kb2, kb3, kb4, kb5⟩
  refine wpAnyH_take (i := 0) (v := ?_) rfl (by kernel_rfl) (by kernel_rfl) (by kernel_rfl) (fun _ _ _ h => h) (Or.inl ⟨by rfl, ?_⟩) hHeld ?_
  rotate_left
  · (intro w hSw; (try dsimp only at hSw); go_simp; (try with_reducible rfl))
  try simp only [Act.put, pT]
  refine wpAnyH_ready (rs := [1]) (by kernel_rfl) (by simp) ?_
  refine AllReadyH.cons rfl (fun K hK => ?_) AllReadyH.nil
  (try simp only [pT])
  rw [if_pos (by rfl)]
  go_simp
  go_at_call 46
  refine (C0 _).mono ?_
  rintro e w2 ⟨bz, Az, nz, cz, Bz, mz, dz, rfl, hz, b⟩
  rewrite [fR b g_l] at f0 f1 f2 f3 f4 f5
  replace h0 := h0.on b
  replace g0 := g0.on b
  replace h1 := h1.on b
  replace g1 := g1.on b
  rewrite [cR b kal] at ka0 ka1 ka2 ka3 ka4 ka5
  replace kal := lK b kal
  rewrite [cR b kbl] at kb0 kb1 kb2 kb3 kb4 kb5
  replace kbl := lK b kbl
  rewrite [cR b g_l] at g_0 g_1 g_2 g_3 g_4 g_5
  replace g_l := lK b g_l
  replace cc := bK cc b
  clear b
  refine hK.out _ _ ?_ (fun hHeld => ?_)
  · exact ⟨ka0, ka1, ka2, ka3, ka4, ka5, kb0, kb1, kb2, kb3, kb4, kb5⟩
  clear hK K
  try simp only [Act.put, pT]
  refine wpAnyH_ready (rs := [2]) (by kernel_rfl) (by simp) ?_
  refine AllReadyH.cons rfl (fun K hK => ?_) AllReadyH.nil
  (try simp only [pT])
  rw [if_pos (by rfl)]
  go_simp
  go_at_call 18
  refine (ihas_N h1 g1 (s1.le (by omega)) (t1.le (by omega)) hz (z0_.le (by omega)) true HZ0.out).mono ?_
  rintro e w3 ⟨rfl, b⟩
  rewrite [fR b g_l] at f0 f1 f2 f3 f4 f5
  replace h0 := h0.on b
  replace g0 := g0.on b
  replace h1 := h1.on b
  replace g1 := g1.on b
  replace hz := hz.on b
  rewrite [cR b kal] at ka0 ka1 ka2 ka3 ka4 ka5
  replace kal := lK b kal
  rewrite [cR b kbl] at kb0 kb1 kb2 kb3 kb4 kb5
  replace kbl := lK b kbl
  rewrite [cR b g_l] at g_0 g_1 g_2 g_3 g_4 g_5
  replace g_l := lK b g_l
  replace cc := bK cc b
  clear b
  refine hK.out _ _ ?_ (fun hHeld => ?_)
  · exact ⟨ka0, ka1, ka2, ka3, ka4, ka5, kb0, kb1, kb2, kb3, kb4, kb5⟩
  clear hK K
  try simp only [Act.put, pT]
  refine wpAnyH_done (by kernel_rfl) ?_ _
  clear hHeld
  go_wp2_with fail
  exact bodyPost_ret (v := .tuple #[.agg #[.bool false, .slice none 0 0, .slice none 0 0, .bool false, .slice none 0 0, .slice none 0 0], .int .i64 4]) (by simp [results, Tryz.results22, go_sem, g_0, g_1, g_2, g_3, g_4, g_5]) rfl ⟨rfl, below_putS cc (by omega) _ _ _ _ _ _⟩

theorem idiv_N {w : World} {b0 p0 : Bool} {A0 B0 V0 U0 : Option Addr} {n0 c0 m0 d0 r0 k0 o0 q0 : Nat} {b1 p1 : Bool} {A1 B1 V1 U1 : Option Addr} {n1 c1 m1 d1 r1 k1 o1 q1 : Nat} {x0 y0 : Rat} (h0 : Rt w b0 A0 n0 c0 B0 m0 d0 x0) (g0 : Rt w p0 V0 r0 k0 U0 o0 q0 y0) (s0 : Sz x0 10) (t0 : Sz y0 10) {x1 y1 : Rat} (h1 : Rt w b1 A1 n1 c1 B1 m1 d1 x1) (g1 : Rt w p1 V1 r1 k1 U1 o1 q1 y1) (s1 : Sz x1 10) (t1 : Sz y1 10) (hx : x1.num ≠ 0) (hy : y1.num ≠ 0) (hz : decide (x1 ≤ ((0 : Int) : Rat) ∧ ((0 : Int) : Rat) ≤ y1) = false) :
    Calls Tryz.prog 22 #[.agg #[.bool b0, .slice A0 n0 c0, .slice B0 m0 d0, .bool p0, .slice V0 r0 k0, .slice U0 o0 q0], .agg #[.bool b1, .slice A1 n1 c1, .slice B1 m1 d1, .bool p1, .slice V1 r1 k1, .slice U1 o1 q1]] w (GotSp w (mlo x0 y0 (((1 : Int) : Rat) / y1) (((1 : Int) : Rat) / x1)) (mhi x0 y0 (((1 : Int) : Rat) / y1) (((1 : Int) : Rat) / x1)) 0) := by
  obtain ⟨r0_, q0_⟩ : ∃ r, ((0 : Int) : Rat) = r := ⟨_, rfl⟩
  have C0 : ∀ W : World, Calls Tryz.prog 46 #[.int .i64 0] W (GotRt W r0_) := fun W => by rw [← q0_]; exact qof_N W 0 (by unfold I64; omega)
  have z0_ : Sz r0_ 30 := by rw [← q0_]; exact (sz_of (len_one (by decide))).le (by omega)
  rw [q0_] at hz
  have HZ0 := Lib.hid hz
  clear q0_ hz
  have one : Sz ((1 : Int) : Rat) 1 := sz_of (len_one (by decide))
  have sv := one.div t1 hy
  have sw := one.div s1 hx
  obtain ⟨v1_, e1_⟩ : ∃ r, ((1 : Int) : Rat) / y1 = r := ⟨_, rfl⟩
  obtain ⟨v2_, e2_⟩ : ∃ r, ((1 : Int) : Rat) / x1 = r := ⟨_, rfl⟩
  rw [e1_] at sv ⊢
  rw [e2_] at sw ⊢
  have T1 : ∀ {W : World} {b : Bool} {A B : Option Addr} {n c m d : Nat}, Rt W b A n c B m d y1 → Calls Tryz.prog 47 #[.agg #[.bool b, .slice A n c, .slice B m d]] W (GotRt W v1_) := fun h => by rw [← e1_]; exact iturned_N h (t1.le (by omega)) hy
  have T2 : ∀ {W : World} {b : Bool} {A B : Option Addr} {n c m d : Nat}, Rt W b A n c B m d x1 → Calls Tryz.prog 47 #[.agg #[.bool b, .slice A n c, .slice B m d]] W (GotRt W v2_) := fun h => by rw [← e2_]; exact iturned_N h (s1.le (by omega)) hx
  clear e1_ e2_ one hx hy
  have cc := Below.refl w.heap.size w
  go_enter Tryz.func22, Tryz.ntmps22
  go_wp2_with fail
  generalize hv_ : ((w.alloc (.cells #[.bool b0, .slice A0 n0 c0, .slice B0 m0 d0, .bool p0, .slice V0 r0 k0, .slice U0 o0 q0] 29)).alloc (.cells #[.bool b1, .slice A1 n1 c1, .slice B1 m1 d1, .bool p1, .slice V1 r1 k1, .slice U1 o1 q1] 29)).alloc (.cells #[.bool false, .slice none 0 0, .slice none 0 0, .bool false, .slice none 0 0, .slice none 0 0] 29) = v1
  obtain ⟨f0, f1, f2, f3, f4, f5⟩ : Fz6 v1 (w.heap.size + 1 + 1) := by simp [Fz6, ← hv_, go_sem]
  have bA : Below w.heap.size w v1 := by rw [← hv_]; exact ((((Below.refl _ w).alloc (by simp) _).alloc (by simp) _).alloc (by simp <;> omega) _)
  replace h0 := h0.on bA
  replace g0 := g0.on bA
  replace h1 := h1.on bA
  replace g1 := g1.on bA
  replace cc := bK cc bA
  clear bA
  obtain ⟨ka0, ka1, ka2, ka3, ka4, ka5⟩ : Cs6 v1 w.heap.size (.bool b0) (.slice A0 n0 c0) (.slice B0 m0 d0) (.bool p0) (.slice V0 r0 k0) (.slice U0 o0 q0) := by simp [Cs6, ← hv_, go_sem]
  have kal : w.heap.size < v1.heap.size := by simp [← hv_] <;> omega
  obtain ⟨kb0, kb1, kb2, kb3, kb4, kb5⟩ : Cs6 v1 (w.heap.size + 1) (.bool b1) (.slice A1 n1 c1) (.slice B1 m1 d1) (.bool p1) (.slice V1 r1 k1) (.slice U1 o1 q1) := by simp [Cs6, ← hv_, go_sem]
  have kbl : w.heap.size + 1 < v1.heap.size := by simp [← hv_] <;> omega
  obtain ⟨g_0, g_1, g_2, g_3, g_4, g_5⟩ : Cs6 v1 (w.heap.size + 1 + 1) (.bool false) (.slice none 0 0) (.slice none 0 0) (.bool false) (.slice none 0 0) (.slice none 0 0) := by simp [Cs6, ← hv_, go_sem]
  have g_l : w.heap.size + 1 + 1 < v1.heap.size := by simp [← hv_] <;> omega
  clear hv_
  have bD : Below v1.heap.size v1 v1.drew := below_drewN (Below.refl _ v1) 1
  rewrite [fR bD g_l] at f0 f1 f2 f3 f4 f5
  replace h0 := h0.on bD
  replace g0 := g0.on bD
  replace h1 := h1.on bD
  replace g1 := g1.on bD
  rewrite [cR bD kal] at ka0 ka1 ka2 ka3 ka4 ka5
  replace kal := lK bD kal
  rewrite [cR bD kbl] at kb0 kb1 kb2 kb3 kb4 kb5
  replace kbl := lK bD kbl
  rewrite [cR bD g_l] at g_0 g_1 g_2 g_3 g_4 g_5
  replace g_l := lK bD g_l
  replace cc := bK cc bD
  clear bD
  refine wp_region_held_drew (S := fun w' => w'.cell? ⟨w.heap.size, 0, none⟩ = some (.bool b0) ∧ w'.cell? ⟨w.heap.size, 1, none⟩ = some (.slice A0 n0 c0) ∧ w'.cell? ⟨w.heap.size, 2, none⟩ = some (.slice B0 m0 d0) ∧ w'.cell? ⟨w.heap.size, 3, none⟩ = some (.bool p0) ∧ w'.cell? ⟨w.heap.size, 4, none⟩ = some (.slice V0 r0 k0) ∧ w'.cell? ⟨w.heap.size, 5, none⟩ = some (.slice U0 o0 q0) ∧ w'.cell? ⟨w.heap.size + 1, 0, none⟩ = some (.bool b1) ∧ w'.cell? ⟨w.heap.size + 1, 1, none⟩ = some (.slice A1 n1 c1) ∧ w'.cell? ⟨w.heap.size + 1, 2, none⟩ = some (.slice B1 m1 d1) ∧ w'.cell? ⟨w.heap.size + 1, 3, none⟩ = some (.bool p1) ∧ w'.cell? ⟨w.heap.size + 1, 4, none⟩ = some (.slice V1 r1 k1) ∧ w'.cell? ⟨w.heap.size + 1, 5, none⟩ = some (.slice U1 o1 q1)) (by kernel_rfl) ?_ (fun hHeld => ?_)
  · exact ⟨ka0, ka1, ka2, ka3, ka4, ka5, kb0, kb1, kb2, kb3, kb4, kb5⟩
  refine wpAnyH_take (i := 0) (v := ?_) rfl (by kernel_rfl) (by kernel_rfl) (by kernel_rfl) (fun _ _ _ h => h) (Or.inl ⟨by rfl, ?_⟩) hHeld ?_
  rotate_left
  · (intro w hSw; (try dsimp only at hSw); go_simp; (try with_reducible rfl))
  try simp only [Act.put, pT]
  refine wpAnyH_ready (rs := [1]) (by kernel_rfl) (by simp) ?_
  refine AllReadyH.cons rfl (fun K hK => ?_) AllReadyH.nil
  (try simp only [pT])
  rw [if_pos (by rfl)]
  go_simp
  go_at_call 46
  refine (C0 _).mono ?_
  rintro e w2 ⟨bz, Az, nz, cz, Bz, mz, dz, rfl, hz, b⟩
  rewrite [fR b g_l] at f0 f1 f2 f3 f4 f5
  replace h0 := h0.on b
  replace g0 := g0.on b
  replace h1 := h1.on b
  replace g1 := g1.on b
  rewrite [cR b kal] at ka0 ka1 ka2 ka3 ka4 ka5
  replace kal := lK b kal
  rewrite [cR b kbl] at kb0 kb1 kb2 kb3 kb4 kb5
  replace kbl := lK b kbl
  rewrite [cR b g_l] at g_0 g_1 g_2 g_3 g_4 g_5
  replace g_l := lK b g_l
  replace cc := bK cc b
  clear b
  refine hK.out _ _ ?_ (fun hHeld => ?_)
  · exact ⟨ka0, ka1, ka2, ka3, ka4, ka5, kb0, kb1, kb2, kb3, kb4, kb5⟩
  clear hK K
  try simp only [Act.put, pT]
  refine wpAnyH_ready (rs := [2]) (by kernel_rfl) (by simp) ?_
  refine AllReadyH.cons rfl (fun K hK => ?_) AllReadyH.nil
  (try simp only [pT])
  rw [if_pos (by rfl)]
  go_simp
  go_at_call 18
  refine (ihas_N h1 g1 (s1.le (by omega)) (t1.le (by omega)) hz (z0_.le (by omega)) false HZ0.out).mono ?_
  rintro e w3 ⟨rfl, b⟩
  rewrite [fR b g_l] at f0 f1 f2 f3 f4 f5
  replace h0 := h0.on b
  replace g0 := g0.on b
  replace h1 := h1.on b
  replace g1 := g1.on b
  replace hz := hz.on b
  rewrite [cR b kal] at ka0 ka1 ka2 ka3 ka4 ka5
  replace kal := lK b kal
  rewrite [cR b kbl] at kb0 kb1 kb2 kb3 kb4 kb5
  replace kbl := lK b kbl
  rewrite [cR b g_l] at g_0 g_1 g_2 g_3 g_4 g_5
  replace g_l := lK b g_l
  replace cc := bK cc b
  clear b
  refine hK.out _ _ ?_ (fun hHeld => ?_)
  · exact ⟨ka0, ka1, ka2, ka3, ka4, ka5, kb0, kb1, kb2, kb3, kb4, kb5⟩
  clear hK K
  try simp only [Act.put, pT]
  refine wpAnyH_done (by kernel_rfl) ?_ _
  clear hHeld
  clear hz
  go_wp2_with fail
  have bD : Below w3.heap.size w3 w3.drew := below_drewN (Below.refl _ w3) 1
  rewrite [fR bD g_l] at f0 f1 f2 f3 f4 f5
  replace h0 := h0.on bD
  replace g0 := g0.on bD
  replace h1 := h1.on bD
  replace g1 := g1.on bD
  rewrite [cR bD kal] at ka0 ka1 ka2 ka3 ka4 ka5
  replace kal := lK bD kal
  rewrite [cR bD kbl] at kb0 kb1 kb2 kb3 kb4 kb5
  replace kbl := lK bD kbl
  rewrite [cR bD g_l] at g_0 g_1 g_2 g_3 g_4 g_5
  replace g_l := lK bD g_l
  replace cc := bK cc bD
  clear bD
  refine wp_region_held_drew (S := fun w' => w'.cell? ⟨w.heap.size, 0, none⟩ = some (.bool b0) ∧ w'.cell? ⟨w.heap.size, 1, none⟩ = some (.slice A0 n0 c0) ∧ w'.cell? ⟨w.heap.size, 2, none⟩ = some (.slice B0 m0 d0) ∧ w'.cell? ⟨w.heap.size, 3, none⟩ = some (.bool p0) ∧ w'.cell? ⟨w.heap.size, 4, none⟩ = some (.slice V0 r0 k0) ∧ w'.cell? ⟨w.heap.size, 5, none⟩ = some (.slice U0 o0 q0) ∧ w'.cell? ⟨w.heap.size + 1, 0, none⟩ = some (.bool b1) ∧ w'.cell? ⟨w.heap.size + 1, 1, none⟩ = some (.slice A1 n1 c1) ∧ w'.cell? ⟨w.heap.size + 1, 2, none⟩ = some (.slice B1 m1 d1) ∧ w'.cell? ⟨w.heap.size + 1, 3, none⟩ = some (.bool p1) ∧ w'.cell? ⟨w.heap.size + 1, 4, none⟩ = some (.slice V1 r1 k1) ∧ w'.cell? ⟨w.heap.size + 1, 5, none⟩ = some (.slice U1 o1 q1)) (by kernel_rfl) ?_ (fun hHeld => ?_)
  · exact ⟨ka0, ka1, ka2, ka3, ka4, ka5, kb0, kb1, kb2, kb3, kb4, kb5⟩
  refine wpAnyH_take (i := 0) (v := ?_) rfl (by kernel_rfl) (by kernel_rfl) (by kernel_rfl) (fun _ _ _ h => h) (Or.inl ⟨by rfl, ?_⟩) hHeld ?_
  rotate_left
  · (intro w hSw; (try dsimp only at hSw); go_simp; (try with_reducible rfl))
  try simp only [Act.put, pT]
  refine wpAnyH_take (i := 1) (v := ?_) rfl (by kernel_rfl) (by kernel_rfl) (by kernel_rfl) (fun _ _ _ h => h) (Or.inl ⟨by rfl, ?_⟩) hHeld ?_
  rotate_left
  · (intro w hSw; (try dsimp only at hSw); go_simp; (try with_reducible rfl))
  try simp only [Act.put, pT]
  refine wpAnyH_take (i := 2) (v := ?_) rfl (by kernel_rfl) (by kernel_rfl) (by kernel_rfl) (fun _ _ _ h => h) (Or.inl ⟨by rfl, ?_⟩) hHeld ?_
  rotate_left
  · (intro w hSw; (try dsimp only at hSw); go_simp; (try with_reducible rfl))
  try simp only [Act.put, pT]
  refine wpAnyH_take (i := 4) (v := ?_) rfl (by kernel_rfl) (by kernel_rfl) (by kernel_rfl) (fun _ _ _ h => h) (Or.inl ⟨by rfl, ?_⟩) hHeld ?_
  rotate_left
  · (intro w hSw; (try dsimp only at hSw); go_simp; (try with_reducible rfl))
  try simp only [Act.put, pT]
  refine wpAnyH_take (i := 5) (v := ?_) rfl (by kernel_rfl) (by kernel_rfl) (by kernel_rfl) (fun _ _ _ h => h) (Or.inl ⟨by rfl, ?_⟩) hHeld ?_
  rotate_left
  · (intro w hSw; (try dsimp only at hSw); go_simp; (try with_reducible rfl))
  try simp only [Act.put, pT]
  refine wpAnyH_ready (rs := [3]) (by kernel_rfl) (by simp) ?_
  refine AllReadyH.cons rfl (fun K hK => ?_) AllReadyH.nil
  (try simp only [pT])
  rw [if_pos (by rfl)]
  go_simp
  go_at_call 47
  refine (T1 g1).mono ?_
  rintro e w4 ⟨be, Ae, ne, ce, Be, me, de, rfl, he, b⟩
  rewrite [fR b g_l] at f0 f1 f2 f3 f4 f5
  replace h0 := h0.on b
  replace g0 := g0.on b
  replace h1 := h1.on b
  replace g1 := g1.on b
  rewrite [cR b kal] at ka0 ka1 ka2 ka3 ka4 ka5
  replace kal := lK b kal
  rewrite [cR b kbl] at kb0 kb1 kb2 kb3 kb4 kb5
  replace kbl := lK b kbl
  rewrite [cR b g_l] at g_0 g_1 g_2 g_3 g_4 g_5
  replace g_l := lK b g_l
  replace cc := bK cc b
  clear b
  refine hK.out _ _ ?_ (fun hHeld => ?_)
  · exact ⟨ka0, ka1, ka2, ka3, ka4, ka5, kb0, kb1, kb2, kb3, kb4, kb5⟩
  clear hK K
  try simp only [Act.put, pT]
  refine wpAnyH_ready (rs := [6]) (by kernel_rfl) (by simp) ?_
  refine AllReadyH.cons rfl (fun K hK => ?_) AllReadyH.nil
  (try simp only [pT])
  rw [if_pos (by rfl)]
  go_simp
  go_at_call 47
  refine (T2 h1).mono ?_
  rintro e w5 ⟨bf, Af, nf, cf, Bf, mf, df, rfl, hf, b⟩
  rewrite [fR b g_l] at f0 f1 f2 f3 f4 f5
  replace h0 := h0.on b
  replace g0 := g0.on b
  replace h1 := h1.on b
  replace g1 := g1.on b
  replace he := he.on b
  rewrite [cR b kal] at ka0 ka1 ka2 ka3 ka4 ka5
  replace kal := lK b kal
  rewrite [cR b kbl] at kb0 kb1 kb2 kb3 kb4 kb5
  replace kbl := lK b kbl
  rewrite [cR b g_l] at g_0 g_1 g_2 g_3 g_4 g_5
  replace g_l := lK b g_l
  replace cc := bK cc b
  clear b
  refine hK.out _ _ ?_ (fun hHeld => ?_)
  · exact ⟨ka0, ka1, ka2, ka3, ka4, ka5, kb0, kb1, kb2, kb3, kb4, kb5⟩
  clear hK K
  try simp only [Act.put, pT]
  refine wpAnyH_take (i := 7) (v := ?_) rfl (by kernel_rfl) (by kernel_rfl) (by kernel_rfl) (fun _ _ _ h => h) (Or.inl ⟨by rfl, ?_⟩) hHeld ?_
  rotate_left
  · (intro w hSw; (try dsimp only at hSw); go_simp; (try with_reducible rfl))
  try simp only [Act.put, pT]
  refine wpAnyH_ready (rs := [8]) (by kernel_rfl) (by simp) ?_
  refine AllReadyH.cons rfl (fun K hK => ?_) AllReadyH.nil
  (try simp only [pT])
  rw [if_pos (by rfl)]
  go_simp
  go_at_call 26
  refine (imul_N h0 g0 (s0.le (by omega)) (t0.le (by omega)) he hf (sv.le (by omega)) (sw.le (by omega))).mono ?_
  rintro e w6 ⟨bz, Az, nz, cz, Bz, mz, dz, pz, Vz, rz, kz, Uz, oz, qz, rfl, ⟨hz, gz⟩, b⟩
  rewrite [fR b g_l] at f0 f1 f2 f3 f4 f5
  replace h0 := h0.on b
  replace g0 := g0.on b
  replace h1 := h1.on b
  replace g1 := g1.on b
  replace he := he.on b
  replace hf := hf.on b
  rewrite [cR b kal] at ka0 ka1 ka2 ka3 ka4 ka5
  replace kal := lK b kal
  rewrite [cR b kbl] at kb0 kb1 kb2 kb3 kb4 kb5
  replace kbl := lK b kbl
  rewrite [cR b g_l] at g_0 g_1 g_2 g_3 g_4 g_5
  replace g_l := lK b g_l
  replace cc := bK cc b
  clear b
  refine hK.out _ _ ?_ (fun hHeld => ?_)
  · exact ⟨ka0, ka1, ka2, ka3, ka4, ka5, kb0, kb1, kb2, kb3, kb4, kb5⟩
  clear hK K
  try simp only [Act.put, pT]
  refine wpAnyH_ready (rs := [9]) (by kernel_rfl) (by simp) ?_
  refine AllReadyH.cons rfl (fun K hK => ?_) AllReadyH.nil
  (try simp only [pT])
  rw [if_pos (by rfl)]
  go_simp
  refine hK.out _ _ ?_ (fun hHeld => ?_)
  · exact ⟨(cell_putS (by omega)).trans ka0, (cell_putS (by omega)).trans ka1, (cell_putS (by omega)).trans ka2, (cell_putS (by omega)).trans ka3, (cell_putS (by omega)).trans ka4, (cell_putS (by omega)).trans ka5, (cell_putS (by omega)).trans kb0, (cell_putS (by omega)).trans kb1, (cell_putS (by omega)).trans kb2, (cell_putS (by omega)).trans kb3, (cell_putS (by omega)).trans kb4, (cell_putS (by omega)).trans kb5⟩
  clear hK K
  try simp only [Act.put, pT]
  refine wpAnyH_take (i := 10) (v := ?_) rfl (by kernel_rfl) (by kernel_rfl) (by kernel_rfl) (fun _ _ _ h => h) (Or.inl ⟨by rfl, ?_⟩) hHeld ?_
  rotate_left
  · (intro w hSw; (try dsimp only at hSw); go_simp; (try with_reducible rfl))
  try simp only [Act.put, pT]
  refine wpAnyH_done (by kernel_rfl) ?_ _
  clear hHeld
  have hb_ : Held w6 (w.heap.size + 1 + 1) := held6 g_0 g_1 g_2 g_3 g_4 g_5
  have HL : Hid (Rt (putS w6 (w.heap.size + 1 + 1) (.bool bz) (.slice Az nz cz) (.slice Bz mz dz) (.bool pz) (.slice Vz rz kz) (.slice Uz oz qz)) bz Az nz cz Bz mz dz (mlo x0 y0 v1_ v2_)) := Lib.hid (Rt.putS hz hb_ _ _)
  have HH : Hid (Rt (putS w6 (w.heap.size + 1 + 1) (.bool bz) (.slice Az nz cz) (.slice Bz mz dz) (.bool pz) (.slice Vz rz kz) (.slice Uz oz qz)) pz Vz rz kz Uz oz qz (mhi x0 y0 v1_ v2_)) := Lib.hid (Rt.putS gz hb_ _ _)
  go_wp2_with fail
  refine bodyPost_ret (v := .tuple #[.agg #[.bool bz, .slice Az nz cz, .slice Bz mz dz, .bool pz, .slice Vz rz kz, .slice Uz oz qz], .int .i64 0]) (by simp [results, Tryz.results22, go_sem, g_0, g_1, g_2, g_3, g_4, g_5]) rfl ⟨_, _, _, _, _, _, _, _, _, _, _, _, _, _, rfl, ⟨HL.out, HH.out⟩, below_putS cc (by omega) _ _ _ _ _ _⟩

end Go.Proofs.YtanpklbconflmaaGreat

/-
  Plain arithmetic: Newton's guesses of a root go down to it, and stay no less than it.
-/
namespace Go.Proofs.YtanpklbconflmaaGreat

theorem twice_le (r x : Nat) : 2 * (r * x) ≤ r * r + x * x := by
  rcases Nat.le_total r x with h | h
  · obtain ⟨d, rfl⟩ := Nat.le.dest h
    simp only [Nat.mul_add, Nat.add_mul, Nat.mul_comm d r]
    have := Nat.zero_le (d * d)
    omega
  · obtain ⟨d, rfl⟩ := Nat.le.dest h
    simp only [Nat.mul_add, Nat.add_mul, Nat.mul_comm d x]
    have := Nat.zero_le (d * d)
    omega

/-- The mean of j times x and once r to the power of j + 1 by x to the power of j is no less than r. -/
theorem means (r x j : Nat) : (j + 1) * (r * x ^ j) ≤ r ^ (j + 1) + j * (x * x ^ j) := by
  induction j with
  | zero => simp
  | succ j ih =>
    have h1 := Nat.mul_le_mul_left ((j + 1) * x ^ j) (twice_le r x)
    have h2 := Nat.mul_le_mul_left r ih
    rw [Nat.pow_succ r (j + 1), Nat.pow_succ x j]
    generalize x ^ j = X at *
    generalize r ^ (j + 1) = R at *
    have e1 : (j + 1) * X * (2 * (r * x)) = 2 * (j * (r * x * X)) + 2 * (r * x * X) := by
      rw [show (j + 1) * X * (2 * (r * x)) = 2 * ((j + 1) * (r * x * X)) by ac_rfl, Nat.add_mul, Nat.one_mul, Nat.mul_add]
    have e2 : (j + 1) * X * (r * r + x * x) = (j + 1) * (r * r * X) + (j + 1) * (x * x * X) := by
      rw [Nat.mul_add]; congr 1 <;> ac_rfl
    have e3 : r * ((j + 1) * (r * X)) = (j + 1) * (r * r * X) := by ac_rfl
    have e4 : r * (R + j * (x * X)) = R * r + j * (r * x * X) := by
      rw [Nat.mul_add]; congr 1 <;> ac_rfl
    have e5 : (j + 1 + 1) * (r * (X * x)) = j * (r * x * X) + 2 * (r * x * X) := by
      rw [show r * (X * x) = r * x * X by ac_rfl, Nat.add_assoc, Nat.add_mul]
    have e6 : (j + 1) * (x * (X * x)) = (j + 1) * (x * x * X) := by
      congr 1; ac_rfl
    rw [e1, e2] at h1
    rw [e3, e4] at h2
    rw [e5, e6]
    omega

/-- The next guess. -/
def newton (a k x : Nat) : Nat := (x * (k - 1) + a / x ^ (k - 1)) / k

theorem newton_ge {a k r x : Nat} (h1 : 1 ≤ k) (hr : r ^ k ≤ a) (hx : x ≠ 0) : r ≤ newton a k x := by
  obtain ⟨j, rfl⟩ : ∃ j, k = j + 1 := ⟨k - 1, by omega⟩
  unfold newton
  rw [Nat.add_sub_cancel, Nat.le_div_iff_mul_le (by omega)]
  have hX : 0 < x ^ j := Nat.pow_pos (by omega)
  have hq : a < x ^ j * (a / x ^ j + 1) := by
    have h2 := Nat.div_add_mod a (x ^ j)
    have h3 := Nat.mod_lt a hX
    rw [Nat.mul_add, Nat.mul_one]
    omega
  have hm := means r x j
  refine Nat.le_of_lt_succ (Nat.lt_of_mul_lt_mul_right (a := x ^ j) ?_)
  generalize a / x ^ j = q at *
  generalize x ^ j = X at *
  have e1 : r * (j + 1) * X = (j + 1) * (r * X) := by ac_rfl
  have e2 : (x * j + q).succ * X = j * (x * X) + (q + 1) * X := by
    rw [Nat.succ_eq_add_one, Nat.add_assoc, Nat.add_mul]; congr 1; ac_rfl
  rw [e1, e2]
  have e3 : X * (q + 1) = (q + 1) * X := Nat.mul_comm _ _
  omega

theorem newton_lt {a k x : Nat} (h1 : 1 ≤ k) (hx : x ≠ 0) (h : a < x ^ k) : newton a k x < x := by
  obtain ⟨j, rfl⟩ : ∃ j, k = j + 1 := ⟨k - 1, by omega⟩
  unfold newton
  rw [Nat.add_sub_cancel, Nat.div_lt_iff_lt_mul (by omega)]
  have hX : 0 < x ^ j := Nat.pow_pos (by omega)
  have hq : a / x ^ j < x := by
    rw [Nat.div_lt_iff_lt_mul hX, Nat.mul_comm, ← Nat.pow_succ]
    exact h
  rw [Nat.mul_add, Nat.mul_one]
  omega

theorem newton_end {a k x : Nat} (h1 : 1 ≤ k) (hx : x ≠ 0) (h : x ^ k ≤ a) : x ≤ newton a k x := by
  obtain ⟨j, rfl⟩ : ∃ j, k = j + 1 := ⟨k - 1, by omega⟩
  unfold newton
  rw [Nat.add_sub_cancel, Nat.le_div_iff_mul_le (by omega)]
  have hX : 0 < x ^ j := Nat.pow_pos (by omega)
  have hq : x ≤ a / x ^ j := by
    rw [Nat.le_div_iff_mul_le hX, Nat.mul_comm, ← Nat.pow_succ]
    exact h
  rw [Nat.mul_add, Nat.mul_one]
  omega

/-- A power of 2 that is above the root. -/
theorem above_root {a k b : Nat} (h1 : 1 ≤ k) (ha : a < 2 ^ b) : a < (2 ^ ((b + k - 1) / k)) ^ k := by
  refine Nat.lt_of_lt_of_le ha ?_
  rw [← Nat.pow_mul]
  refine Nat.pow_le_pow_right (by omega) ?_
  have h2 := Nat.div_add_mod (b + k - 1) k
  have h3 := Nat.mod_lt (b + k - 1) (show k > 0 by omega)
  rw [Nat.mul_comm] at h2
  omega

theorem above_bits {k b m : Nat} (h1 : 1 ≤ k) (hk : k ≤ 16) (hb : b ≤ m) : (b + k - 1) / k * k ≤ m + 15 := by
  have := Nat.div_mul_le_self (b + k - 1) k
  omega

end Go.Proofs.YtanpklbconflmaaGreat

/-
  The contracts of root's inner functions: isExponent, power, quotient, above.
-/
namespace Go.Proofs.YtanpklbconflmaaGreat
set_option maxRecDepth 100000
set_option maxHeartbeats 4000000
open Go.RowKit

theorem isExp_yes (w : World) (k : Nat) (h1 : 1 ≤ k) (hk : k ≤ 16) : Calls Tryz.prog 97 #[.int .i64 (k : Int)] w fun e w' => e = .returned (.bool true) ∧ w = w' := by
  have d1 : decide (1 ≤ (k : Int)) = true := by simp; omega
  have d2 : decide ((k : Int) ≤ 16) = true := by simp; omega
  go_enter Tryz.func97, Tryz.ntmps97
  go_wp2
  go_ret
  exact ⟨rfl, rfl⟩
theorem tpow_N {w : World} {A : Option Addr} {n c x k : Nat} (ha : Num w A n c x) (hx : (limbs x).length ≤ 1000) (hk : k ≤ 16) : Calls Tryz.prog 99 #[.slice A n c, .int .i64 (k : Int)] w (GotN w (x ^ k)) := by
  go_enter Tryz.func99, Tryz.ntmps99
  go_wp2_with fail
  refine (of_N w 1 B64_gt).mono ?_
  rintro e w1 ⟨A1, n1, c1, rfl, h1, b1⟩
  go_wp2_with fail
  go_loopw [5, 8] (fun ov iv wr => ∃ (j : Nat) (A' : Option Addr) (n' c' : Nat), j ≤ k ∧ iv = .int .i64 (j : Int) ∧ ov = .slice A' n' c' ∧ Num wr A' n' c' (x ^ j) ∧ Below w.heap.size w wr) (fun _ iv _ => k - (intOf iv).toNat)
  case atStart => exact ⟨0, A1, n1, c1, Nat.zero_le _, rfl, rfl, h1, b1⟩
  case round =>
    obtain ⟨j, A', n', c', hj, rfl, rfl, hN, hb⟩ := hrel
    have hl := limbs_length_pow hx j
    have ha' := ha.on hb
    by_cases hlt : j < k
    · have hl2 : (limbs (x ^ j)).length ≤ 1000000 := by omega
      clear hl
      go_wp2_with fail
      refine (mul_N hN ha' (by omega) (by omega)).mono ?_
      rintro e w2 ⟨A2, n2, c2, rfl, h2, b2⟩
      rw [← Nat.pow_succ] at h2
      go_wp2_with fail
      go_roundw
      case rel => exact ⟨j + 1, A2, n2, c2, by omega, by go_num, rfl, h2, hb.trans (b2.mono hb.size)⟩
      case measure => simp [intOf]; omega
    · obtain rfl : j = k := by omega
      clear hl
      go_wp2_with fail
      go_ret
      exact ⟨_, _, _, rfl, hN, hb⟩

theorem quot_N {w : World} {A B : Option Addr} {n c m d x y : Nat} (ha : Num w A n c x) (hb : Num w B m d y) (hx : (limbs x).length ≤ 300) (hy : (limbs y).length ≤ 300) (hy0 : y ≠ 0) : Calls Tryz.prog 130 #[.slice A n c, .slice B m d] w (GotN w (x / y)) := by
  go_enter Tryz.func130, Tryz.ntmps130
  go_wp2_with fail
  refine (ddiv_N ha hb hx hy hy0).mono ?_
  rintro e w1 ⟨A1, n1, c1, B1, m1, d1, rfl, h3, h4, b1⟩
  go_wp2_with fail
  go_ret
  exact ⟨_, _, _, rfl, h3, b1⟩

theorem wrap_one {r : Nat} (hr : r < 64) : IntKind.u64.wrap (2 ^ r) = (pw r : Int) := by
  have h1 := pw_lt hr
  rw [IntKind.wrap_u64]
  have e : ((2 : Int) ^ r) = ((pw r : Nat) : Int) := by unfold pw; simp
  rw [e]
  unfold B64 at h1
  omega

theorem above_N {w : World} {A : Option Addr} {n c x k : Nat} (ha : Num w A n c x) (hx : (limbs x).length ≤ 298) (h1 : 1 ≤ k) (hk : k ≤ 16) : Calls Tryz.prog 132 #[.slice A n c, .int .i64 (k : Int)] w (GotN w (2 ^ ((blen x + k - 1) / k))) := by
  obtain ⟨i0, hi, hz0, hz1, hz2⟩ := info_parts info24
  have hk0 : ¬ k = 0 := by omega
  obtain ⟨b, hb⟩ : ∃ b, blen x = b := ⟨_, rfl⟩
  have hb2 : b ≤ 19072 := by
    rw [← hb]
    exact blen_len hx
  obtain ⟨q, hq⟩ : ∃ q, q = (b + k - 1) / k := ⟨_, rfl⟩
  have hq2 : q ≤ 19200 := by rw [hq]; exact Nat.le_trans (Nat.div_le_self _ _) (by omega)
  obtain ⟨s, hs⟩ : ∃ s, s = q / 64 := ⟨_, rfl⟩
  obtain ⟨r, hr⟩ : ∃ r, r = q % 64 := ⟨_, rfl⟩
  have hr2 : r < 64 := by omega
  have hs2 : s ≤ 300 := by omega
  have hw' : ((b : Int) + (k : Int) - 1) / (k : Int) = (q : Int) := by
    rw [hq, Int.natCast_ediv]
    congr 1
    omega
  have hws' : (q : Int) / 64 = (s : Int) := by omega
  have hwr' : (q : Int) % 64 = (r : Int) := by omega
  have HONE := Lib.hid (wrap_one hr2)
  have hl : (List.replicate (s + 1) 0).set s (pw r) = limbs (2 ^ q) := by rw [hs, hr]; exact pw_limbs q
  rw [hb, ← hq]
  have HB := Lib.hid hb
  have HLL := Lib.hid hl
  clear hb hq hs hr hl
  go_enter Tryz.func132, Tryz.ntmps132
  go_wp2_with fail
  refine (bits_N ha (by omega)).mono ?_
  rintro e w1 ⟨rfl, b1⟩
  rw [HB.out]
  obtain ⟨t, ht⟩ : ∃ t, w1.heap.size = t := ⟨_, rfl⟩
  have HS := Lib.hid ht
  clear ht
  have hr3 : (0 : Int) ≤ (r : Int) := by omega
  have hr4 : (r : Int) ≤ 64 := by omega
  go_wp2_with (at_make; refine wpList_make_full _ rfl _ _ 23 rfl t 53 i0 (.int .u64 0) 1 Tryz.underlying23 hi hz0 hz1 .i64 .i64 _ _ (s + 1) rfl rfl (by omega) (by omega) (by rw [hz2]; omega) (by unfold maxLen; omega) (by rw [HS.out]; omega) ?_; intro w2 hown1 hgrow1; rw [made_zeros] at hown1; rw [HS.out] at hown1 ⊢; have hf := hown1.frozenAt s; have hc : w2.cell? ⟨t, s, none⟩ = some (.int .u64 0) := (by rw [hown1.cellAt s (by omega)]; simp [encD]); have hst := Lib.hid (hown1.stored s (.int .u64 (pw r : Int))); have HO := Lib.hid hown1; clear hown1)
  go_ret
  rw [HONE.out]
  have hrow := hst.out.1
  rw [show (Value.int IntKind.u64 (pw r : Int)) = encD (pw r) from rfl, ← List.map_set, HLL.out] at hrow
  refine ⟨_, _, _, rfl, Lim.of_own hrow (limbs_dig _), ?_⟩
  have hsz := HS.out
  exact b1.trans ((((Below.refl t w1).grown hgrow1 (by omega) (fun k h => by cases h)).grown hst.out.2 (by have := hgrow1.size; omega) (fun q e => by cases e; exact Nat.le_refl _)).mono (by have := b1.size; omega))

end Go.Proofs.YtanpklbconflmaaGreat

/-
  The contracts of root's guesses: the closure, goDown, rootOf; and of Root, Up, Pow.
-/
namespace Go.Proofs.YtanpklbconflmaaGreat
set_option maxRecDepth 100000
open Go.RowKit

theorem undrew3 {W w' : World} (hb : Below W.drew.heap.size W.drew w') : Below W.heap.size W w' := ⟨hb.os, hb.tape, hb.output, hb.size, hb.block⟩

set_option maxHeartbeats 4000000 in
theorem newt_N {w : World} {A X : Option Addr} {n c m d a x k ba bk : Nat} (hcA : w.cell? ⟨ba, 0, none⟩ = some (.slice A n c)) (hcK : w.cell? ⟨bk, 0, none⟩ = some (.int .i64 (k : Int))) (hba : ba < w.heap.size) (hbk : bk < w.heap.size) (ha : Num w A n c a) (hx : Num w X m d x) (la : (limbs a).length ≤ 299) (lx : (limbs x).length ≤ 299) (lp : (limbs (x ^ (k - 1))).length ≤ 300) (h1 : 1 ≤ k) (hk : k ≤ 16) (hx0 : x ≠ 0) (ls : (limbs (x * (k - 1) + a / x ^ (k - 1))).length ≤ 300) :
    Calls Tryz.prog 129 #[.slice X m d, .pointer (some ⟨ba, 0, none⟩), .pointer (some ⟨bk, 0, none⟩)] w (GotN w (newton a k x)) := by
  unfold newton
  obtain ⟨j, hj⟩ : ∃ j, k - 1 = j := ⟨_, rfl⟩
  rw [hj] at lp ls ⊢
  have hji : (k : Int) - 1 = (j : Int) := by omega
  have hjv : IntKind.i64.wrap (j : Int) = (j : Int) := IntWalk.i64_in _ (by omega)
  have hjw : IntKind.u64.wrap (j : Int) = (j : Int) := by rw [IntKind.wrap_u64]; omega
  have hkw : IntKind.u64.wrap (k : Int) = (k : Int) := by rw [IntKind.wrap_u64]; omega
  have hjk : j ≤ 16 := by omega
  have hp0 : x ^ j ≠ 0 := by have : 0 < x ^ j := Nat.pow_pos (by omega); omega
  have hk0 : k ≠ 0 := by omega
  have lq : (limbs (a / x ^ j)).length ≤ 300 := Nat.le_trans (limbs_length_mono (Nat.div_le_self _ _)) (by omega)
  have lk : (limbs k).length ≤ 1 := limbs_length_le (by rw [Nat.pow_one]; unfold B64; omega)
  have ljj : (limbs j).length ≤ 1 := limbs_length_le (by rw [Nat.pow_one]; unfold B64; omega)
  have lxj : (limbs (x * j)).length ≤ 300 := limbs_length_mul lx ljj
  have hkB : k < B64 := by unfold B64; omega
  have hjB : j < B64 := by unfold B64; omega
  have hD := below_drewN (Below.refl w.heap.size w) 1
  have haD : Num w.drew A n c a := ha.on hD
  have hxD : Num w.drew X m d x := hx.on hD
  clear hj hD
  go_enter Tryz.func129, Tryz.ntmps129
  go_wp2_with fail
  go_region_held3 (fun w' => w'.cell? ⟨ba, 0, none⟩ = some (.slice A n c) ∧ w'.cell? ⟨bk, 0, none⟩ = some (.int .i64 (k : Int)))
    (first | go_keep | exact ⟨cK qq hcA hba, cK qq hcK hbk⟩)
    (first
      | (go_at_call 99; (with_reducible refine (tpow_N hxD (by omega) hjk).mono ?_); rintro e v1 ⟨A1, n1, c1, rfl, h3, q1⟩; have qq := undrew3 q1; replace haD := haD.on q1; clear q1)
      | (go_at_call 130; (with_reducible refine (quot_N haD h3 (by omega) lp hp0).mono ?_); rintro e v2 ⟨A2, n2, c2, rfl, h4, q2⟩; replace qq := bK qq q2; clear q2))
  have hxV := hx.on qq
  have f2 := cK qq hcK hbk
  have hbk2 := Nat.lt_of_lt_of_le hbk qq.size
  clear haD hxD h3
  go_wp2_with fail
  refine (of_N _ j hjB).mono ?_
  rintro e v3 ⟨A3, n3, c3, rfl, h5, q3⟩
  replace hxV := hxV.on q3
  replace h4 := h4.on q3
  replace f2 := cK q3 f2 hbk2
  replace hbk2 := lK q3 hbk2
  replace qq := bK qq q3
  clear q3
  go_wp2_with fail
  refine (mul_N hxV h5 (by omega) (by omega)).mono ?_
  rintro e v4 ⟨A4, n4, c4, rfl, h6, q4⟩
  replace h4 := h4.on q4
  replace f2 := cK q4 f2 hbk2
  replace hbk2 := lK q4 hbk2
  replace qq := bK qq q4
  clear q4 h5
  go_wp2_with fail
  refine (add_N h6 h4 (by omega) (by omega)).mono ?_
  rintro e v5 ⟨A5, n5, c5, rfl, h7, q5⟩
  replace f2 := cK q5 f2 hbk2
  replace hbk2 := lK q5 hbk2
  replace qq := bK qq q5
  clear q5 h6 h4
  go_wp2_with fail
  refine (of_N _ k hkB).mono ?_
  rintro e v6 ⟨A6, n6, c6, rfl, h8, q6⟩
  replace h7 := h7.on q6
  replace qq := bK qq q6
  clear q6
  go_wp2_with fail
  refine (quot_N h7 h8 ls (by omega) hk0).mono ?_
  rintro e v7 ⟨A7, n7, c7, rfl, h9, q7⟩
  go_wp2_with fail
  go_ret
  exact ⟨_, _, _, rfl, h9, qq.trans (q7.mono qq.size)⟩

end Go.Proofs.YtanpklbconflmaaGreat

/-
  The contracts of root's guesses that go down, and of rootOf.
-/
namespace Go.Proofs.YtanpklbconflmaaGreat
set_option maxRecDepth 100000
open Go.RowKit

theorem sum_len {a x k : Nat} (la : (limbs a).length ≤ 100) (lx : (limbs x).length ≤ 110) (hk : k ≤ 16) (p : Nat) : (limbs (x * (k - 1) + a / p)).length ≤ 300 := by
  have h1 : (limbs (k - 1)).length ≤ 1 := limbs_length_le (by rw [Nat.pow_one]; unfold B64; omega)
  have h2 := limbs_length_mul lx h1
  have h3 : (limbs (a / p)).length ≤ 111 := Nat.le_trans (limbs_length_mono (Nat.div_le_self _ _)) (by omega)
  have h4 := limbs_length_add (k := 111) h2 h3
  omega

theorem iroot_ne {k a : Nat} (h1 : 1 ≤ k) (ha : a ≠ 0) : iroot k a ≠ 0 := by
  have := (le_iroot (k := k) (x := a) (r := 1) (by omega)).2 (by rw [Nat.one_pow]; omega)
  omega

set_option maxHeartbeats 4000000 in
theorem down_N {w : World} {A X : Option Addr} {n c m d a x0 k ba bk : Nat} (hcA : w.cell? ⟨ba, 0, none⟩ = some (.slice A n c)) (hcK : w.cell? ⟨bk, 0, none⟩ = some (.int .i64 (k : Int))) (hba : ba < w.heap.size) (hbk : bk < w.heap.size) (ha : Num w A n c a) (hx : Num w X m d x0) (la : (limbs a).length ≤ 100) (lx : (limbs x0).length ≤ 110) (lp : (limbs (x0 ^ (k - 1))).length ≤ 300) (h1 : 1 ≤ k) (hk : k ≤ 16) (ha0 : a ≠ 0) (hx0 : iroot k a ≤ x0) :
    Calls Tryz.prog 131 #[.slice X m d, .func (.func 129) #[] #[.pointer (some ⟨ba, 0, none⟩), .pointer (some ⟨bk, 0, none⟩)]] w (GotN w (iroot k a)) := by
  have hr0 := iroot_ne h1 ha0
  have hk0 : k ≠ 0 := by omega
  go_enter Tryz.func131, Tryz.ntmps131
  go_wp2_with fail
  go_loopg [0] x0 (fun g v wr => ∃ (X' : Option Addr) (m' d' : Nat), v = .slice X' m' d' ∧ Num wr X' m' d' g ∧ iroot k a ≤ g ∧ g ≤ x0 ∧ Below w.heap.size w wr)
  case atStart => exact ⟨X, m, d, rfl, hx, hx0, Nat.le_refl _, Below.refl _ _⟩
  case round =>
    obtain ⟨X', m', d', rfl, hN, hge, hle, hB⟩ := hrel
    have hg0 : gk ≠ 0 := by omega
    have lg : (limbs gk).length ≤ 110 := Nat.le_trans (limbs_length_mono hle) lx
    have lgp : (limbs (gk ^ (k - 1))).length ≤ 300 := Nat.le_trans (limbs_length_mono (pow_le _ hle)) lp
    have hn1 := newton_ge h1 (iroot_pow a hk0) hg0
    have lnn : (limbs (newton a k gk)).length ≤ 400 := by
      unfold newton
      exact Nat.le_trans (limbs_length_mono (Nat.div_le_self _ _)) (Nat.le_trans (sum_len la lg hk _) (by omega))
    have hcall := Lib.hid (newt_N (cK hB hcA hba) (cK hB hcK hbk) (Nat.lt_of_lt_of_le hba hB.size) (Nat.lt_of_lt_of_le hbk hB.size) (ha.on hB) hN (by omega) (by omega) lgp h1 hk hg0 (sum_len la lg hk _))
    clear lgp
    rcases Nat.lt_or_ge a (gk ^ k) with hlt | hge2
    · have hl2 := newton_lt h1 hg0 hlt
      obtain ⟨y, hy⟩ : ∃ y, newton a k gk = y := ⟨_, rfl⟩
      rw [hy] at hcall hn1 hl2 lnn
      clear hy hlt
      go_wp2_with fail
      refine hcall.out.mono ?_
      rintro e w1 ⟨A1, n1, c1, rfl, h3, b1⟩
      have hN1 := hN.on b1
      go_wp2_with fail
      refine (cmp_N h3 hN1 (by omega) (by omega)).mono ?_
      rintro e w2 ⟨rfl, b2⟩
      rw [cmpN_lt hl2]
      go_wp2_with fail
      go_roundg y
      case rel => exact ⟨_, _, _, rfl, h3.on b2, hn1, by omega, hB.trans ((b1.trans (b2.mono b1.size)).mono hB.size)⟩
      case measure => exact hl2
    · have hl2 := newton_end h1 hg0 hge2
      have he : iroot k a = gk := by have := (le_iroot hk0).2 hge2; omega
      rw [he]
      have hz : cmpN (newton a k gk) gk = 0 ∨ cmpN (newton a k gk) gk = 1 := by
        rcases Nat.lt_or_ge gk (newton a k gk) with h | h
        · exact .inr (cmpN_gt h)
        · exact .inl (cmpN_zero.2 (by omega))
      obtain ⟨y, hy⟩ : ∃ y, newton a k gk = y := ⟨_, rfl⟩
      rw [hy] at hcall hn1 hl2 lnn hz
      obtain ⟨z, hzz⟩ : ∃ z, cmpN y gk = z := ⟨_, rfl⟩
      rw [hzz] at hz
      have HZ := Lib.hid hzz
      have HC := Lib.hid hz
      clear hy hge2 he hz hzz
      go_wp2_with fail
      refine hcall.out.mono ?_
      rintro e w1 ⟨A1, n1, c1, rfl, h3, b1⟩
      have hN1 := hN.on b1
      go_wp2_with fail
      refine (cmp_N h3 hN1 (by omega) (by omega)).mono ?_
      rintro e w2 ⟨rfl, b2⟩
      rw [HZ.out]
      rcases HC.out with rfl | rfl
      all_goals
        go_wp2_with fail
        go_ret
        exact ⟨_, _, _, rfl, hN1.on b2, hB.trans ((b1.trans (b2.mono b1.size)).mono hB.size)⟩

end Go.Proofs.YtanpklbconflmaaGreat

/-
  The contract of rootOf.
-/
namespace Go.Proofs.YtanpklbconflmaaGreat
set_option maxRecDepth 100000
open Go.RowKit

theorem iroot_zero {k : Nat} (hk : k ≠ 0) : iroot k 0 = 0 := iroot_eq hk (by rw [Nat.zero_pow (by omega)]; omega) (by rw [Nat.zero_add, Nat.one_pow]; omega)

set_option maxHeartbeats 4000000 in
theorem rootof_N {w : World} {A : Option Addr} {n c x k : Nat} (ha : Num w A n c x) (hx : (limbs x).length ≤ 100) (h1 : 1 ≤ k) (hk : k ≤ 16) : Calls Tryz.prog 98 #[.slice A n c, .int .i64 (k : Int)] w (GotN w (iroot k x)) := by
  have hk0 : k ≠ 0 := by omega
  obtain ⟨W, hW⟩ : ∃ W, (w.alloc (.cells #[.slice A n c] 23)).alloc (.cells #[.int .i64 (k : Int)] 3) = W := ⟨_, rfl⟩
  obtain ⟨t, ht⟩ : ∃ t, w.heap.size = t := ⟨_, rfl⟩
  have hBW : Below t w W := by
    rw [← hW, ← ht]
    exact ((Below.refl _ w).alloc (Nat.le_refl _) _).alloc (by simp) _
  have hS : W.heap.size = t + 2 := by rw [← hW, ← ht]; simp
  have c1 : W.cell? ⟨t, 0, none⟩ = some (.slice A n c) := by rw [← hW, ← ht]; simp [go_sem]
  have c2 : W.cell? ⟨t + 1, 0, none⟩ = some (.int .i64 (k : Int)) := by rw [← hW, ← ht]; simp [go_sem]
  have f1 : W.frozen? ⟨t, 0, none⟩ = false := by rw [← hW, ← ht]; simp [go_sem]
  have haW := ha.on (by rw [ht]; exact hBW)
  have hshr0 : Calls Tryz.prog 128 #[.slice A n c, .int .i64 0] W (GotP W (x / 2 ^ 0) 0) := dshr_N (k := 0) haW (by omega) (by omega)
  have hshr := Lib.hid hshr0
  have HT := Lib.hid ht
  have HS := Lib.hid hS
  unfold GotN
  go_enter Tryz.func98, Tryz.ntmps98
  clear hS hshr0
  go_wp2_with fail
  clear hW ht
  refine hshr.out.mono ?_
  rintro e w1 ⟨A1, n1, m1, rfl, h3, b1⟩
  rw [Nat.pow_zero, Nat.div_one] at h3
  have d1 := (b1.cell (p := ⟨t, 0, none⟩) (by show t < _; rw [HS.out]; omega)).trans c1
  have d2 := (b1.cell (p := ⟨t + 1, 0, none⟩) (by show t + 1 < _; rw [HS.out]; omega)).trans c2
  have g1 := (b1.frozen (p := ⟨t, 0, none⟩) (by show t < _; rw [HS.out]; omega)).trans f1
  have hs1 : t + 2 ≤ w1.heap.size := by have := b1.size; rw [HS.out] at this; exact this
  have hB1 : Below t w w1 := hBW.trans (b1.mono (by rw [HS.out]; omega))
  clear c1 c2 f1 hBW b1 hshr haW
  have hl3 := h3.len
  by_cases hx0 : x = 0
  · subst hx0
    rw [limbs_zero] at hl3
    simp at hl3
    subst hl3
    go_wp2_with fail
    go_ret
    exact ⟨none, 0, 0, rfl, by rw [iroot_zero hk0]; exact num_none _ _ _, by rw [HT.out]; exact hB1.setCell (Nat.le_refl _) _⟩
  · have hn0 : ((n1 : Int) == 0) = false := by have := limbs_ne_nil hx0; simp; omega
    obtain ⟨w2, hw2⟩ : ∃ w2, w1.setCell ⟨t, 0, none⟩ (.slice A1 n1 m1) = w2 := ⟨_, rfl⟩
    have h3' : Num w2 A1 n1 m1 x := by rw [← hw2]; exact h3.set_other d1 (fun _ _ e => by cases e)
    have e1 : w2.cell? ⟨t, 0, none⟩ = some (.slice A1 n1 m1) := by rw [← hw2]; exact World.cell?_setCell_same _ _ _ d1
    have e2 : w2.cell? ⟨t + 1, 0, none⟩ = some (.int .i64 (k : Int)) := by rw [← hw2, World.cell?_setCell_other (h := fun e => by injection e with e3; omega)]; exact d2
    have hs2 : t + 2 ≤ w2.heap.size := by rw [← hw2]; simp; exact hs1
    have hB2 : Below t w w2 := by rw [← hw2]; exact hB1.setCell (Nat.le_refl _) _
    obtain ⟨q, hq⟩ : ∃ q, (blen x + k - 1) / k = q := ⟨_, rfl⟩
    have hbl := blen_len hx
    have hqk : q * k ≤ 6400 + 15 := by rw [← hq]; exact above_bits h1 hk (by omega)
    have hq1 : q ≤ 6415 := Nat.le_trans (Nat.le_mul_of_pos_right q (by omega)) hqk
    have hqp : q * (k - 1) ≤ 6415 := Nat.le_trans (Nat.mul_le_mul_left q (by omega)) hqk
    have lq : (limbs (2 ^ q)).length ≤ 110 := Nat.le_trans (limbs_two_pow (m := 110) (by omega)) (Nat.le_refl _)
    have lp : (limbs ((2 ^ q) ^ (k - 1))).length ≤ 300 := by rw [← Nat.pow_mul]; exact limbs_two_pow (m := 300) (by omega)
    have hge : iroot k x ≤ 2 ^ q := by
      rcases Nat.lt_or_ge (2 ^ q) (iroot k x) with h | h
      · have h5 := above_root (a := x) h1 (lt_blen x)
        rw [hq] at h5
        have h6 := pow_lt hk0 h
        have h7 := iroot_pow x hk0
        omega
      · exact h
    have hab : Calls Tryz.prog 132 #[.slice A1 n1 m1, .int .i64 (k : Int)] w2 (GotN w2 (2 ^ q)) := by rw [← hq]; exact above_N h3' (by omega) h1 hk
    have HAB := Lib.hid hab
    have HQ := Lib.hid hq
    clear hl3 hq h3 d2 hbl hqk hqp hab
    go_wp2_with fail
    clear d1
    refine HAB.out.mono ?_
    rintro e w3 ⟨A3, n3, c3, rfl, h4, b3⟩
    have hd := down_N ((b3.cell (p := ⟨t, 0, none⟩) (by show t < _; omega)).trans e1) ((b3.cell (p := ⟨t + 1, 0, none⟩) (by show t + 1 < _; omega)).trans e2) (Nat.lt_of_lt_of_le (show t < _ by omega) b3.size) (Nat.lt_of_lt_of_le (show t + 1 < _ by omega) b3.size) (h3'.on b3) h4 hx lq lp h1 hk hx0 hge
    have HD := Lib.hid hd
    have hB3 := hB2.trans (b3.mono (by omega))
    clear hd e1 e2 hw2
    go_wp2_with fail
    refine HD.out.mono ?_
    rintro e w4 ⟨A4, n4, c4, rfl, h5, b4⟩
    go_wp2_with fail
    go_ret
    exact ⟨_, _, _, rfl, h5, by rw [HT.out]; exact hB3.trans (b4.mono (by have := b3.size; omega))⟩

end Go.Proofs.YtanpklbconflmaaGreat

/-
  The contracts of package root in one style, over numbers.
-/
namespace Go.Proofs.YtanpklbconflmaaGreat
set_option maxRecDepth 100000
set_option maxHeartbeats 2000000
open Go.RowKit

theorem root_N {w : World} {A : Option Addr} {n c x k : Nat} (ha : Num w A n c x) (hx : (limbs x).length ≤ 100) (h1 : 1 ≤ k) (hk : k ≤ 16) : Calls Tryz.prog 57 #[.slice A n c, .int .i64 (k : Int)] w (GotP w (iroot k x) 0) := by
  go_enter Tryz.func57, Tryz.ntmps57
  go_wp2_with fail
  refine (isExp_yes _ k h1 hk).mono ?_
  rintro e w' ⟨rfl, rfl⟩
  go_wp2_with fail
  refine (rootof_N ha hx h1 hk).mono ?_
  rintro e w1 ⟨A1, n1, c1, rfl, hr, b1⟩
  go_wp2_with fail
  go_ret2
  exact ⟨_, _, _, rfl, hr, b1⟩
theorem uroot_lt {k x : Nat} (h : iroot k x ^ k ≠ x) : uroot k x = iroot k x + 1 := by unfold uroot; rw [if_neg h]
theorem uroot_eq {k x : Nat} (h : iroot k x ^ k = x) : uroot k x = iroot k x := by unfold uroot; rw [if_pos h]

theorem up_N {w : World} {A : Option Addr} {n c x k : Nat} (ha : Num w A n c x) (hx : (limbs x).length ≤ 100) (h1 : 1 ≤ k) (hk : k ≤ 16) : Calls Tryz.prog 58 #[.slice A n c, .int .i64 (k : Int)] w (GotP w (uroot k x) 0) := by
  have hk0 : k ≠ 0 := by omega
  have hpw := iroot_pow x hk0
  have hrl : (limbs (iroot k x)).length ≤ 100 := Nat.le_trans (limbs_length_mono (iroot_le x hk0)) hx
  have hpl : (limbs (iroot k x ^ k)).length ≤ 100 := Nat.le_trans (limbs_length_mono hpw) hx
  by_cases he : iroot k x ^ k = x
  · have hz : cmpN (iroot k x ^ k) x = 0 := cmpN_zero.2 he
    have HU := Lib.hid (uroot_eq he)
    have HZ := Lib.hid hz
    clear he hz hpw
    go_enter Tryz.func58, Tryz.ntmps58
    go_wp2_with fail
    refine (isExp_yes _ k h1 hk).mono ?_
    rintro e w' ⟨rfl, rfl⟩
    go_wp2_with fail
    refine (rootof_N ha hx h1 hk).mono ?_
    rintro e w1 ⟨A1, n1, c1, rfl, hr, b1⟩
    have ha1 := ha.on b1
    go_wp2_with fail
    refine (tpow_N hr (by omega) hk).mono ?_
    rintro e w2 ⟨A2, n2, c2, rfl, hp, b2⟩
    have ha2 := ha1.on b2
    have hr2 := hr.on b2
    go_wp2_with fail
    refine (cmp_N hp ha2 (by omega) (by omega)).mono ?_
    rintro e w3 ⟨rfl, b3⟩
    rw [HZ.out]
    go_wp2_with fail
    go_ret2
    rw [HU.out]
    exact ⟨_, _, _, rfl, hr2.on b3, b1.trans ((b2.trans (b3.mono b2.size)).mono b1.size)⟩
  · have hz : cmpN (iroot k x ^ k) x = -1 := cmpN_lt (by omega)
    have HU := Lib.hid (uroot_lt he)
    have HZ := Lib.hid hz
    clear he hz hpw
    go_enter Tryz.func58, Tryz.ntmps58
    go_wp2_with fail
    refine (isExp_yes _ k h1 hk).mono ?_
    rintro e w' ⟨rfl, rfl⟩
    go_wp2_with fail
    refine (rootof_N ha hx h1 hk).mono ?_
    rintro e w1 ⟨A1, n1, c1, rfl, hr, b1⟩
    have ha1 := ha.on b1
    go_wp2_with fail
    refine (tpow_N hr (by omega) hk).mono ?_
    rintro e w2 ⟨A2, n2, c2, rfl, hp, b2⟩
    have ha2 := ha1.on b2
    have hr2 := hr.on b2
    go_wp2_with fail
    refine (cmp_N hp ha2 (by omega) (by omega)).mono ?_
    rintro e w3 ⟨rfl, b3⟩
    rw [HZ.out]
    have hr3 := hr2.on b3
    have b13 : Below w.heap.size w w3 := b1.trans ((b2.trans (b3.mono b2.size)).mono b1.size)
    go_wp2_with fail
    refine (of_N _ 1 B64_gt).mono ?_
    rintro e w4 ⟨A4, n4, c4, rfl, h4, b4⟩
    have hr4 := hr3.on b4
    go_wp2_with fail
    refine (add_N hr4 h4 (by omega) (by rw [limbs_one (by omega) B64_gt]; simp)).mono ?_
    rintro e w5 ⟨A5, n5, c5, rfl, h5, b5⟩
    go_wp2_with fail
    go_ret2
    rw [HU.out]
    exact ⟨_, _, _, rfl, h5, b13.trans ((b4.trans (b5.mono b4.size)).mono b13.size)⟩
end Go.Proofs.YtanpklbconflmaaGreat

/-
  The contracts of the seventh reference: Right, Few.
-/
namespace Go.Proofs.YtanpklbconflmaaGreat
set_option maxRecDepth 100000
set_option maxHeartbeats 8000000
open Go.RowKit
set_option linter.unusedVariables false
set_option linter.unusedSimpArgs false

theorem stright_0 {w : World} {b0 p0 : Bool} {A0 B0 V0 U0 : Option Addr} {n0 c0 m0 d0 r0 k0 o0 q0 : Nat} {la lb lc ld : List Nat} (ha : Lim w.heap.size w A0 n0 c0 la) (hb : Lim w.heap.size w B0 m0 d0 lb) (hc : Lim w.heap.size w V0 r0 k0 lc) (hd : Lim w.heap.size w U0 o0 q0 ld) (n1_ : n0 ≤ 100) (m1_ : m0 ≤ 100) (n2_ : r0 ≤ 100) (m2_ : o0 ≤ 100) (e1 : okR b0 n0 la m0 lb = false) :
    Calls Tryz.prog 13 #[.agg #[.bool b0, .slice A0 n0 c0, .slice B0 m0 d0, .bool p0, .slice V0 r0 k0, .slice U0 o0 q0]] w (GotV w (.bool false)) := by
  have cc := Below.refl w.heap.size w
  go_enter Tryz.func13, Tryz.ntmps13
  go_wp2_with fail
  generalize hv_ : w.alloc (.cells #[.bool b0, .slice A0 n0 c0, .slice B0 m0 d0, .bool p0, .slice V0 r0 k0, .slice U0 o0 q0] 29) = v1
  have bA : Below w.heap.size w v1 := by rw [← hv_]; exact ((Below.refl _ w).alloc (by simp) _)
  replace ha := ha.on bA
  replace hb := hb.on bA
  replace hc := hc.on bA
  replace hd := hd.on bA
  replace cc := bK cc bA
  clear bA
  obtain ⟨ka0, ka1, ka2, ka3, ka4, ka5⟩ : Cs6 v1 w.heap.size (.bool b0) (.slice A0 n0 c0) (.slice B0 m0 d0) (.bool p0) (.slice V0 r0 k0) (.slice U0 o0 q0) := by simp [Cs6, ← hv_, go_sem]
  have kal : w.heap.size < v1.heap.size := by simp [← hv_] <;> omega
  clear hv_
  refine (rtright_any ha hb n1_ m1_ false e1).mono ?_
  rintro e w2 ⟨rfl, b⟩
  replace ha := ha.on b
  replace hb := hb.on b
  replace hc := hc.on b
  replace hd := hd.on b
  rewrite [cR b kal] at ka0 ka1 ka2 ka3 ka4 ka5
  replace kal := lK b kal
  replace cc := bK cc b
  clear b
  go_wp2_with fail
  go_ret
  exact ⟨rfl, cc⟩

theorem stright_1 {w : World} {b0 p0 : Bool} {A0 B0 V0 U0 : Option Addr} {n0 c0 m0 d0 r0 k0 o0 q0 : Nat} {la lb lc ld : List Nat} (ha : Lim w.heap.size w A0 n0 c0 la) (hb : Lim w.heap.size w B0 m0 d0 lb) (hc : Lim w.heap.size w V0 r0 k0 lc) (hd : Lim w.heap.size w U0 o0 q0 ld) (n1_ : n0 ≤ 100) (m1_ : m0 ≤ 100) (n2_ : r0 ≤ 100) (m2_ : o0 ≤ 100) (e1 : okR b0 n0 la m0 lb = true) (e2 : okR p0 r0 lc o0 ld = false) :
    Calls Tryz.prog 13 #[.agg #[.bool b0, .slice A0 n0 c0, .slice B0 m0 d0, .bool p0, .slice V0 r0 k0, .slice U0 o0 q0]] w (GotV w (.bool false)) := by
  have cc := Below.refl w.heap.size w
  go_enter Tryz.func13, Tryz.ntmps13
  go_wp2_with fail
  generalize hv_ : w.alloc (.cells #[.bool b0, .slice A0 n0 c0, .slice B0 m0 d0, .bool p0, .slice V0 r0 k0, .slice U0 o0 q0] 29) = v1
  have bA : Below w.heap.size w v1 := by rw [← hv_]; exact ((Below.refl _ w).alloc (by simp) _)
  replace ha := ha.on bA
  replace hb := hb.on bA
  replace hc := hc.on bA
  replace hd := hd.on bA
  replace cc := bK cc bA
  clear bA
  obtain ⟨ka0, ka1, ka2, ka3, ka4, ka5⟩ : Cs6 v1 w.heap.size (.bool b0) (.slice A0 n0 c0) (.slice B0 m0 d0) (.bool p0) (.slice V0 r0 k0) (.slice U0 o0 q0) := by simp [Cs6, ← hv_, go_sem]
  have kal : w.heap.size < v1.heap.size := by simp [← hv_] <;> omega
  clear hv_
  refine (rtright_any ha hb n1_ m1_ true e1).mono ?_
  rintro e w2 ⟨rfl, b⟩
  replace ha := ha.on b
  replace hb := hb.on b
  replace hc := hc.on b
  replace hd := hd.on b
  rewrite [cR b kal] at ka0 ka1 ka2 ka3 ka4 ka5
  replace kal := lK b kal
  replace cc := bK cc b
  clear b
  go_wp2_with fail
  refine (rtright_any hc hd n2_ m2_ false e2).mono ?_
  rintro e w3 ⟨rfl, b⟩
  replace ha := ha.on b
  replace hb := hb.on b
  replace hc := hc.on b
  replace hd := hd.on b
  rewrite [cR b kal] at ka0 ka1 ka2 ka3 ka4 ka5
  replace kal := lK b kal
  replace cc := bK cc b
  clear b
  go_wp2_with fail
  go_ret
  exact ⟨rfl, cc⟩

theorem stright_N {w : World} {b0 p0 : Bool} {A0 B0 V0 U0 : Option Addr} {n0 c0 m0 d0 r0 k0 o0 q0 : Nat} {x0 y0 : Rat} (h0 : Rt w b0 A0 n0 c0 B0 m0 d0 x0) (g0 : Rt w p0 V0 r0 k0 U0 o0 q0 y0) (s0 : Sz x0 30) (t0 : Sz y0 30) (z : Bool) (hz : decide (x0 ≤ y0) = z) :
    Calls Tryz.prog 13 #[.agg #[.bool b0, .slice A0 n0 c0, .slice B0 m0 d0, .bool p0, .slice V0 r0 k0, .slice U0 o0 q0]] w (GotV w (.bool z)) := by
  obtain ⟨c_, ec⟩ : ∃ c, cmpQ x0 y0 = c := ⟨_, rfl⟩
  have EC := Lib.hid ec
  have tz : decide (c_ ≤ 0) = z := by rw [← ec, ← hz]; simp only [cmpQ_le]
  clear ec
  have cc := Below.refl w.heap.size w
  go_enter Tryz.func13, Tryz.ntmps13
  go_wp2_with fail
  generalize hv_ : w.alloc (.cells #[.bool b0, .slice A0 n0 c0, .slice B0 m0 d0, .bool p0, .slice V0 r0 k0, .slice U0 o0 q0] 29) = v1
  have bA : Below w.heap.size w v1 := by rw [← hv_]; exact ((Below.refl _ w).alloc (by simp) _)
  replace h0 := h0.on bA
  replace g0 := g0.on bA
  replace cc := bK cc bA
  clear bA
  obtain ⟨ka0, ka1, ka2, ka3, ka4, ka5⟩ : Cs6 v1 w.heap.size (.bool b0) (.slice A0 n0 c0) (.slice B0 m0 d0) (.bool p0) (.slice V0 r0 k0) (.slice U0 o0 q0) := by simp [Cs6, ← hv_, go_sem]
  have kal : w.heap.size < v1.heap.size := by simp [← hv_] <;> omega
  clear hv_
  refine (rtright_N h0 s0).mono ?_
  rintro e w2 ⟨rfl, b⟩
  replace h0 := h0.on b
  replace g0 := g0.on b
  rewrite [cR b kal] at ka0 ka1 ka2 ka3 ka4 ka5
  replace kal := lK b kal
  replace cc := bK cc b
  clear b
  go_wp2_with fail
  refine (rtright_N g0 t0).mono ?_
  rintro e w3 ⟨rfl, b⟩
  replace h0 := h0.on b
  replace g0 := g0.on b
  rewrite [cR b kal] at ka0 ka1 ka2 ka3 ka4 ka5
  replace kal := lK b kal
  replace cc := bK cc b
  clear b
  go_wp2_with fail
  refine (rtcmp_v c_ h0 (s0.le (by omega)) g0 (t0.le (by omega)) EC.out).mono ?_
  rintro e w4 ⟨rfl, b⟩
  replace h0 := h0.on b
  replace g0 := g0.on b
  rewrite [cR b kal] at ka0 ka1 ka2 ka3 ka4 ka5
  replace kal := lK b kal
  replace cc := bK cc b
  clear b
  go_wp2_with fail
  go_ret
  exact ⟨rfl, cc⟩

theorem stfew_0 {w : World} {b0 p0 : Bool} {A0 B0 V0 U0 : Option Addr} {n0 c0 m0 d0 r0 k0 o0 q0 : Nat} {la lb lc ld : List Nat} (ha : Lim w.heap.size w A0 n0 c0 la) (hb : Lim w.heap.size w B0 m0 d0 lb) (hc : Lim w.heap.size w V0 r0 k0 lc) (hd : Lim w.heap.size w U0 o0 q0 ld) {most : Int} (h100 : most ≤ 100) (e1 : (decide ((n0 : Int) ≤ most) && (decide ((m0 : Int) ≤ most) && okR b0 n0 la m0 lb)) = false) :
    Calls Tryz.prog 17 #[.agg #[.bool b0, .slice A0 n0 c0, .slice B0 m0 d0, .bool p0, .slice V0 r0 k0, .slice U0 o0 q0], .int .i64 most] w (GotV w (.bool false)) := by
  have cc := Below.refl w.heap.size w
  go_enter Tryz.func17, Tryz.ntmps17
  go_wp2_with fail
  generalize hv_ : w.alloc (.cells #[.bool b0, .slice A0 n0 c0, .slice B0 m0 d0, .bool p0, .slice V0 r0 k0, .slice U0 o0 q0] 29) = v1
  have bA : Below w.heap.size w v1 := by rw [← hv_]; exact ((Below.refl _ w).alloc (by simp) _)
  replace ha := ha.on bA
  replace hb := hb.on bA
  replace hc := hc.on bA
  replace hd := hd.on bA
  replace cc := bK cc bA
  clear bA
  obtain ⟨ka0, ka1, ka2, ka3, ka4, ka5⟩ : Cs6 v1 w.heap.size (.bool b0) (.slice A0 n0 c0) (.slice B0 m0 d0) (.bool p0) (.slice V0 r0 k0) (.slice U0 o0 q0) := by simp [Cs6, ← hv_, go_sem]
  have kal : w.heap.size < v1.heap.size := by simp [← hv_] <;> omega
  clear hv_
  refine (rtfew_any ha hb most h100 false e1).mono ?_
  rintro e w2 ⟨rfl, b⟩
  replace ha := ha.on b
  replace hb := hb.on b
  replace hc := hc.on b
  replace hd := hd.on b
  rewrite [cR b kal] at ka0 ka1 ka2 ka3 ka4 ka5
  replace kal := lK b kal
  replace cc := bK cc b
  clear b
  go_wp2_with fail
  go_ret
  exact ⟨rfl, cc⟩

theorem stfew_1 {w : World} {b0 p0 : Bool} {A0 B0 V0 U0 : Option Addr} {n0 c0 m0 d0 r0 k0 o0 q0 : Nat} {la lb lc ld : List Nat} (ha : Lim w.heap.size w A0 n0 c0 la) (hb : Lim w.heap.size w B0 m0 d0 lb) (hc : Lim w.heap.size w V0 r0 k0 lc) (hd : Lim w.heap.size w U0 o0 q0 ld) {most : Int} (h100 : most ≤ 100) (e1 : (decide ((n0 : Int) ≤ most) && (decide ((m0 : Int) ≤ most) && okR b0 n0 la m0 lb)) = true) (e2 : (decide ((r0 : Int) ≤ most) && (decide ((o0 : Int) ≤ most) && okR p0 r0 lc o0 ld)) = false) :
    Calls Tryz.prog 17 #[.agg #[.bool b0, .slice A0 n0 c0, .slice B0 m0 d0, .bool p0, .slice V0 r0 k0, .slice U0 o0 q0], .int .i64 most] w (GotV w (.bool false)) := by
  have cc := Below.refl w.heap.size w
  go_enter Tryz.func17, Tryz.ntmps17
  go_wp2_with fail
  generalize hv_ : w.alloc (.cells #[.bool b0, .slice A0 n0 c0, .slice B0 m0 d0, .bool p0, .slice V0 r0 k0, .slice U0 o0 q0] 29) = v1
  have bA : Below w.heap.size w v1 := by rw [← hv_]; exact ((Below.refl _ w).alloc (by simp) _)
  replace ha := ha.on bA
  replace hb := hb.on bA
  replace hc := hc.on bA
  replace hd := hd.on bA
  replace cc := bK cc bA
  clear bA
  obtain ⟨ka0, ka1, ka2, ka3, ka4, ka5⟩ : Cs6 v1 w.heap.size (.bool b0) (.slice A0 n0 c0) (.slice B0 m0 d0) (.bool p0) (.slice V0 r0 k0) (.slice U0 o0 q0) := by simp [Cs6, ← hv_, go_sem]
  have kal : w.heap.size < v1.heap.size := by simp [← hv_] <;> omega
  clear hv_
  refine (rtfew_any ha hb most h100 true e1).mono ?_
  rintro e w2 ⟨rfl, b⟩
  replace ha := ha.on b
  replace hb := hb.on b
  replace hc := hc.on b
  replace hd := hd.on b
  rewrite [cR b kal] at ka0 ka1 ka2 ka3 ka4 ka5
  replace kal := lK b kal
  replace cc := bK cc b
  clear b
  go_wp2_with fail
  refine (rtfew_any hc hd most h100 false e2).mono ?_
  rintro e w3 ⟨rfl, b⟩
  replace ha := ha.on b
  replace hb := hb.on b
  replace hc := hc.on b
  replace hd := hd.on b
  rewrite [cR b kal] at ka0 ka1 ka2 ka3 ka4 ka5
  replace kal := lK b kal
  replace cc := bK cc b
  clear b
  go_wp2_with fail
  go_ret
  exact ⟨rfl, cc⟩

theorem stfew_2 {w : World} {b0 p0 : Bool} {A0 B0 V0 U0 : Option Addr} {n0 c0 m0 d0 r0 k0 o0 q0 : Nat} {la lb lc ld : List Nat} (ha : Lim w.heap.size w A0 n0 c0 la) (hb : Lim w.heap.size w B0 m0 d0 lb) (hc : Lim w.heap.size w V0 r0 k0 lc) (hd : Lim w.heap.size w U0 o0 q0 ld) {x0 y0 : Rat} (h0 : Rt w b0 A0 n0 c0 B0 m0 d0 x0) (g0 : Rt w p0 V0 r0 k0 U0 o0 q0 y0) (s0 : Sz x0 30) (t0 : Sz y0 30) {most : Int} (h100 : most ≤ 100) (e1 : (decide ((n0 : Int) ≤ most) && (decide ((m0 : Int) ≤ most) && okR b0 n0 la m0 lb)) = true) (e2 : (decide ((r0 : Int) ≤ most) && (decide ((o0 : Int) ≤ most) && okR p0 r0 lc o0 ld)) = true) (z : Bool) (hz : decide (x0 ≤ y0) = z) :
    Calls Tryz.prog 17 #[.agg #[.bool b0, .slice A0 n0 c0, .slice B0 m0 d0, .bool p0, .slice V0 r0 k0, .slice U0 o0 q0], .int .i64 most] w (GotV w (.bool z)) := by
  have cc := Below.refl w.heap.size w
  go_enter Tryz.func17, Tryz.ntmps17
  go_wp2_with fail
  generalize hv_ : w.alloc (.cells #[.bool b0, .slice A0 n0 c0, .slice B0 m0 d0, .bool p0, .slice V0 r0 k0, .slice U0 o0 q0] 29) = v1
  have bA : Below w.heap.size w v1 := by rw [← hv_]; exact ((Below.refl _ w).alloc (by simp) _)
  replace ha := ha.on bA
  replace hb := hb.on bA
  replace hc := hc.on bA
  replace hd := hd.on bA
  replace h0 := h0.on bA
  replace g0 := g0.on bA
  replace cc := bK cc bA
  clear bA
  obtain ⟨ka0, ka1, ka2, ka3, ka4, ka5⟩ : Cs6 v1 w.heap.size (.bool b0) (.slice A0 n0 c0) (.slice B0 m0 d0) (.bool p0) (.slice V0 r0 k0) (.slice U0 o0 q0) := by simp [Cs6, ← hv_, go_sem]
  have kal : w.heap.size < v1.heap.size := by simp [← hv_] <;> omega
  clear hv_
  refine (rtfew_any ha hb most h100 true e1).mono ?_
  rintro e w2 ⟨rfl, b⟩
  replace ha := ha.on b
  replace hb := hb.on b
  replace hc := hc.on b
  replace hd := hd.on b
  replace h0 := h0.on b
  replace g0 := g0.on b
  rewrite [cR b kal] at ka0 ka1 ka2 ka3 ka4 ka5
  replace kal := lK b kal
  replace cc := bK cc b
  clear b
  go_wp2_with fail
  refine (rtfew_any hc hd most h100 true e2).mono ?_
  rintro e w3 ⟨rfl, b⟩
  replace ha := ha.on b
  replace hb := hb.on b
  replace hc := hc.on b
  replace hd := hd.on b
  replace h0 := h0.on b
  replace g0 := g0.on b
  rewrite [cR b kal] at ka0 ka1 ka2 ka3 ka4 ka5
  replace kal := lK b kal
  replace cc := bK cc b
  clear b
  go_wp2_with fail
  refine (stright_N h0 g0 s0 t0 z hz).mono ?_
  rintro e w4 ⟨rfl, b⟩
  replace ha := ha.on b
  replace hb := hb.on b
  replace hc := hc.on b
  replace hd := hd.on b
  replace h0 := h0.on b
  replace g0 := g0.on b
  rewrite [cR b kal] at ka0 ka1 ka2 ka3 ka4 ka5
  replace kal := lK b kal
  replace cc := bK cc b
  clear b
  go_wp2_with fail
  go_ret
  exact ⟨rfl, cc⟩

/-- Few of a span: refused; or both ends are right, of few limbs, and in order. -/
theorem stfew_any {w : World} {b0 p0 : Bool} {A0 B0 V0 U0 : Option Addr} {n0 c0 m0 d0 r0 k0 o0 q0 : Nat} {la lb lc ld : List Nat} (ha : Lim w.heap.size w A0 n0 c0 la) (hb : Lim w.heap.size w B0 m0 d0 lb) (hc : Lim w.heap.size w V0 r0 k0 lc) (hd : Lim w.heap.size w U0 o0 q0 ld) (k : Nat) (hk : k ≤ 30) :
    ∃ z : Bool, (∀ W : World, Below w.heap.size w W → Calls Tryz.prog 17 #[.agg #[.bool b0, .slice A0 n0 c0, .slice B0 m0 d0, .bool p0, .slice V0 r0 k0, .slice U0 o0 q0], .int .i64 (k : Int)] W (GotV W (.bool z))) ∧ (z = true → ∃ x y : Rat, Rt w b0 A0 n0 c0 B0 m0 d0 x ∧ Rt w p0 V0 r0 k0 U0 o0 q0 y ∧ Sz x k ∧ Sz y k ∧ x ≤ y) := by
  cases e1 : (decide ((n0 : Int) ≤ (k : Int)) && (decide ((m0 : Int) ≤ (k : Int)) && okR b0 n0 la m0 lb)) with
  | false => exact ⟨false, fun W hW => stfew_0 (ha.on hW) (hb.on hW) (hc.on hW) (hd.on hW) (by omega) e1, fun h => by cases h⟩
  | true =>
    cases e2 : (decide ((r0 : Int) ≤ (k : Int)) && (decide ((o0 : Int) ≤ (k : Int)) && okR p0 r0 lc o0 ld)) with
    | false => exact ⟨false, fun W hW => stfew_1 (ha.on hW) (hb.on hW) (hc.on hW) (hd.on hW) (by omega) e1 e2, fun h => by cases h⟩
    | true =>
      obtain ⟨x, hx, sx⟩ := few_rt k ha hb e1
      obtain ⟨y, hy, sy⟩ := few_rt k hc hd e2
      exact ⟨decide (x ≤ y), fun W hW => stfew_2 (ha.on hW) (hb.on hW) (hc.on hW) (hd.on hW) (hx.on hW) (hy.on hW) (sx.le hk) (sy.le hk) (by omega) e1 e2 _ rfl, fun h => ⟨x, y, hx, hy, sx, sy, of_decide_eq_true h⟩⟩

end Go.Proofs.YtanpklbconflmaaGreat
