/-
  Several texts in one: H13, IE, KL, KP, L7.
-/
import Derived.Test.YtanpklbconflmaaGreatA6
import Derived.Test.YtanpklbconflmaaGreatA3
import Derived.Test.YtanpklbconflmaaGreatA10
import Derived.Test.YtanpklbconflmaaGreatA11
import Derived.Test.YtanpklbconflmaaGreatA5

/-
  The contracts of the seventh reference: Div.
-/
namespace Go.Proofs.YtanpklbconflmaaGreat
set_option maxRecDepth 100000
set_option maxHeartbeats 8000000
open Go.RowKit
set_option linter.unusedVariables false
set_option linter.unusedSimpArgs false

theorem stdiv_no {w : World} {b0 p0 : Bool} {A0 B0 V0 U0 : Option Addr} {n0 c0 m0 d0 r0 k0 o0 q0 : Nat} {b1 p1 : Bool} {A1 B1 V1 U1 : Option Addr} {n1 c1 m1 d1 r1 k1 o1 q1 : Nat} {x0 y0 : Rat} (h0 : Rt w b0 A0 n0 c0 B0 m0 d0 x0) (g0 : Rt w p0 V0 r0 k0 U0 o0 q0 y0) (s0 : Sz x0 30) (t0 : Sz y0 30) {x1 y1 : Rat} (h1 : Rt w b1 A1 n1 c1 B1 m1 d1 x1) (g1 : Rt w p1 V1 r1 k1 U1 o1 q1 y1) (s1 : Sz x1 30) (t1 : Sz y1 30) (hz : decide (x1 ≤ ((0 : Int) : Rat) ∧ ((0 : Int) : Rat) ≤ y1) = true) :
    Calls Tryz.prog 23 #[.agg #[.bool b0, .slice A0 n0 c0, .slice B0 m0 d0, .bool p0, .slice V0 r0 k0, .slice U0 o0 q0], .agg #[.bool b1, .slice A1 n1 c1, .slice B1 m1 d1, .bool p1, .slice V1 r1 k1, .slice U1 o1 q1]] w (GotV w (.tuple #[.agg #[.bool false, .slice none 0 0, .slice none 0 0, .bool false, .slice none 0 0, .slice none 0 0], .int .i64 4])) := by
  obtain ⟨r0_, q0_⟩ : ∃ r, ((0 : Int) : Rat) = r := ⟨_, rfl⟩
  obtain ⟨r1_, q1_⟩ : ∃ r, ((1 : Int) : Rat) = r := ⟨_, rfl⟩
  have C0 : ∀ W : World, Calls Tryz.prog 36 #[.int .i64 0] W (GotRt W r0_) := fun W => by rw [← q0_]; exact rtof_N W 0 (by unfold I64; omega)
  have C1 : ∀ W : World, Calls Tryz.prog 36 #[.int .i64 1] W (GotRt W r1_) := fun W => by rw [← q1_]; exact rtof_N W 1 (by unfold I64; omega)
  have z0_ : Sz r0_ 1 := by rw [← q0_]; exact sz_of (len_one (by decide))
  have z1_ : Sz r1_ 1 := by rw [← q1_]; exact sz_of (len_one (by decide))
  rw [q0_] at hz
  have HZ0 := Lib.hid hz
  clear q0_ q1_ hz
  have cc := Below.refl w.heap.size w
  go_enter Tryz.func23, Tryz.ntmps23
  go_wp2_with fail
  generalize hv_ : ((w.alloc (.cells #[.bool b0, .slice A0 n0 c0, .slice B0 m0 d0, .bool p0, .slice V0 r0 k0, .slice U0 o0 q0] 29)).alloc (.cells #[.bool b1, .slice A1 n1 c1, .slice B1 m1 d1, .bool p1, .slice V1 r1 k1, .slice U1 o1 q1] 29)).alloc (.cells #[.bool false, .slice none 0 0, .slice none 0 0, .bool false, .slice none 0 0, .slice none 0 0] 29) = v1
  obtain ⟨f0, f1, f2, f3, f4, f5⟩ : Fz6 v1 (w.heap.size + 1 + 1) := by simp [Fz6, ← hv_, go_sem]
  have bA : Below w.heap.size w v1 := by rw [← hv_]; exact ((((Below.refl _ w).alloc (by simp) _).alloc (by simp) _).alloc (by simp <;> omega) _)
  replace h0 := h0.on bA
  replace g0 := g0.on bA
  replace h1 := h1.on bA
  replace g1 := g1.on bA
  replace cc := bK cc bA
  clear bA
  obtain ⟨ka0, ka1, ka2, ka3, ka4, ka5⟩ : Cs6 v1 w.heap.size (.bool b0) (.slice A0 n0 c0) (.slice B0 m0 d0) (.bool p0) (.slice V0 r0 k0) (.slice U0 o0 q0) := by simp [Cs6, ← hv_, go_sem]
  have kal : w.heap.size < v1.heap.size := by simp [← hv_] <;> omega
  obtain ⟨kb0, kb1, kb2, kb3, kb4, kb5⟩ : Cs6 v1 (w.heap.size + 1) (.bool b1) (.slice A1 n1 c1) (.slice B1 m1 d1) (.bool p1) (.slice V1 r1 k1) (.slice U1 o1 q1) := by simp [Cs6, ← hv_, go_sem]
  have kbl : w.heap.size + 1 < v1.heap.size := by simp [← hv_] <;> omega
  obtain ⟨g_0, g_1, g_2, g_3, g_4, g_5⟩ : Cs6 v1 (w.heap.size + 1 + 1) (.bool false) (.slice none 0 0) (.slice none 0 0) (.bool false) (.slice none 0 0) (.slice none 0 0) := by simp [Cs6, ← hv_, go_sem]
  have g_l : w.heap.size + 1 + 1 < v1.heap.size := by simp [← hv_] <;> omega
  clear hv_
  have bD : Below v1.heap.size v1 v1.drew := below_drewN (Below.refl _ v1) 1
  rewrite [fR bD g_l] at f0 f1 f2 f3 f4 f5
  replace h0 := h0.on bD
  replace g0 := g0.on bD
  replace h1 := h1.on bD
  replace g1 := g1.on bD
  rewrite [cR bD kal] at ka0 ka1 ka2 ka3 ka4 ka5
  replace kal := lK bD kal
  rewrite [cR bD kbl] at kb0 kb1 kb2 kb3 kb4 kb5
  replace kbl := lK bD kbl
  rewrite [cR bD g_l] at g_0 g_1 g_2 g_3 g_4 g_5
  replace g_l := lK bD g_l
  replace cc := bK cc bD
  clear bD
  refine wp_region_held_drew (S := fun w' => w'.cell? ⟨w.heap.size, 0, none⟩ = some (.bool b0) ∧ w'.cell? ⟨w.heap.size, 1, none⟩ = some (.slice A0 n0 c0) ∧ w'.cell? ⟨w.heap.size, 2, none⟩ = some (.slice B0 m0 d0) ∧ w'.cell? ⟨w.heap.size, 3, none⟩ = some (.bool p0) ∧ w'.cell? ⟨w.heap.size, 4, none⟩ = some (.slice V0 r0 k0) ∧ w'.cell? ⟨w.heap.size, 5, none⟩ = some (.slice U0 o0 q0) ∧ w'.cell? ⟨w.heap.size + 1, 0, none⟩ = some (.bool b1) ∧ w'.cell? ⟨w.heap.size + 1, 1, none⟩ = some (.slice A1 n1 c1) ∧ w'.cell? ⟨w.heap.size + 1, 2, none⟩ = some (.slice B1 m1 d1) ∧ w'.cell? ⟨w.heap.size + 1, 3, none⟩ = some (.bool p1) ∧ w'.cell? ⟨w.heap.size + 1, 4, none⟩ = some (.slice V1 r1 k1) ∧ w'.cell? ⟨w.heap.size + 1, 5, none⟩ = some (.slice U1 o1 q1)) (by kernel_rfl) ?_ (fun hHeld => ?_)
  · exact ⟨ka0, ka1, ka2, ka3, ka4, ka5, kb0, kb1, kb2, kb3, kb4, kb5⟩
  refine wpAnyH_take (i := 0) (v := ?_) rfl (by kernel_rfl) (by kernel_rfl) (by kernel_rfl) (fun _ _ _ h => h) (Or.inl ⟨by rfl, ?_⟩) hHeld ?_
  rotate_left
  · (intro w hSw; (try dsimp only at hSw); go_simp; (try with_reducible rfl))
  try simp only [Act.put, pT]
  refine wpAnyH_ready (rs := [1]) (by kernel_rfl) (by simp) ?_
  refine AllReadyH.cons rfl (fun K hK => ?_) AllReadyH.nil
  (try simp only [pT])
  rw [if_pos (by rfl)]
  go_simp
  go_at_call 36
  refine (C0 _).mono ?_
  rintro e w2 ⟨bz, Az, nz, cz, Bz, mz, dz, rfl, hz, b⟩
  rewrite [fR b g_l] at f0 f1 f2 f3 f4 f5
  replace h0 := h0.on b
  replace g0 := g0.on b
  replace h1 := h1.on b
  replace g1 := g1.on b
  rewrite [cR b kal] at ka0 ka1 ka2 ka3 ka4 ka5
  replace kal := lK b kal
  rewrite [cR b kbl] at kb0 kb1 kb2 kb3 kb4 kb5
  replace kbl := lK b kbl
  rewrite [cR b g_l] at g_0 g_1 g_2 g_3 g_4 g_5
  replace g_l := lK b g_l
  replace cc := bK cc b
  clear b
  refine hK.out _ _ ?_ (fun hHeld => ?_)
  · exact ⟨ka0, ka1, ka2, ka3, ka4, ka5, kb0, kb1, kb2, kb3, kb4, kb5⟩
  clear hK K
  try simp only [Act.put, pT]
  refine wpAnyH_ready (rs := [2]) (by kernel_rfl) (by simp) ?_
  refine AllReadyH.cons rfl (fun K hK => ?_) AllReadyH.nil
  (try simp only [pT])
  rw [if_pos (by rfl)]
  go_simp
  go_at_call 19
  refine (sthas_N h1 g1 (s1.le (by omega)) (t1.le (by omega)) hz (z0_.le (by omega)) true HZ0.out).mono ?_
  rintro e w3 ⟨rfl, b⟩
  rewrite [fR b g_l] at f0 f1 f2 f3 f4 f5
  replace h0 := h0.on b
  replace g0 := g0.on b
  replace h1 := h1.on b
  replace g1 := g1.on b
  replace hz := hz.on b
  rewrite [cR b kal] at ka0 ka1 ka2 ka3 ka4 ka5
  replace kal := lK b kal
  rewrite [cR b kbl] at kb0 kb1 kb2 kb3 kb4 kb5
  replace kbl := lK b kbl
  rewrite [cR b g_l] at g_0 g_1 g_2 g_3 g_4 g_5
  replace g_l := lK b g_l
  replace cc := bK cc b
  clear b
  refine hK.out _ _ ?_ (fun hHeld => ?_)
  · exact ⟨ka0, ka1, ka2, ka3, ka4, ka5, kb0, kb1, kb2, kb3, kb4, kb5⟩
  clear hK K
  try simp only [Act.put, pT]
  refine wpAnyH_done (by kernel_rfl) ?_ _
  clear hHeld
  go_wp2_with fail
  exact bodyPost_ret (v := .tuple #[.agg #[.bool false, .slice none 0 0, .slice none 0 0, .bool false, .slice none 0 0, .slice none 0 0], .int .i64 4]) (by simp [results, Tryz.results23, go_sem, g_0, g_1, g_2, g_3, g_4, g_5]) rfl ⟨rfl, below_putS cc (by omega) _ _ _ _ _ _⟩

theorem stdiv_N {w : World} {b0 p0 : Bool} {A0 B0 V0 U0 : Option Addr} {n0 c0 m0 d0 r0 k0 o0 q0 : Nat} {b1 p1 : Bool} {A1 B1 V1 U1 : Option Addr} {n1 c1 m1 d1 r1 k1 o1 q1 : Nat} {x0 y0 : Rat} (h0 : Rt w b0 A0 n0 c0 B0 m0 d0 x0) (g0 : Rt w p0 V0 r0 k0 U0 o0 q0 y0) (s0 : Sz x0 30) (t0 : Sz y0 30) {x1 y1 : Rat} (h1 : Rt w b1 A1 n1 c1 B1 m1 d1 x1) (g1 : Rt w p1 V1 r1 k1 U1 o1 q1 y1) (s1 : Sz x1 30) (t1 : Sz y1 30) (hx : x1.num ≠ 0) (hy : y1.num ≠ 0) (hz : decide (x1 ≤ ((0 : Int) : Rat) ∧ ((0 : Int) : Rat) ≤ y1) = false) :
    Calls Tryz.prog 23 #[.agg #[.bool b0, .slice A0 n0 c0, .slice B0 m0 d0, .bool p0, .slice V0 r0 k0, .slice U0 o0 q0], .agg #[.bool b1, .slice A1 n1 c1, .slice B1 m1 d1, .bool p1, .slice V1 r1 k1, .slice U1 o1 q1]] w (GotSp w (mlo x0 y0 (((1 : Int) : Rat) / y1) (((1 : Int) : Rat) / x1)) (mhi x0 y0 (((1 : Int) : Rat) / y1) (((1 : Int) : Rat) / x1)) 0) := by
  obtain ⟨r0_, q0_⟩ : ∃ r, ((0 : Int) : Rat) = r := ⟨_, rfl⟩
  obtain ⟨r1_, q1_⟩ : ∃ r, ((1 : Int) : Rat) = r := ⟨_, rfl⟩
  have C0 : ∀ W : World, Calls Tryz.prog 36 #[.int .i64 0] W (GotRt W r0_) := fun W => by rw [← q0_]; exact rtof_N W 0 (by unfold I64; omega)
  have C1 : ∀ W : World, Calls Tryz.prog 36 #[.int .i64 1] W (GotRt W r1_) := fun W => by rw [← q1_]; exact rtof_N W 1 (by unfold I64; omega)
  have z0_ : Sz r0_ 1 := by rw [← q0_]; exact sz_of (len_one (by decide))
  have z1_ : Sz r1_ 1 := by rw [← q1_]; exact sz_of (len_one (by decide))
  rw [q0_] at hz
  have HZ0 := Lib.hid hz
  rw [q1_]
  have sv := z1_.div t1 hy
  have sw := z1_.div s1 hx
  clear q0_ q1_ hz
  have cc := Below.refl w.heap.size w
  go_enter Tryz.func23, Tryz.ntmps23
  go_wp2_with fail
  generalize hv_ : ((w.alloc (.cells #[.bool b0, .slice A0 n0 c0, .slice B0 m0 d0, .bool p0, .slice V0 r0 k0, .slice U0 o0 q0] 29)).alloc (.cells #[.bool b1, .slice A1 n1 c1, .slice B1 m1 d1, .bool p1, .slice V1 r1 k1, .slice U1 o1 q1] 29)).alloc (.cells #[.bool false, .slice none 0 0, .slice none 0 0, .bool false, .slice none 0 0, .slice none 0 0] 29) = v1
  obtain ⟨f0, f1, f2, f3, f4, f5⟩ : Fz6 v1 (w.heap.size + 1 + 1) := by simp [Fz6, ← hv_, go_sem]
  have bA : Below w.heap.size w v1 := by rw [← hv_]; exact ((((Below.refl _ w).alloc (by simp) _).alloc (by simp) _).alloc (by simp <;> omega) _)
  replace h0 := h0.on bA
  replace g0 := g0.on bA
  replace h1 := h1.on bA
  replace g1 := g1.on bA
  replace cc := bK cc bA
  clear bA
  obtain ⟨ka0, ka1, ka2, ka3, ka4, ka5⟩ : Cs6 v1 w.heap.size (.bool b0) (.slice A0 n0 c0) (.slice B0 m0 d0) (.bool p0) (.slice V0 r0 k0) (.slice U0 o0 q0) := by simp [Cs6, ← hv_, go_sem]
  have kal : w.heap.size < v1.heap.size := by simp [← hv_] <;> omega
  obtain ⟨kb0, kb1, kb2, kb3, kb4, kb5⟩ : Cs6 v1 (w.heap.size + 1) (.bool b1) (.slice A1 n1 c1) (.slice B1 m1 d1) (.bool p1) (.slice V1 r1 k1) (.slice U1 o1 q1) := by simp [Cs6, ← hv_, go_sem]
  have kbl : w.heap.size + 1 < v1.heap.size := by simp [← hv_] <;> omega
  obtain ⟨g_0, g_1, g_2, g_3, g_4, g_5⟩ : Cs6 v1 (w.heap.size + 1 + 1) (.bool false) (.slice none 0 0) (.slice none 0 0) (.bool false) (.slice none 0 0) (.slice none 0 0) := by simp [Cs6, ← hv_, go_sem]
  have g_l : w.heap.size + 1 + 1 < v1.heap.size := by simp [← hv_] <;> omega
  clear hv_
  have bD : Below v1.heap.size v1 v1.drew := below_drewN (Below.refl _ v1) 1
  rewrite [fR bD g_l] at f0 f1 f2 f3 f4 f5
  replace h0 := h0.on bD
  replace g0 := g0.on bD
  replace h1 := h1.on bD
  replace g1 := g1.on bD
  rewrite [cR bD kal] at ka0 ka1 ka2 ka3 ka4 ka5
  replace kal := lK bD kal
  rewrite [cR bD kbl] at kb0 kb1 kb2 kb3 kb4 kb5
  replace kbl := lK bD kbl
  rewrite [cR bD g_l] at g_0 g_1 g_2 g_3 g_4 g_5
  replace g_l := lK bD g_l
  replace cc := bK cc bD
  clear bD
  refine wp_region_held_drew (S := fun w' => w'.cell? ⟨w.heap.size, 0, none⟩ = some (.bool b0) ∧ w'.cell? ⟨w.heap.size, 1, none⟩ = some (.slice A0 n0 c0) ∧ w'.cell? ⟨w.heap.size, 2, none⟩ = some (.slice B0 m0 d0) ∧ w'.cell? ⟨w.heap.size, 3, none⟩ = some (.bool p0) ∧ w'.cell? ⟨w.heap.size, 4, none⟩ = some (.slice V0 r0 k0) ∧ w'.cell? ⟨w.heap.size, 5, none⟩ = some (.slice U0 o0 q0) ∧ w'.cell? ⟨w.heap.size + 1, 0, none⟩ = some (.bool b1) ∧ w'.cell? ⟨w.heap.size + 1, 1, none⟩ = some (.slice A1 n1 c1) ∧ w'.cell? ⟨w.heap.size + 1, 2, none⟩ = some (.slice B1 m1 d1) ∧ w'.cell? ⟨w.heap.size + 1, 3, none⟩ = some (.bool p1) ∧ w'.cell? ⟨w.heap.size + 1, 4, none⟩ = some (.slice V1 r1 k1) ∧ w'.cell? ⟨w.heap.size + 1, 5, none⟩ = some (.slice U1 o1 q1)) (by kernel_rfl) ?_ (fun hHeld => ?_)
  · exact ⟨ka0, ka1, ka2, ka3, ka4, ka5, kb0, kb1, kb2, kb3, kb4, kb5⟩
  refine wpAnyH_take (i := 0) (v := ?_) rfl (by kernel_rfl) (by kernel_rfl) (by kernel_rfl) (fun _ _ _ h => h) (Or.inl ⟨by rfl, ?_⟩) hHeld ?_
  rotate_left
  · (intro w hSw; (try dsimp only at hSw); go_simp; (try with_reducible rfl))
  try simp only [Act.put, pT]
  refine wpAnyH_ready (rs := [1]) (by kernel_rfl) (by simp) ?_
  refine AllReadyH.cons rfl (fun K hK => ?_) AllReadyH.nil
  (try simp only [pT])
  rw [if_pos (by rfl)]
  go_simp
  go_at_call 36
  refine (C0 _).mono ?_
  rintro e w2 ⟨bz, Az, nz, cz, Bz, mz, dz, rfl, hz, b⟩
  rewrite [fR b g_l] at f0 f1 f2 f3 f4 f5
  replace h0 := h0.on b
  replace g0 := g0.on b
  replace h1 := h1.on b
  replace g1 := g1.on b
  rewrite [cR b kal] at ka0 ka1 ka2 ka3 ka4 ka5
  replace kal := lK b kal
  rewrite [cR b kbl] at kb0 kb1 kb2 kb3 kb4 kb5
  replace kbl := lK b kbl
  rewrite [cR b g_l] at g_0 g_1 g_2 g_3 g_4 g_5
  replace g_l := lK b g_l
  replace cc := bK cc b
  clear b
  refine hK.out _ _ ?_ (fun hHeld => ?_)
  · exact ⟨ka0, ka1, ka2, ka3, ka4, ka5, kb0, kb1, kb2, kb3, kb4, kb5⟩
  clear hK K
  try simp only [Act.put, pT]
  refine wpAnyH_ready (rs := [2]) (by kernel_rfl) (by simp) ?_
  refine AllReadyH.cons rfl (fun K hK => ?_) AllReadyH.nil
  (try simp only [pT])
  rw [if_pos (by rfl)]
  go_simp
  go_at_call 19
  refine (sthas_N h1 g1 (s1.le (by omega)) (t1.le (by omega)) hz (z0_.le (by omega)) false HZ0.out).mono ?_
  rintro e w3 ⟨rfl, b⟩
  rewrite [fR b g_l] at f0 f1 f2 f3 f4 f5
  replace h0 := h0.on b
  replace g0 := g0.on b
  replace h1 := h1.on b
  replace g1 := g1.on b
  replace hz := hz.on b
  rewrite [cR b kal] at ka0 ka1 ka2 ka3 ka4 ka5
  replace kal := lK b kal
  rewrite [cR b kbl] at kb0 kb1 kb2 kb3 kb4 kb5
  replace kbl := lK b kbl
  rewrite [cR b g_l] at g_0 g_1 g_2 g_3 g_4 g_5
  replace g_l := lK b g_l
  replace cc := bK cc b
  clear b
  refine hK.out _ _ ?_ (fun hHeld => ?_)
  · exact ⟨ka0, ka1, ka2, ka3, ka4, ka5, kb0, kb1, kb2, kb3, kb4, kb5⟩
  clear hK K
  try simp only [Act.put, pT]
  refine wpAnyH_done (by kernel_rfl) ?_ _
  clear hHeld
  clear hz
  go_upto_region 3 with fail
  go_cut [6, 7] (fun u ue wx => ∃ (g_ : Nat) (b_ : Bool) (A_ : Option Addr) (n_ c_ : Nat) (B_ : Option Addr) (m_ d_ : Nat), u = .pointer (some ⟨g_, 0, none⟩) ∧ ue = .int .i64 0 ∧ LoneR w3 wx g_ b_ A_ n_ c_ B_ m_ d_ (r1_ / y1))
  case first =>
    have BB0 : Below w3.heap.size w3 w3.drew := below_drewN (Below.refl _ w3) 1
    have BB1 : Below w3.heap.size w3 (w3.alloc (.cells #[.bool false, .slice none 0 0, .slice none 0 0] 27)).drew := below_drewN (below_one _ _) 1
    go_region_held3 (fun w' => w'.cell? ⟨w.heap.size, 0, none⟩ = some (.bool b0) ∧ w'.cell? ⟨w.heap.size, 1, none⟩ = some (.slice A0 n0 c0) ∧ w'.cell? ⟨w.heap.size, 2, none⟩ = some (.slice B0 m0 d0) ∧ w'.cell? ⟨w.heap.size, 3, none⟩ = some (.bool p0) ∧ w'.cell? ⟨w.heap.size, 4, none⟩ = some (.slice V0 r0 k0) ∧ w'.cell? ⟨w.heap.size, 5, none⟩ = some (.slice U0 o0 q0) ∧ w'.cell? ⟨w.heap.size + 1, 0, none⟩ = some (.bool b1) ∧ w'.cell? ⟨w.heap.size + 1, 1, none⟩ = some (.slice A1 n1 c1) ∧ w'.cell? ⟨w.heap.size + 1, 2, none⟩ = some (.slice B1 m1 d1) ∧ w'.cell? ⟨w.heap.size + 1, 3, none⟩ = some (.bool p1) ∧ w'.cell? ⟨w.heap.size + 1, 4, none⟩ = some (.slice V1 r1 k1) ∧ w'.cell? ⟨w.heap.size + 1, 5, none⟩ = some (.slice U1 o1 q1) ∧ w'.cell? ⟨w.heap.size + 1 + 1, 0, none⟩ = some (.bool false) ∧ w'.cell? ⟨w.heap.size + 1 + 1, 1, none⟩ = some (.slice none 0 0) ∧ w'.cell? ⟨w.heap.size + 1 + 1, 2, none⟩ = some (.slice none 0 0) ∧ w'.cell? ⟨w.heap.size + 1 + 1, 3, none⟩ = some (.bool false) ∧ w'.cell? ⟨w.heap.size + 1 + 1, 4, none⟩ = some (.slice none 0 0) ∧ w'.cell? ⟨w.heap.size + 1 + 1, 5, none⟩ = some (.slice none 0 0))
      (first | with_reducible exact ⟨(cK qq ka0 kal), (cK qq ka1 kal), (cK qq ka2 kal), (cK qq ka3 kal), (cK qq ka4 kal), (cK qq ka5 kal), (cK qq kb0 kbl), (cK qq kb1 kbl), (cK qq kb2 kbl), (cK qq kb3 kbl), (cK qq kb4 kbl), (cK qq kb5 kbl), (cK qq g_0 g_l), (cK qq g_1 g_l), (cK qq g_2 g_l), (cK qq g_3 g_l), (cK qq g_4 g_l), (cK qq g_5 g_l)⟩ | with_reducible exact ⟨keep_alloc ((cK qq ka0 kal)), keep_alloc ((cK qq ka1 kal)), keep_alloc ((cK qq ka2 kal)), keep_alloc ((cK qq ka3 kal)), keep_alloc ((cK qq ka4 kal)), keep_alloc ((cK qq ka5 kal)), keep_alloc ((cK qq kb0 kbl)), keep_alloc ((cK qq kb1 kbl)), keep_alloc ((cK qq kb2 kbl)), keep_alloc ((cK qq kb3 kbl)), keep_alloc ((cK qq kb4 kbl)), keep_alloc ((cK qq kb5 kbl)), keep_alloc ((cK qq g_0 g_l)), keep_alloc ((cK qq g_1 g_l)), keep_alloc ((cK qq g_2 g_l)), keep_alloc ((cK qq g_3 g_l)), keep_alloc ((cK qq g_4 g_l)), keep_alloc ((cK qq g_5 g_l))⟩ | with_reducible exact ⟨((cell_putR (by omega)).trans (cK qq ka0 kal)), ((cell_putR (by omega)).trans (cK qq ka1 kal)), ((cell_putR (by omega)).trans (cK qq ka2 kal)), ((cell_putR (by omega)).trans (cK qq ka3 kal)), ((cell_putR (by omega)).trans (cK qq ka4 kal)), ((cell_putR (by omega)).trans (cK qq ka5 kal)), ((cell_putR (by omega)).trans (cK qq kb0 kbl)), ((cell_putR (by omega)).trans (cK qq kb1 kbl)), ((cell_putR (by omega)).trans (cK qq kb2 kbl)), ((cell_putR (by omega)).trans (cK qq kb3 kbl)), ((cell_putR (by omega)).trans (cK qq kb4 kbl)), ((cell_putR (by omega)).trans (cK qq kb5 kbl)), ((cell_putR (by omega)).trans (cK qq g_0 g_l)), ((cell_putR (by omega)).trans (cK qq g_1 g_l)), ((cell_putR (by omega)).trans (cK qq g_2 g_l)), ((cell_putR (by omega)).trans (cK qq g_3 g_l)), ((cell_putR (by omega)).trans (cK qq g_4 g_l)), ((cell_putR (by omega)).trans (cK qq g_5 g_l))⟩ | go_keep)
      (first
        | (go_at_call 36; (with_reducible refine (C1 _).mono ?_); rintro e y1 ⟨be, Ae, ne, ce, Be, me, de, rfl, he, q⟩; have qq := BB0.trans (q.mono BB0.size); have h0' := (h0.on BB0).on q; have g0' := (g0.on BB0).on q; have h1' := (h1.on BB0).on q; have g1' := (g1.on BB0).on q; have qs1 := qq.size; clear q)
        | (go_at_call 36; (with_reducible refine (C1 _).mono ?_); rintro e y1 ⟨be, Ae, ne, ce, Be, me, de, rfl, he, q⟩; have qq := BB1.trans (q.mono BB1.size); have h0' := (h0.on BB1).on q; have g0' := (g0.on BB1).on q; have h1' := (h1.on BB1).on q; have g1' := (g1.on BB1).on q; have qs1 := qq.size; obtain ⟨bo_0, fo_0, bo_1, fo_1, bo_2, fo_2, ol⟩ := zb3 (g := w3.heap.size) q (by simp) (by simp [Cs3, go_sem]) (by simp [Fz3, go_sem]); clear q)
        | (go_at_call 35; have up := Below.refl y1.heap.size y1; (with_reducible refine (rtdiv_N (he.on up) (z1_.le (by omega)) (g1'.on up) (t1.le (by omega)) hy).mono ?_); rintro e y2 ⟨bo, Ao, no, co, Bo, mo, do_, rfl, o, q⟩; replace qq := uK qq up q; replace h0' := (h0'.on up).on q; replace g0' := (g0'.on up).on q; replace h1' := (h1'.on up).on q; replace g1' := (g1'.on up).on q; replace he := (he.on up).on q; (try (rewrite [cR up ol, cR q (lK up ol)] at bo_0 bo_1 bo_2; rewrite [fR up ol, fR q (lK up ol)] at fo_0 fo_1 fo_2; replace ol := lK q (lK up ol))); have qs2 := qq.size; clear q up)
        | (go_at_call 35; have up := below_one y1 (.cells #[.bool false, .slice none 0 0, .slice none 0 0] 27); (with_reducible refine (rtdiv_N (he.on up) (z1_.le (by omega)) (g1'.on up) (t1.le (by omega)) hy).mono ?_); rintro e y2 ⟨bo, Ao, no, co, Bo, mo, do_, rfl, o, q⟩; replace qq := uK qq up q; replace h0' := (h0'.on up).on q; replace g0' := (g0'.on up).on q; replace h1' := (h1'.on up).on q; replace g1' := (g1'.on up).on q; replace he := (he.on up).on q; (try (rewrite [cR up ol, cR q (lK up ol)] at bo_0 bo_1 bo_2; rewrite [fR up ol, fR q (lK up ol)] at fo_0 fo_1 fo_2; replace ol := lK q (lK up ol))); have qs2 := qq.size; obtain ⟨bo_0, fo_0, bo_1, fo_1, bo_2, fo_2, ol⟩ := zb3 (g := y1.heap.size) q (by simp) (by simp [Cs3, go_sem]) (by simp [Fz3, go_sem]); clear q up))
    all_goals (go_wp2_with fail; go_meet)
    all_goals refine ⟨_, bo, Ao, no, co, Bo, mo, do_, rfl, rfl, ?_⟩
    all_goals first
      | with_reducible exact loneRA o qq _
      | with_reducible exact loneRB bo_0 bo_1 bo_2 o qq (by omega)
  case rest =>
    obtain ⟨gua, bua, Aua, nua, cua, Bua, mua, dua, rfl, rfl, ⟨ua0, ua1, ua2⟩, hua, b, uage⟩ := hcut
    have ual := cell_lt ua0
    simp only at ual
    have uaqka : w.heap.size < gua := Nat.lt_of_lt_of_le kal uage
    have uaqkb : w.heap.size + 1 < gua := Nat.lt_of_lt_of_le kbl uage
    have uaqg_ : w.heap.size + 1 + 1 < gua := Nat.lt_of_lt_of_le g_l uage
    rewrite [fR b g_l] at f0 f1 f2 f3 f4 f5
    replace h0 := h0.on b
    replace g0 := g0.on b
    replace h1 := h1.on b
    replace g1 := g1.on b
    rewrite [cR b kal] at ka0 ka1 ka2 ka3 ka4 ka5
    replace kal := lK b kal
    rewrite [cR b kbl] at kb0 kb1 kb2 kb3 kb4 kb5
    replace kbl := lK b kbl
    rewrite [cR b g_l] at g_0 g_1 g_2 g_3 g_4 g_5
    replace g_l := lK b g_l
    replace cc := bK cc b
    clear b
    go_upto_region 4 with fail
    go_cut [8, 9] (fun u ue wx => ∃ (g_ : Nat) (b_ : Bool) (A_ : Option Addr) (n_ c_ : Nat) (B_ : Option Addr) (m_ d_ : Nat), u = .pointer (some ⟨g_, 0, none⟩) ∧ ue = .int .i64 0 ∧ LoneR wc wx g_ b_ A_ n_ c_ B_ m_ d_ (r1_ / x1))
    case first =>
      have BB0 : Below wc.heap.size wc wc.drew := below_drewN (Below.refl _ wc) 1
      have BB1 : Below wc.heap.size wc (wc.alloc (.cells #[.bool false, .slice none 0 0, .slice none 0 0] 27)).drew := below_drewN (below_one _ _) 1
      go_region_held3 (fun w' => w'.cell? ⟨w.heap.size, 0, none⟩ = some (.bool b0) ∧ w'.cell? ⟨w.heap.size, 1, none⟩ = some (.slice A0 n0 c0) ∧ w'.cell? ⟨w.heap.size, 2, none⟩ = some (.slice B0 m0 d0) ∧ w'.cell? ⟨w.heap.size, 3, none⟩ = some (.bool p0) ∧ w'.cell? ⟨w.heap.size, 4, none⟩ = some (.slice V0 r0 k0) ∧ w'.cell? ⟨w.heap.size, 5, none⟩ = some (.slice U0 o0 q0) ∧ w'.cell? ⟨w.heap.size + 1, 0, none⟩ = some (.bool b1) ∧ w'.cell? ⟨w.heap.size + 1, 1, none⟩ = some (.slice A1 n1 c1) ∧ w'.cell? ⟨w.heap.size + 1, 2, none⟩ = some (.slice B1 m1 d1) ∧ w'.cell? ⟨w.heap.size + 1, 3, none⟩ = some (.bool p1) ∧ w'.cell? ⟨w.heap.size + 1, 4, none⟩ = some (.slice V1 r1 k1) ∧ w'.cell? ⟨w.heap.size + 1, 5, none⟩ = some (.slice U1 o1 q1) ∧ w'.cell? ⟨w.heap.size + 1 + 1, 0, none⟩ = some (.bool false) ∧ w'.cell? ⟨w.heap.size + 1 + 1, 1, none⟩ = some (.slice none 0 0) ∧ w'.cell? ⟨w.heap.size + 1 + 1, 2, none⟩ = some (.slice none 0 0) ∧ w'.cell? ⟨w.heap.size + 1 + 1, 3, none⟩ = some (.bool false) ∧ w'.cell? ⟨w.heap.size + 1 + 1, 4, none⟩ = some (.slice none 0 0) ∧ w'.cell? ⟨w.heap.size + 1 + 1, 5, none⟩ = some (.slice none 0 0) ∧ w'.cell? ⟨gua, 0, none⟩ = some (.bool bua) ∧ w'.cell? ⟨gua, 1, none⟩ = some (.slice Aua nua cua) ∧ w'.cell? ⟨gua, 2, none⟩ = some (.slice Bua mua dua))
        (first | with_reducible exact ⟨(cK qq ka0 kal), (cK qq ka1 kal), (cK qq ka2 kal), (cK qq ka3 kal), (cK qq ka4 kal), (cK qq ka5 kal), (cK qq kb0 kbl), (cK qq kb1 kbl), (cK qq kb2 kbl), (cK qq kb3 kbl), (cK qq kb4 kbl), (cK qq kb5 kbl), (cK qq g_0 g_l), (cK qq g_1 g_l), (cK qq g_2 g_l), (cK qq g_3 g_l), (cK qq g_4 g_l), (cK qq g_5 g_l), (cK qq ua0 ual), (cK qq ua1 ual), (cK qq ua2 ual)⟩ | with_reducible exact ⟨keep_alloc ((cK qq ka0 kal)), keep_alloc ((cK qq ka1 kal)), keep_alloc ((cK qq ka2 kal)), keep_alloc ((cK qq ka3 kal)), keep_alloc ((cK qq ka4 kal)), keep_alloc ((cK qq ka5 kal)), keep_alloc ((cK qq kb0 kbl)), keep_alloc ((cK qq kb1 kbl)), keep_alloc ((cK qq kb2 kbl)), keep_alloc ((cK qq kb3 kbl)), keep_alloc ((cK qq kb4 kbl)), keep_alloc ((cK qq kb5 kbl)), keep_alloc ((cK qq g_0 g_l)), keep_alloc ((cK qq g_1 g_l)), keep_alloc ((cK qq g_2 g_l)), keep_alloc ((cK qq g_3 g_l)), keep_alloc ((cK qq g_4 g_l)), keep_alloc ((cK qq g_5 g_l)), keep_alloc ((cK qq ua0 ual)), keep_alloc ((cK qq ua1 ual)), keep_alloc ((cK qq ua2 ual))⟩ | with_reducible exact ⟨((cell_putR (by omega)).trans (cK qq ka0 kal)), ((cell_putR (by omega)).trans (cK qq ka1 kal)), ((cell_putR (by omega)).trans (cK qq ka2 kal)), ((cell_putR (by omega)).trans (cK qq ka3 kal)), ((cell_putR (by omega)).trans (cK qq ka4 kal)), ((cell_putR (by omega)).trans (cK qq ka5 kal)), ((cell_putR (by omega)).trans (cK qq kb0 kbl)), ((cell_putR (by omega)).trans (cK qq kb1 kbl)), ((cell_putR (by omega)).trans (cK qq kb2 kbl)), ((cell_putR (by omega)).trans (cK qq kb3 kbl)), ((cell_putR (by omega)).trans (cK qq kb4 kbl)), ((cell_putR (by omega)).trans (cK qq kb5 kbl)), ((cell_putR (by omega)).trans (cK qq g_0 g_l)), ((cell_putR (by omega)).trans (cK qq g_1 g_l)), ((cell_putR (by omega)).trans (cK qq g_2 g_l)), ((cell_putR (by omega)).trans (cK qq g_3 g_l)), ((cell_putR (by omega)).trans (cK qq g_4 g_l)), ((cell_putR (by omega)).trans (cK qq g_5 g_l)), ((cell_putR (by omega)).trans (cK qq ua0 ual)), ((cell_putR (by omega)).trans (cK qq ua1 ual)), ((cell_putR (by omega)).trans (cK qq ua2 ual))⟩ | go_keep)
        (first
          | (go_at_call 36; (with_reducible refine (C1 _).mono ?_); rintro e y1 ⟨be, Ae, ne, ce, Be, me, de, rfl, he, q⟩; have qq := BB0.trans (q.mono BB0.size); have h0' := (h0.on BB0).on q; have g0' := (g0.on BB0).on q; have h1' := (h1.on BB0).on q; have g1' := (g1.on BB0).on q; have hua' := (hua.on BB0).on q; have qs1 := qq.size; clear q)
          | (go_at_call 36; (with_reducible refine (C1 _).mono ?_); rintro e y1 ⟨be, Ae, ne, ce, Be, me, de, rfl, he, q⟩; have qq := BB1.trans (q.mono BB1.size); have h0' := (h0.on BB1).on q; have g0' := (g0.on BB1).on q; have h1' := (h1.on BB1).on q; have g1' := (g1.on BB1).on q; have hua' := (hua.on BB1).on q; have qs1 := qq.size; obtain ⟨bo_0, fo_0, bo_1, fo_1, bo_2, fo_2, ol⟩ := zb3 (g := wc.heap.size) q (by simp) (by simp [Cs3, go_sem]) (by simp [Fz3, go_sem]); clear q)
          | (go_at_call 35; have up := Below.refl y1.heap.size y1; (with_reducible refine (rtdiv_N (he.on up) (z1_.le (by omega)) (h1'.on up) (s1.le (by omega)) hx).mono ?_); rintro e y2 ⟨bo, Ao, no, co, Bo, mo, do_, rfl, o, q⟩; replace qq := uK qq up q; replace h0' := (h0'.on up).on q; replace g0' := (g0'.on up).on q; replace h1' := (h1'.on up).on q; replace g1' := (g1'.on up).on q; replace hua' := (hua'.on up).on q; replace he := (he.on up).on q; (try (rewrite [cR up ol, cR q (lK up ol)] at bo_0 bo_1 bo_2; rewrite [fR up ol, fR q (lK up ol)] at fo_0 fo_1 fo_2; replace ol := lK q (lK up ol))); have qs2 := qq.size; clear q up)
          | (go_at_call 35; have up := below_one y1 (.cells #[.bool false, .slice none 0 0, .slice none 0 0] 27); (with_reducible refine (rtdiv_N (he.on up) (z1_.le (by omega)) (h1'.on up) (s1.le (by omega)) hx).mono ?_); rintro e y2 ⟨bo, Ao, no, co, Bo, mo, do_, rfl, o, q⟩; replace qq := uK qq up q; replace h0' := (h0'.on up).on q; replace g0' := (g0'.on up).on q; replace h1' := (h1'.on up).on q; replace g1' := (g1'.on up).on q; replace hua' := (hua'.on up).on q; replace he := (he.on up).on q; (try (rewrite [cR up ol, cR q (lK up ol)] at bo_0 bo_1 bo_2; rewrite [fR up ol, fR q (lK up ol)] at fo_0 fo_1 fo_2; replace ol := lK q (lK up ol))); have qs2 := qq.size; obtain ⟨bo_0, fo_0, bo_1, fo_1, bo_2, fo_2, ol⟩ := zb3 (g := y1.heap.size) q (by simp) (by simp [Cs3, go_sem]) (by simp [Fz3, go_sem]); clear q up))
      all_goals (go_wp2_with fail; go_meet)
      all_goals refine ⟨_, bo, Ao, no, co, Bo, mo, do_, rfl, rfl, ?_⟩
      all_goals first
        | with_reducible exact loneRA o qq _
        | with_reducible exact loneRB bo_0 bo_1 bo_2 o qq (by omega)
    case rest =>
      obtain ⟨gub, bub, Aub, nub, cub, Bub, mub, dub, rfl, rfl, ⟨ub0, ub1, ub2⟩, hub, b, ubge⟩ := hcut
      have ubl := cell_lt ub0
      simp only at ubl
      have ubqka : w.heap.size < gub := Nat.lt_of_lt_of_le kal ubge
      have ubqkb : w.heap.size + 1 < gub := Nat.lt_of_lt_of_le kbl ubge
      have ubqg_ : w.heap.size + 1 + 1 < gub := Nat.lt_of_lt_of_le g_l ubge
      have ubqua : gua < gub := Nat.lt_of_lt_of_le ual ubge
      rewrite [fR b g_l] at f0 f1 f2 f3 f4 f5
      replace h0 := h0.on b
      replace g0 := g0.on b
      replace h1 := h1.on b
      replace g1 := g1.on b
      replace hua := hua.on b
      rewrite [cR b kal] at ka0 ka1 ka2 ka3 ka4 ka5
      replace kal := lK b kal
      rewrite [cR b kbl] at kb0 kb1 kb2 kb3 kb4 kb5
      replace kbl := lK b kbl
      rewrite [cR b g_l] at g_0 g_1 g_2 g_3 g_4 g_5
      replace g_l := lK b g_l
      rewrite [cR b ual] at ua0 ua1 ua2
      replace ual := lK b ual
      replace cc := bK cc b
      clear b
      go_wp2_with fail
      refine (stmul_N h0 g0 (s0.le (by omega)) (t0.le (by omega)) hua hub (sv.le (by omega)) (sw.le (by omega))).mono ?_
      rintro e w4 ⟨bz, Az, nz, cz, Bz, mz, dz, pz, Vz, rz, kz, Uz, oz, qz, rfl, ⟨hz, gz⟩, b⟩
      rewrite [fR b g_l] at f0 f1 f2 f3 f4 f5
      replace h0 := h0.on b
      replace g0 := g0.on b
      replace h1 := h1.on b
      replace g1 := g1.on b
      replace hua := hua.on b
      replace hub := hub.on b
      rewrite [cR b kal] at ka0 ka1 ka2 ka3 ka4 ka5
      replace kal := lK b kal
      rewrite [cR b kbl] at kb0 kb1 kb2 kb3 kb4 kb5
      replace kbl := lK b kbl
      rewrite [cR b g_l] at g_0 g_1 g_2 g_3 g_4 g_5
      replace g_l := lK b g_l
      rewrite [cR b ual] at ua0 ua1 ua2
      replace ual := lK b ual
      rewrite [cR b ubl] at ub0 ub1 ub2
      replace ubl := lK b ubl
      replace cc := bK cc b
      clear b
      have hb_ : Held w4 (w.heap.size + 1 + 1) := held6 g_0 g_1 g_2 g_3 g_4 g_5
      have HL : Hid (Rt (putS w4 (w.heap.size + 1 + 1) (.bool bz) (.slice Az nz cz) (.slice Bz mz dz) (.bool pz) (.slice Vz rz kz) (.slice Uz oz qz)) bz Az nz cz Bz mz dz (mlo x0 y0 (r1_ / y1) (r1_ / x1))) := Lib.hid (Rt.putS hz hb_ _ _)
      have HH : Hid (Rt (putS w4 (w.heap.size + 1 + 1) (.bool bz) (.slice Az nz cz) (.slice Bz mz dz) (.bool pz) (.slice Vz rz kz) (.slice Uz oz qz)) pz Vz rz kz Uz oz qz (mhi x0 y0 (r1_ / y1) (r1_ / x1))) := Lib.hid (Rt.putS gz hb_ _ _)
      go_wp2_with fail
      refine bodyPost_ret (v := .tuple #[.agg #[.bool bz, .slice Az nz cz, .slice Bz mz dz, .bool pz, .slice Vz rz kz, .slice Uz oz qz], .int .i64 0]) (by simp [results, Tryz.results23, go_sem, g_0, g_1, g_2, g_3, g_4, g_5]) rfl ⟨_, _, _, _, _, _, _, _, _, _, _, _, _, _, rfl, ⟨HL.out, HH.out⟩, below_putS cc (by omega) _ _ _ _ _ _⟩

end Go.Proofs.YtanpklbconflmaaGreat

/-
  The contracts of ival: Sqrt.
-/
namespace Go.Proofs.YtanpklbconflmaaGreat
set_option maxRecDepth 100000
set_option maxHeartbeats 8000000
open Go.RowKit
set_option linter.unusedVariables false
set_option linter.unusedSimpArgs false

theorem below_nought {x : Rat} : x < ((0 : Int) : Rat) ↔ x.num < 0 := by
  have h := Rat.num_nonneg (q := x)
  have e : ((0 : Int) : Rat) = 0 := rfl
  rw [e]
  constructor
  · intro k
    have : ¬ 0 ≤ x := by grind
    rw [← h] at this
    omega
  · intro k
    have : ¬ 0 ≤ x.num := by omega
    rw [h] at this
    grind
theorem num_up {x y : Rat} (h : x ≤ y) (hx : ¬ x.num < 0) : ¬ y.num < 0 := by
  rw [← below_nought] at hx ⊢
  grind
theorem bak_ge_iff (n : Int) (x : Rat) (k : Nat) : x ≤ bak n k ↔ cei x k ≤ n := by
  have h := bak_le_iff (-n) (-x) k
  rw [← bak_neg] at h
  unfold cei
  have e : -bak n k ≤ -x ↔ x ≤ bak n k := by grind
  rw [e] at h
  rw [h]
  omega
theorem cei_nat {y : Rat} (k : Nat) (h : ¬ y.num < 0) : 0 ≤ cei y k := by rw [cei_pos y k h]; exact Int.natCast_nonneg _
theorem sqh_iff {y : Rat} (k r : Nat) (h : ¬ y.num < 0) : y ≤ bak (r : Int) k * bak (r : Int) k ↔ uroot 2 (cei y (2 * k)).natAbs ≤ r := by
  have h0 := cei_nat (2 * k) h
  rw [bak_sq, bak_ge_iff, uroot_le (by omega), Nat.pow_two]
  omega
theorem sqr_root {x : Rat} (k : Nat) (h : ¬ x.num < 0) : iroot 2 (flo x (2 * k)).natAbs = sqr x k := by
  rw [flo_pos x (2 * k) h, Int.natAbs_natCast]
  rfl
theorem sqh_root {y : Rat} (k : Nat) (h : ¬ y.num < 0) : bak ((uroot 2 (cei y (2 * k)).natAbs : Nat) : Int) k = sqh y k := by
  obtain ⟨u, hu⟩ : ∃ u, uroot 2 (cei y (2 * k)).natAbs = u := ⟨_, rfl⟩
  have key : ∀ r : Nat, y ≤ bak (r : Int) k * bak (r : Int) k ↔ u ≤ r := fun r => by rw [← hu]; exact sqh_iff k r h
  rw [hu]
  unfold sqh
  split
  · rename_i hc
    have h1 := (key (sqr y k + 1)).1 (Rat.le_of_lt (sqr_lt k h))
    have h2 : ¬ u ≤ sqr y k := fun k2 => by have := (key _).2 k2; grind
    have : u = sqr y k + 1 := by omega
    rw [this]
  · rename_i hc
    have h1 := (key (sqr y k)).1 (by grind)
    have h2 := (key u).2 (Nat.le_refl _)
    have h3 := sqr_le k h
    have h4 : sqr y k ≤ u := by
      have a1 := (bak_le_iff _ _ _).1 (by rw [← bak_sq]; exact h3 : bak ((sqr y k * sqr y k : Nat) : Int) (2 * k) ≤ y)
      rw [bak_sq] at h2
      have a2 := flo_mono (2 * k) h2
      rw [flo_bak] at a2
      have a3 : sqr y k * sqr y k ≤ u * u := by omega
      exact Nat.mul_self_le_mul_self_iff.1 a3
    have : u = sqr y k := by omega
    rw [this]
theorem uroot_len {y : Rat} {k m : Nat} (h : Sz y m) (hk : k ≤ 310) : (limbs (uroot 2 (cei y (2 * k)).natAbs)).length ≤ m + 12 := Nat.le_trans (limbs_length_mono (uroot_le_self _ (by omega))) (cei_len7 h (by omega))

theorem isqrt_neg {w : World} {b0 p0 : Bool} {A0 B0 V0 U0 : Option Addr} {n0 c0 m0 d0 r0 k0 o0 q0 : Nat} {x0 : Rat} (h0 : Rt w b0 A0 n0 c0 B0 m0 d0 x0) (s0 : Sz x0 30) {j : Int} (hb : b0 = true) :
    Calls Tryz.prog 30 #[.agg #[.bool b0, .slice A0 n0 c0, .slice B0 m0 d0, .bool p0, .slice V0 r0 k0, .slice U0 o0 q0], .int .i64 j] w (GotV w (.tuple #[.agg #[.bool false, .slice none 0 0, .slice none 0 0, .bool false, .slice none 0 0, .slice none 0 0], .int .i64 1])) := by
  obtain ⟨r0_, q0_⟩ : ∃ r, ((0 : Int) : Rat) = r := ⟨_, rfl⟩
  have C0 : ∀ W : World, Calls Tryz.prog 46 #[.int .i64 0] W (GotRt W r0_) := fun W => by rw [← q0_]; exact qof_N W 0 (by unfold I64; omega)
  have z0_ : Sz r0_ 30 := by rw [← q0_]; exact (sz_of (len_one (by decide))).le (by omega)
  obtain ⟨c_, ec⟩ : ∃ c, cmpQ x0 r0_ = c := ⟨_, rfl⟩
  have EC := Lib.hid ec
  have t1_ : decide (c_ < 0) = true := decide_eq_true (by rw [← ec, cmpQ_neg, ← q0_, below_nought]; exact of_decide_eq_true (h0.1.2.symm.trans hb))
  clear ec q0_ 
  subst hb
  have cc := Below.refl w.heap.size w
  go_enter Tryz.func30, Tryz.ntmps30
  go_wp2_with fail
  generalize hv_ : (w.alloc (.cells #[.bool true, .slice A0 n0 c0, .slice B0 m0 d0, .bool p0, .slice V0 r0 k0, .slice U0 o0 q0] 29)).alloc (.cells #[.bool false, .slice none 0 0, .slice none 0 0, .bool false, .slice none 0 0, .slice none 0 0] 29) = v1
  obtain ⟨f0, f1, f2, f3, f4, f5⟩ : Fz6 v1 (w.heap.size + 1) := by simp [Fz6, ← hv_, go_sem]
  have bA : Below w.heap.size w v1 := by rw [← hv_]; exact (((Below.refl _ w).alloc (by simp) _).alloc (by simp) _)
  replace h0 := h0.on bA
  replace cc := bK cc bA
  clear bA
  obtain ⟨ka0, ka1, ka2, ka3, ka4, ka5⟩ : Cs6 v1 w.heap.size (.bool true) (.slice A0 n0 c0) (.slice B0 m0 d0) (.bool p0) (.slice V0 r0 k0) (.slice U0 o0 q0) := by simp [Cs6, ← hv_, go_sem]
  have kal : w.heap.size < v1.heap.size := by simp [← hv_] <;> omega
  obtain ⟨g_0, g_1, g_2, g_3, g_4, g_5⟩ : Cs6 v1 (w.heap.size + 1) (.bool false) (.slice none 0 0) (.slice none 0 0) (.bool false) (.slice none 0 0) (.slice none 0 0) := by simp [Cs6, ← hv_, go_sem]
  have g_l : w.heap.size + 1 < v1.heap.size := by simp [← hv_] <;> omega
  clear hv_
  have bD : Below v1.heap.size v1 v1.drew := below_drewN (Below.refl _ v1) 1
  rewrite [fR bD g_l] at f0 f1 f2 f3 f4 f5
  replace h0 := h0.on bD
  rewrite [cR bD kal] at ka0 ka1 ka2 ka3 ka4 ka5
  replace kal := lK bD kal
  rewrite [cR bD g_l] at g_0 g_1 g_2 g_3 g_4 g_5
  replace g_l := lK bD g_l
  replace cc := bK cc bD
  clear bD
  refine wp_region_held_drew (S := fun w' => w'.cell? ⟨w.heap.size, 0, none⟩ = some (.bool true) ∧ w'.cell? ⟨w.heap.size, 1, none⟩ = some (.slice A0 n0 c0) ∧ w'.cell? ⟨w.heap.size, 2, none⟩ = some (.slice B0 m0 d0) ∧ w'.cell? ⟨w.heap.size, 3, none⟩ = some (.bool p0) ∧ w'.cell? ⟨w.heap.size, 4, none⟩ = some (.slice V0 r0 k0) ∧ w'.cell? ⟨w.heap.size, 5, none⟩ = some (.slice U0 o0 q0)) (by kernel_rfl) ?_ (fun hHeld => ?_)
  · exact ⟨ka0, ka1, ka2, ka3, ka4, ka5⟩
  refine wpAnyH_take (i := 0) (v := ?_) rfl (by kernel_rfl) (by kernel_rfl) (by kernel_rfl) (fun _ _ _ h => h) (Or.inl ⟨by rfl, ?_⟩) hHeld ?_
  rotate_left
  · (intro w hSw; (try dsimp only at hSw); go_simp; (try with_reducible rfl))
  try simp only [Act.put, pT]
  refine wpAnyH_take (i := 1) (v := ?_) rfl (by kernel_rfl) (by kernel_rfl) (by kernel_rfl) (fun _ _ _ h => h) (Or.inl ⟨by rfl, ?_⟩) hHeld ?_
  rotate_left
  · (intro w hSw; (try dsimp only at hSw); go_simp; (try with_reducible rfl))
  try simp only [Act.put, pT]
  refine wpAnyH_ready (rs := [2]) (by kernel_rfl) (by simp) ?_
  refine AllReadyH.cons rfl (fun K hK => ?_) AllReadyH.nil
  (try simp only [pT])
  rw [if_pos (by rfl)]
  go_simp
  go_at_call 46
  refine (C0 _).mono ?_
  rintro e w2 ⟨be, Ae, ne, ce, Be, me, de, rfl, he, b⟩
  rewrite [fR b g_l] at f0 f1 f2 f3 f4 f5
  replace h0 := h0.on b
  rewrite [cR b kal] at ka0 ka1 ka2 ka3 ka4 ka5
  replace kal := lK b kal
  rewrite [cR b g_l] at g_0 g_1 g_2 g_3 g_4 g_5
  replace g_l := lK b g_l
  replace cc := bK cc b
  clear b
  refine hK.out _ _ ?_ (fun hHeld => ?_)
  · exact ⟨ka0, ka1, ka2, ka3, ka4, ka5⟩
  clear hK K
  try simp only [Act.put, pT]
  refine wpAnyH_ready (rs := [3]) (by kernel_rfl) (by simp) ?_
  refine AllReadyH.cons rfl (fun K hK => ?_) AllReadyH.nil
  (try simp only [pT])
  rw [if_pos (by rfl)]
  go_simp
  go_at_call 43
  refine (qcmp_v' c_ h0 s0 he z0_ EC.out).mono ?_
  rintro e w3 ⟨rfl, b⟩
  rewrite [fR b g_l] at f0 f1 f2 f3 f4 f5
  replace h0 := h0.on b
  replace he := he.on b
  rewrite [cR b kal] at ka0 ka1 ka2 ka3 ka4 ka5
  replace kal := lK b kal
  rewrite [cR b g_l] at g_0 g_1 g_2 g_3 g_4 g_5
  replace g_l := lK b g_l
  replace cc := bK cc b
  clear b
  refine hK.out _ _ ?_ (fun hHeld => ?_)
  · exact ⟨ka0, ka1, ka2, ka3, ka4, ka5⟩
  clear hK K
  try simp only [Act.put, pT]
  refine wpAnyH_take (i := 4) (v := ?_) rfl (by kernel_rfl) (by kernel_rfl) (by kernel_rfl) (fun _ _ _ h => h) (Or.inl ⟨by rfl, ?_⟩) hHeld ?_
  rotate_left
  · (intro w hSw; (try dsimp only at hSw); go_simp; (try with_reducible rfl))
  try simp only [Act.put, pT]
  refine wpAnyH_take (i := 5) (v := ?_) rfl (by kernel_rfl) (by kernel_rfl) (by kernel_rfl) (fun _ _ _ h => h) (Or.inl ⟨by rfl, ?_⟩) hHeld ?_
  rotate_left
  · (intro w hSw; (try dsimp only at hSw); go_simp; (try with_reducible rfl))
  try simp only [Act.put, pT]
  refine wpAnyH_take (i := 6) (v := undef) rfl (by kernel_rfl) (by kernel_rfl) (by kernel_rfl) (fun _ _ _ h => h) (Or.inr ⟨by rfl, rfl⟩) hHeld ?_
  try simp only [Act.put, pT]
  refine wpAnyH_take (i := 7) (v := undef) rfl (by kernel_rfl) (by kernel_rfl) (by kernel_rfl) (fun _ _ _ h => h) (Or.inr ⟨by rfl, rfl⟩) hHeld ?_
  try simp only [Act.put, pT]
  refine wpAnyH_take (i := 8) (v := undef) rfl (by kernel_rfl) (by kernel_rfl) (by kernel_rfl) (fun _ _ _ h => h) (Or.inr ⟨by rfl, rfl⟩) hHeld ?_
  try simp only [Act.put, pT]
  refine wpAnyH_take (i := 9) (v := ?_) rfl (by kernel_rfl) (by kernel_rfl) (by kernel_rfl) (fun _ _ _ h => h) (Or.inl ⟨by rfl, ?_⟩) hHeld ?_
  rotate_left
  · (intro w hSw; (try dsimp only at hSw); go_simp; (try with_reducible rfl))
  try simp only [Act.put, pT]
  refine wpAnyH_done (by kernel_rfl) ?_ _
  clear hHeld
  go_wp2_with fail
  exact bodyPost_ret (v := .tuple #[.agg #[.bool false, .slice none 0 0, .slice none 0 0, .bool false, .slice none 0 0, .slice none 0 0], .int .i64 1]) (by simp [results, Tryz.results30, go_sem, g_0, g_1, g_2, g_3, g_4, g_5]) rfl ⟨rfl, below_putS cc (by omega) _ _ _ _ _ _⟩

theorem isqrt_grid {w : World} {b0 p0 : Bool} {A0 B0 V0 U0 : Option Addr} {n0 c0 m0 d0 r0 k0 o0 q0 : Nat} {x0 : Rat} (h0 : Rt w b0 A0 n0 c0 B0 m0 d0 x0) (s0 : Sz x0 30) {j : Int} (hb : b0 = false) (h : j < 0 ∨ 1000 < j) :
    Calls Tryz.prog 30 #[.agg #[.bool b0, .slice A0 n0 c0, .slice B0 m0 d0, .bool p0, .slice V0 r0 k0, .slice U0 o0 q0], .int .i64 j] w (GotV w (.tuple #[.agg #[.bool false, .slice none 0 0, .slice none 0 0, .bool false, .slice none 0 0, .slice none 0 0], .int .i64 1])) := by
  obtain ⟨r0_, q0_⟩ : ∃ r, ((0 : Int) : Rat) = r := ⟨_, rfl⟩
  have C0 : ∀ W : World, Calls Tryz.prog 46 #[.int .i64 0] W (GotRt W r0_) := fun W => by rw [← q0_]; exact qof_N W 0 (by unfold I64; omega)
  have z0_ : Sz r0_ 30 := by rw [← q0_]; exact (sz_of (len_one (by decide))).le (by omega)
  obtain ⟨c_, ec⟩ : ∃ c, cmpQ x0 r0_ = c := ⟨_, rfl⟩
  have EC := Lib.hid ec
  have t1_ : decide (c_ < 0) = false := decide_eq_false (by rw [← ec, cmpQ_neg, ← q0_, below_nought]; exact of_decide_eq_false (h0.1.2.symm.trans hb))
  clear ec q0_ 
  subst hb
  have cc := Below.refl w.heap.size w
  go_enter Tryz.func30, Tryz.ntmps30
  go_wp2_with fail
  generalize hv_ : (w.alloc (.cells #[.bool false, .slice A0 n0 c0, .slice B0 m0 d0, .bool p0, .slice V0 r0 k0, .slice U0 o0 q0] 29)).alloc (.cells #[.bool false, .slice none 0 0, .slice none 0 0, .bool false, .slice none 0 0, .slice none 0 0] 29) = v1
  obtain ⟨f0, f1, f2, f3, f4, f5⟩ : Fz6 v1 (w.heap.size + 1) := by simp [Fz6, ← hv_, go_sem]
  have bA : Below w.heap.size w v1 := by rw [← hv_]; exact (((Below.refl _ w).alloc (by simp) _).alloc (by simp) _)
  replace h0 := h0.on bA
  replace cc := bK cc bA
  clear bA
  obtain ⟨ka0, ka1, ka2, ka3, ka4, ka5⟩ : Cs6 v1 w.heap.size (.bool false) (.slice A0 n0 c0) (.slice B0 m0 d0) (.bool p0) (.slice V0 r0 k0) (.slice U0 o0 q0) := by simp [Cs6, ← hv_, go_sem]
  have kal : w.heap.size < v1.heap.size := by simp [← hv_] <;> omega
  obtain ⟨g_0, g_1, g_2, g_3, g_4, g_5⟩ : Cs6 v1 (w.heap.size + 1) (.bool false) (.slice none 0 0) (.slice none 0 0) (.bool false) (.slice none 0 0) (.slice none 0 0) := by simp [Cs6, ← hv_, go_sem]
  have g_l : w.heap.size + 1 < v1.heap.size := by simp [← hv_] <;> omega
  clear hv_
  have bD : Below v1.heap.size v1 v1.drew := below_drewN (Below.refl _ v1) 1
  rewrite [fR bD g_l] at f0 f1 f2 f3 f4 f5
  replace h0 := h0.on bD
  rewrite [cR bD kal] at ka0 ka1 ka2 ka3 ka4 ka5
  replace kal := lK bD kal
  rewrite [cR bD g_l] at g_0 g_1 g_2 g_3 g_4 g_5
  replace g_l := lK bD g_l
  replace cc := bK cc bD
  clear bD
  refine wp_region_held_drew (S := fun w' => w'.cell? ⟨w.heap.size, 0, none⟩ = some (.bool false) ∧ w'.cell? ⟨w.heap.size, 1, none⟩ = some (.slice A0 n0 c0) ∧ w'.cell? ⟨w.heap.size, 2, none⟩ = some (.slice B0 m0 d0) ∧ w'.cell? ⟨w.heap.size, 3, none⟩ = some (.bool p0) ∧ w'.cell? ⟨w.heap.size, 4, none⟩ = some (.slice V0 r0 k0) ∧ w'.cell? ⟨w.heap.size, 5, none⟩ = some (.slice U0 o0 q0)) (by kernel_rfl) ?_ (fun hHeld => ?_)
  · exact ⟨ka0, ka1, ka2, ka3, ka4, ka5⟩
  refine wpAnyH_take (i := 0) (v := ?_) rfl (by kernel_rfl) (by kernel_rfl) (by kernel_rfl) (fun _ _ _ h => h) (Or.inl ⟨by rfl, ?_⟩) hHeld ?_
  rotate_left
  · (intro w hSw; (try dsimp only at hSw); go_simp; (try with_reducible rfl))
  try simp only [Act.put, pT]
  refine wpAnyH_take (i := 1) (v := ?_) rfl (by kernel_rfl) (by kernel_rfl) (by kernel_rfl) (fun _ _ _ h => h) (Or.inl ⟨by rfl, ?_⟩) hHeld ?_
  rotate_left
  · (intro w hSw; (try dsimp only at hSw); go_simp; (try with_reducible rfl))
  try simp only [Act.put, pT]
  refine wpAnyH_ready (rs := [2]) (by kernel_rfl) (by simp) ?_
  refine AllReadyH.cons rfl (fun K hK => ?_) AllReadyH.nil
  (try simp only [pT])
  rw [if_pos (by rfl)]
  go_simp
  go_at_call 46
  refine (C0 _).mono ?_
  rintro e w2 ⟨be, Ae, ne, ce, Be, me, de, rfl, he, b⟩
  rewrite [fR b g_l] at f0 f1 f2 f3 f4 f5
  replace h0 := h0.on b
  rewrite [cR b kal] at ka0 ka1 ka2 ka3 ka4 ka5
  replace kal := lK b kal
  rewrite [cR b g_l] at g_0 g_1 g_2 g_3 g_4 g_5
  replace g_l := lK b g_l
  replace cc := bK cc b
  clear b
  refine hK.out _ _ ?_ (fun hHeld => ?_)
  · exact ⟨ka0, ka1, ka2, ka3, ka4, ka5⟩
  clear hK K
  try simp only [Act.put, pT]
  refine wpAnyH_ready (rs := [3]) (by kernel_rfl) (by simp) ?_
  refine AllReadyH.cons rfl (fun K hK => ?_) AllReadyH.nil
  (try simp only [pT])
  rw [if_pos (by rfl)]
  go_simp
  go_at_call 43
  refine (qcmp_v' c_ h0 s0 he z0_ EC.out).mono ?_
  rintro e w3 ⟨rfl, b⟩
  rewrite [fR b g_l] at f0 f1 f2 f3 f4 f5
  replace h0 := h0.on b
  replace he := he.on b
  rewrite [cR b kal] at ka0 ka1 ka2 ka3 ka4 ka5
  replace kal := lK b kal
  rewrite [cR b g_l] at g_0 g_1 g_2 g_3 g_4 g_5
  replace g_l := lK b g_l
  replace cc := bK cc b
  clear b
  refine hK.out _ _ ?_ (fun hHeld => ?_)
  · exact ⟨ka0, ka1, ka2, ka3, ka4, ka5⟩
  clear hK K
  try simp only [Act.put, pT]
  refine wpAnyH_take (i := 4) (v := ?_) rfl (by kernel_rfl) (by kernel_rfl) (by kernel_rfl) (fun _ _ _ h => h) (Or.inl ⟨by rfl, ?_⟩) hHeld ?_
  rotate_left
  · (intro w hSw; (try dsimp only at hSw); go_simp; (try with_reducible rfl))
  try simp only [Act.put, pT]
  refine wpAnyH_take (i := 5) (v := ?_) rfl (by kernel_rfl) (by kernel_rfl) (by kernel_rfl) (fun _ _ _ h => h) (Or.inl ⟨by rfl, ?_⟩) hHeld ?_
  rotate_left
  · (intro w hSw; (try dsimp only at hSw); go_simp; (try with_reducible rfl))
  try simp only [Act.put, pT]
  refine wpAnyH_take (i := 6) (v := ?_) rfl (by kernel_rfl) (by kernel_rfl) (by kernel_rfl) (fun _ _ _ h => h) (Or.inl ⟨by rfl, ?_⟩) hHeld ?_
  rotate_left
  · (intro w hSw; (try dsimp only at hSw); go_simp; (try with_reducible rfl))
  try simp only [Act.put, pT]
  refine wpAnyH_ready (rs := [7]) (by kernel_rfl) (by simp) ?_
  refine AllReadyH.cons rfl (fun K hK => ?_) AllReadyH.nil
  (try simp only [pT])
  rw [if_pos (by rfl)]
  go_simp
  go_at_call 52
  refine (igrid_no _ h).mono ?_
  rintro e w4 ⟨rfl, b⟩
  rewrite [fR b g_l] at f0 f1 f2 f3 f4 f5
  replace h0 := h0.on b
  replace he := he.on b
  rewrite [cR b kal] at ka0 ka1 ka2 ka3 ka4 ka5
  replace kal := lK b kal
  rewrite [cR b g_l] at g_0 g_1 g_2 g_3 g_4 g_5
  replace g_l := lK b g_l
  replace cc := bK cc b
  clear b
  refine hK.out _ _ ?_ (fun hHeld => ?_)
  · exact ⟨ka0, ka1, ka2, ka3, ka4, ka5⟩
  clear hK K
  try simp only [Act.put, pT]
  refine wpAnyH_take (i := 8) (v := ?_) rfl (by kernel_rfl) (by kernel_rfl) (by kernel_rfl) (fun _ _ _ h => h) (Or.inl ⟨by rfl, ?_⟩) hHeld ?_
  rotate_left
  · (intro w hSw; (try dsimp only at hSw); go_simp; (try with_reducible rfl))
  try simp only [Act.put, pT]
  refine wpAnyH_take (i := 9) (v := ?_) rfl (by kernel_rfl) (by kernel_rfl) (by kernel_rfl) (fun _ _ _ h => h) (Or.inl ⟨by rfl, ?_⟩) hHeld ?_
  rotate_left
  · (intro w hSw; (try dsimp only at hSw); go_simp; (try with_reducible rfl))
  try simp only [Act.put, pT]
  refine wpAnyH_done (by kernel_rfl) ?_ _
  clear hHeld
  go_wp2_with fail
  exact bodyPost_ret (v := .tuple #[.agg #[.bool false, .slice none 0 0, .slice none 0 0, .bool false, .slice none 0 0, .slice none 0 0], .int .i64 1]) (by simp [results, Tryz.results30, go_sem, g_0, g_1, g_2, g_3, g_4, g_5]) rfl ⟨rfl, below_putS cc (by omega) _ _ _ _ _ _⟩

theorem isqrt_no {w : World} {b0 p0 : Bool} {A0 B0 V0 U0 : Option Addr} {n0 c0 m0 d0 r0 k0 o0 q0 : Nat} {x0 : Rat} (h0 : Rt w b0 A0 n0 c0 B0 m0 d0 x0) (s0 : Sz x0 30) {j : Int} (h : j < 0 ∨ 1000 < j ∨ b0 = true) :
    Calls Tryz.prog 30 #[.agg #[.bool b0, .slice A0 n0 c0, .slice B0 m0 d0, .bool p0, .slice V0 r0 k0, .slice U0 o0 q0], .int .i64 j] w (GotV w (.tuple #[.agg #[.bool false, .slice none 0 0, .slice none 0 0, .bool false, .slice none 0 0, .slice none 0 0], .int .i64 1])) := by
  cases hb : b0 with
  | true => subst hb; exact isqrt_neg h0 s0 rfl
  | false =>
    subst hb
    exact isqrt_grid h0 s0 rfl (by rcases h with h | h | h; exact .inl h; exact .inr h; cases h)

theorem isqrt_N {w : World} {b0 p0 : Bool} {A0 B0 V0 U0 : Option Addr} {n0 c0 m0 d0 r0 k0 o0 q0 : Nat} {x0 y0 : Rat} (h0 : Rt w b0 A0 n0 c0 B0 m0 d0 x0) (g0 : Rt w p0 V0 r0 k0 U0 o0 q0 y0) (s0 : Sz x0 10) (t0 : Sz y0 10) {j : Int} (j0 : 0 ≤ j) (j1 : j ≤ 310) (hb : b0 = false) (hxy : x0 ≤ y0) :
    Calls Tryz.prog 30 #[.agg #[.bool b0, .slice A0 n0 c0, .slice B0 m0 d0, .bool p0, .slice V0 r0 k0, .slice U0 o0 q0], .int .i64 j] w (GotSp w (bak (sqr x0 j.toNat : Int) j.toNat) (sqh y0 j.toNat) 0) := by
  obtain ⟨r0_, q0_⟩ : ∃ r, ((0 : Int) : Rat) = r := ⟨_, rfl⟩
  have C0 : ∀ W : World, Calls Tryz.prog 46 #[.int .i64 0] W (GotRt W r0_) := fun W => by rw [← q0_]; exact qof_N W 0 (by unfold I64; omega)
  have z0_ : Sz r0_ 30 := by rw [← q0_]; exact (sz_of (len_one (by decide))).le (by omega)
  obtain ⟨c_, ec⟩ : ∃ c, cmpQ x0 r0_ = c := ⟨_, rfl⟩
  have EC := Lib.hid ec
  have hx0 : ¬ x0.num < 0 := of_decide_eq_false (h0.1.2.symm.trans hb)
  have hy0 := num_up hxy hx0
  have t1_ : decide (c_ < 0) = false := decide_eq_false (by rw [← ec, cmpQ_neg, ← q0_, below_nought]; exact hx0)
  have ew : IntKind.i64.wrap (2 * j) = 2 * j := IntWalk.i64_in _ (by omega)
  obtain ⟨k, hk⟩ : ∃ k, j.toNat = k := ⟨_, rfl⟩
  have e2 : (2 * j).toNat = 2 * k := by omega
  obtain ⟨fl, e3⟩ : ∃ v, flo x0 (2 * k) = v := ⟨_, rfl⟩
  obtain ⟨ce, e4⟩ : ∃ v, cei y0 (2 * k) = v := ⟨_, rfl⟩
  have CO : ∀ {W : World} {b0 p0 : Bool} {A0 B0 V0 U0 : Option Addr} {n0 c0 m0 d0 r0 k0 o0 q0 : Nat}, Rt W b0 A0 n0 c0 B0 m0 d0 x0 → Rt W p0 V0 r0 k0 U0 o0 q0 y0 → Calls Tryz.prog 53 #[.agg #[.bool b0, .slice A0 n0 c0, .slice B0 m0 d0, .bool p0, .slice V0 r0 k0, .slice U0 o0 q0], .int .i64 (2 * j)] W (GotZZ W fl ce) := fun a b => by rw [← e3, ← e4, ← e2]; exact ioutward_N a b (s0.le (by omega)) (t0.le (by omega)) (by omega) (by omega)
  have lf : (limbs fl.natAbs).length ≤ 22 := by rw [← e3]; exact flo_len7 s0 (by omega)
  have lc : (limbs ce.natAbs).length ≤ 22 := by rw [← e4]; exact cei_len7 t0 (by omega)
  obtain ⟨rd, e5⟩ : ∃ v, sqr x0 k = v := ⟨_, rfl⟩
  obtain ⟨ru, e6⟩ : ∃ v, uroot 2 ce.natAbs = v := ⟨_, rfl⟩
  have e7 : iroot 2 fl.natAbs = rd := by rw [← e3, ← e5]; exact sqr_root k hx0
  have CR : ∀ {W : World} {A : Option Addr} {m c : Nat}, Num W A m c fl.natAbs → Calls Tryz.prog 57 #[.slice A m c, .int .i64 2] W (GotP W rd 0) := fun ha => by rw [← e7]; exact root_N (k := 2) ha (by omega) (by omega) (by omega)
  have CU : ∀ {W : World} {A : Option Addr} {m c : Nat}, Num W A m c ce.natAbs → Calls Tryz.prog 58 #[.slice A m c, .int .i64 2] W (GotP W ru 0) := fun ha => by rw [← e6]; exact up_N (k := 2) ha (by omega) (by omega) (by omega)
  have lr : (limbs rd).length ≤ 20 := by rw [← e5]; exact sqr_len s0 (by omega)
  have lu : (limbs ru).length ≤ 22 := by rw [← e6, ← e4]; exact uroot_len t0 (by omega)
  have HS : Hid (sqh y0 k = bak (ru : Int) k) := Lib.hid (by rw [← e6, ← e4]; exact (sqh_root k hy0).symm)
  have CG : ∀ {W : World} {b p : Bool} {A V : Option Addr} {n c r q : Nat}, Zn W b A n c (rd : Int) → Zn W p V r q (ru : Int) → Calls Tryz.prog 54 #[.agg #[.bool b, .slice A n c], .agg #[.bool p, .slice V r q], .int .i64 j] W (GotSt W (bak (rd : Int) k) (sqh y0 k)) := fun a b => by rw [HS.out, ← hk]; exact iongrid_N a b (by rw [Int.natAbs_natCast]; omega) (by rw [Int.natAbs_natCast]; omega) j0 (by omega)
  rw [hk, e5]
  obtain ⟨vh, e8⟩ : ∃ v, sqh y0 k = v := ⟨_, rfl⟩
  rw [e8] at CG ⊢
  obtain ⟨vl, e9⟩ : ∃ v, bak (rd : Int) k = v := ⟨_, rfl⟩
  rw [e9] at CG ⊢
  clear ec q0_ hx0 hy0 hk e2 e3 e4 e5 e6 e7 e8 e9 HS hxy
  subst hb
  have cc := Below.refl w.heap.size w
  go_enter Tryz.func30, Tryz.ntmps30
  go_wp2_with fail
  generalize hv_ : (w.alloc (.cells #[.bool false, .slice A0 n0 c0, .slice B0 m0 d0, .bool p0, .slice V0 r0 k0, .slice U0 o0 q0] 29)).alloc (.cells #[.bool false, .slice none 0 0, .slice none 0 0, .bool false, .slice none 0 0, .slice none 0 0] 29) = v1
  obtain ⟨f0, f1, f2, f3, f4, f5⟩ : Fz6 v1 (w.heap.size + 1) := by simp [Fz6, ← hv_, go_sem]
  have bA : Below w.heap.size w v1 := by rw [← hv_]; exact (((Below.refl _ w).alloc (by simp) _).alloc (by simp) _)
  replace h0 := h0.on bA
  replace g0 := g0.on bA
  replace cc := bK cc bA
  clear bA
  obtain ⟨ka0, ka1, ka2, ka3, ka4, ka5⟩ : Cs6 v1 w.heap.size (.bool false) (.slice A0 n0 c0) (.slice B0 m0 d0) (.bool p0) (.slice V0 r0 k0) (.slice U0 o0 q0) := by simp [Cs6, ← hv_, go_sem]
  have kal : w.heap.size < v1.heap.size := by simp [← hv_] <;> omega
  obtain ⟨g_0, g_1, g_2, g_3, g_4, g_5⟩ : Cs6 v1 (w.heap.size + 1) (.bool false) (.slice none 0 0) (.slice none 0 0) (.bool false) (.slice none 0 0) (.slice none 0 0) := by simp [Cs6, ← hv_, go_sem]
  have g_l : w.heap.size + 1 < v1.heap.size := by simp [← hv_] <;> omega
  clear hv_
  have bD : Below v1.heap.size v1 v1.drew := below_drewN (Below.refl _ v1) 1
  rewrite [fR bD g_l] at f0 f1 f2 f3 f4 f5
  replace h0 := h0.on bD
  replace g0 := g0.on bD
  rewrite [cR bD kal] at ka0 ka1 ka2 ka3 ka4 ka5
  replace kal := lK bD kal
  rewrite [cR bD g_l] at g_0 g_1 g_2 g_3 g_4 g_5
  replace g_l := lK bD g_l
  replace cc := bK cc bD
  clear bD
  refine wp_region_held_drew (S := fun w' => w'.cell? ⟨w.heap.size, 0, none⟩ = some (.bool false) ∧ w'.cell? ⟨w.heap.size, 1, none⟩ = some (.slice A0 n0 c0) ∧ w'.cell? ⟨w.heap.size, 2, none⟩ = some (.slice B0 m0 d0) ∧ w'.cell? ⟨w.heap.size, 3, none⟩ = some (.bool p0) ∧ w'.cell? ⟨w.heap.size, 4, none⟩ = some (.slice V0 r0 k0) ∧ w'.cell? ⟨w.heap.size, 5, none⟩ = some (.slice U0 o0 q0)) (by kernel_rfl) ?_ (fun hHeld => ?_)
  · exact ⟨ka0, ka1, ka2, ka3, ka4, ka5⟩
  refine wpAnyH_take (i := 0) (v := ?_) rfl (by kernel_rfl) (by kernel_rfl) (by kernel_rfl) (fun _ _ _ h => h) (Or.inl ⟨by rfl, ?_⟩) hHeld ?_
  rotate_left
  · (intro w hSw; (try dsimp only at hSw); go_simp; (try with_reducible rfl))
  try simp only [Act.put, pT]
  refine wpAnyH_take (i := 1) (v := ?_) rfl (by kernel_rfl) (by kernel_rfl) (by kernel_rfl) (fun _ _ _ h => h) (Or.inl ⟨by rfl, ?_⟩) hHeld ?_
  rotate_left
  · (intro w hSw; (try dsimp only at hSw); go_simp; (try with_reducible rfl))
  try simp only [Act.put, pT]
  refine wpAnyH_ready (rs := [2]) (by kernel_rfl) (by simp) ?_
  refine AllReadyH.cons rfl (fun K hK => ?_) AllReadyH.nil
  (try simp only [pT])
  rw [if_pos (by rfl)]
  go_simp
  go_at_call 46
  refine (C0 _).mono ?_
  rintro e w2 ⟨be, Ae, ne, ce, Be, me, de, rfl, he, b⟩
  rewrite [fR b g_l] at f0 f1 f2 f3 f4 f5
  replace h0 := h0.on b
  replace g0 := g0.on b
  rewrite [cR b kal] at ka0 ka1 ka2 ka3 ka4 ka5
  replace kal := lK b kal
  rewrite [cR b g_l] at g_0 g_1 g_2 g_3 g_4 g_5
  replace g_l := lK b g_l
  replace cc := bK cc b
  clear b
  refine hK.out _ _ ?_ (fun hHeld => ?_)
  · exact ⟨ka0, ka1, ka2, ka3, ka4, ka5⟩
  clear hK K
  try simp only [Act.put, pT]
  refine wpAnyH_ready (rs := [3]) (by kernel_rfl) (by simp) ?_
  refine AllReadyH.cons rfl (fun K hK => ?_) AllReadyH.nil
  (try simp only [pT])
  rw [if_pos (by rfl)]
  go_simp
  go_at_call 43
  refine (qcmp_v' c_ h0 (s0.le (by omega)) he z0_ EC.out).mono ?_
  rintro e w3 ⟨rfl, b⟩
  rewrite [fR b g_l] at f0 f1 f2 f3 f4 f5
  replace h0 := h0.on b
  replace g0 := g0.on b
  replace he := he.on b
  rewrite [cR b kal] at ka0 ka1 ka2 ka3 ka4 ka5
  replace kal := lK b kal
  rewrite [cR b g_l] at g_0 g_1 g_2 g_3 g_4 g_5
  replace g_l := lK b g_l
  replace cc := bK cc b
  clear b
  refine hK.out _ _ ?_ (fun hHeld => ?_)
  · exact ⟨ka0, ka1, ka2, ka3, ka4, ka5⟩
  clear hK K
  try simp only [Act.put, pT]
  refine wpAnyH_take (i := 4) (v := ?_) rfl (by kernel_rfl) (by kernel_rfl) (by kernel_rfl) (fun _ _ _ h => h) (Or.inl ⟨by rfl, ?_⟩) hHeld ?_
  rotate_left
  · (intro w hSw; (try dsimp only at hSw); go_simp; (try with_reducible rfl))
  try simp only [Act.put, pT]
  refine wpAnyH_take (i := 5) (v := ?_) rfl (by kernel_rfl) (by kernel_rfl) (by kernel_rfl) (fun _ _ _ h => h) (Or.inl ⟨by rfl, ?_⟩) hHeld ?_
  rotate_left
  · (intro w hSw; (try dsimp only at hSw); go_simp; (try with_reducible rfl))
  try simp only [Act.put, pT]
  refine wpAnyH_take (i := 6) (v := ?_) rfl (by kernel_rfl) (by kernel_rfl) (by kernel_rfl) (fun _ _ _ h => h) (Or.inl ⟨by rfl, ?_⟩) hHeld ?_
  rotate_left
  · (intro w hSw; (try dsimp only at hSw); go_simp; (try with_reducible rfl))
  try simp only [Act.put, pT]
  refine wpAnyH_ready (rs := [7]) (by kernel_rfl) (by simp) ?_
  refine AllReadyH.cons rfl (fun K hK => ?_) AllReadyH.nil
  (try simp only [pT])
  rw [if_pos (by rfl)]
  go_simp
  go_at_call 52
  refine (igrid_2 _ j0 (by omega)).mono ?_
  rintro e w4 ⟨rfl, b⟩
  rewrite [fR b g_l] at f0 f1 f2 f3 f4 f5
  replace h0 := h0.on b
  replace g0 := g0.on b
  replace he := he.on b
  rewrite [cR b kal] at ka0 ka1 ka2 ka3 ka4 ka5
  replace kal := lK b kal
  rewrite [cR b g_l] at g_0 g_1 g_2 g_3 g_4 g_5
  replace g_l := lK b g_l
  replace cc := bK cc b
  clear b
  refine hK.out _ _ ?_ (fun hHeld => ?_)
  · exact ⟨ka0, ka1, ka2, ka3, ka4, ka5⟩
  clear hK K
  try simp only [Act.put, pT]
  refine wpAnyH_take (i := 8) (v := ?_) rfl (by kernel_rfl) (by kernel_rfl) (by kernel_rfl) (fun _ _ _ h => h) (Or.inl ⟨by rfl, ?_⟩) hHeld ?_
  rotate_left
  · (intro w hSw; (try dsimp only at hSw); go_simp; (try with_reducible rfl))
  try simp only [Act.put, pT]
  refine wpAnyH_take (i := 9) (v := ?_) rfl (by kernel_rfl) (by kernel_rfl) (by kernel_rfl) (fun _ _ _ h => h) (Or.inl ⟨by rfl, ?_⟩) hHeld ?_
  rotate_left
  · (intro w hSw; (try dsimp only at hSw); go_simp; (try with_reducible rfl))
  try simp only [Act.put, pT]
  refine wpAnyH_done (by kernel_rfl) ?_ _
  clear hHeld
  clear he
  go_wp2_with fail
  refine (CO h0 g0).mono ?_
  rintro e w5 ⟨bl, Al, nl, cl, bh, Ah, nh, ch, rfl, hl, hh, b⟩
  rewrite [fR b g_l] at f0 f1 f2 f3 f4 f5
  replace h0 := h0.on b
  replace g0 := g0.on b
  rewrite [cR b kal] at ka0 ka1 ka2 ka3 ka4 ka5
  replace kal := lK b kal
  rewrite [cR b g_l] at g_0 g_1 g_2 g_3 g_4 g_5
  replace g_l := lK b g_l
  replace cc := bK cc b
  clear b
  clear h0 g0
  have nl_ := hl.1
  have nh_ := hh.1
  clear hl hh
  go_wp2_with fail
  generalize hv_ : (w5.alloc (.cells #[.bool bl, .slice Al nl cl] 25)).alloc (.cells #[.bool bh, .slice Ah nh ch] 25) = v6
  have bB : Below w5.heap.size w5 v6 := by rw [← hv_]; exact below_two _ _ _
  rewrite [fR bB g_l] at f0 f1 f2 f3 f4 f5
  clear bB
  have bA : Below w5.heap.size w5 v6 := by rw [← hv_]; exact (((Below.refl _ w5).alloc (by simp) _).alloc (by simp) _)
  replace nl_ := nl_.on bA
  replace nh_ := nh_.on bA
  rewrite [cR bA kal] at ka0 ka1 ka2 ka3 ka4 ka5
  replace kal := lK bA kal
  rewrite [cR bA g_l] at g_0 g_1 g_2 g_3 g_4 g_5
  replace g_l := lK bA g_l
  replace cc := bK cc bA
  clear bA
  obtain ⟨ba0, ba1⟩ : Cs2 v6 w5.heap.size (.bool bl) (.slice Al nl cl) := by simp [Cs2, ← hv_, go_sem]
  have bal : w5.heap.size < v6.heap.size := by simp [← hv_] <;> omega
  obtain ⟨bb0, bb1⟩ : Cs2 v6 (w5.heap.size + 1) (.bool bh) (.slice Ah nh ch) := by simp [Cs2, ← hv_, go_sem]
  have bbl : w5.heap.size + 1 < v6.heap.size := by simp [← hv_] <;> omega
  clear hv_
  refine (CR nl_).mono ?_
  rintro e w7 ⟨Av, nv, cv, rfl, nv, b⟩
  rewrite [fR b g_l] at f0 f1 f2 f3 f4 f5
  replace nl_ := nl_.on b
  replace nh_ := nh_.on b
  rewrite [cR b kal] at ka0 ka1 ka2 ka3 ka4 ka5
  replace kal := lK b kal
  rewrite [cR b g_l] at g_0 g_1 g_2 g_3 g_4 g_5
  replace g_l := lK b g_l
  rewrite [cR b bal] at ba0 ba1
  replace bal := lK b bal
  rewrite [cR b bbl] at bb0 bb1
  replace bbl := lK b bbl
  replace cc := bK cc b
  clear b
  go_wp2_with fail
  refine (CU nh_).mono ?_
  rintro e w8 ⟨At, nt, ct, rfl, nt_, b⟩
  rewrite [fR b g_l] at f0 f1 f2 f3 f4 f5
  replace nl_ := nl_.on b
  replace nh_ := nh_.on b
  replace nv := nv.on b
  rewrite [cR b kal] at ka0 ka1 ka2 ka3 ka4 ka5
  replace kal := lK b kal
  rewrite [cR b g_l] at g_0 g_1 g_2 g_3 g_4 g_5
  replace g_l := lK b g_l
  rewrite [cR b bal] at ba0 ba1
  replace bal := lK b bal
  rewrite [cR b bbl] at bb0 bb1
  replace bbl := lK b bbl
  replace cc := bK cc b
  clear b
  have zv := zn_nat nv
  have zt := zn_nat nt_
  go_wp2_with fail
  refine (CG zv zt).mono ?_
  rintro e w9 ⟨bz, Az, nz, cz, Bz, mz, dz, pz, Vz, rz, kz, Uz, oz, qz, rfl, ⟨hz, gz⟩, b⟩
  rewrite [fR b g_l] at f0 f1 f2 f3 f4 f5
  replace nl_ := nl_.on b
  replace nh_ := nh_.on b
  replace nv := nv.on b
  replace nt_ := nt_.on b
  replace zv := zv.on b
  replace zt := zt.on b
  rewrite [cR b kal] at ka0 ka1 ka2 ka3 ka4 ka5
  replace kal := lK b kal
  rewrite [cR b g_l] at g_0 g_1 g_2 g_3 g_4 g_5
  replace g_l := lK b g_l
  rewrite [cR b bal] at ba0 ba1
  replace bal := lK b bal
  rewrite [cR b bbl] at bb0 bb1
  replace bbl := lK b bbl
  replace cc := bK cc b
  clear b
  have hb_ : Held w9 (w.heap.size + 1) := held6 g_0 g_1 g_2 g_3 g_4 g_5
  have HL : Hid (Rt (putS w9 (w.heap.size + 1) (.bool bz) (.slice Az nz cz) (.slice Bz mz dz) (.bool pz) (.slice Vz rz kz) (.slice Uz oz qz)) bz Az nz cz Bz mz dz (vl)) := Lib.hid (Rt.putS hz hb_ _ _)
  have HH : Hid (Rt (putS w9 (w.heap.size + 1) (.bool bz) (.slice Az nz cz) (.slice Bz mz dz) (.bool pz) (.slice Vz rz kz) (.slice Uz oz qz)) pz Vz rz kz Uz oz qz (vh)) := Lib.hid (Rt.putS gz hb_ _ _)
  go_wp2_with fail
  refine bodyPost_ret (v := .tuple #[.agg #[.bool bz, .slice Az nz cz, .slice Bz mz dz, .bool pz, .slice Vz rz kz, .slice Uz oz qz], .int .i64 0]) (by simp [results, Tryz.results30, go_sem, g_0, g_1, g_2, g_3, g_4, g_5]) rfl ⟨_, _, _, _, _, _, _, _, _, _, _, _, _, _, rfl, ⟨HL.out, HH.out⟩, below_putS cc (by omega) _ _ _ _ _ _⟩

end Go.Proofs.YtanpklbconflmaaGreat

/-
  A box of a span laid anywhere in a region.
-/
namespace Go.Proofs.YtanpklbconflmaaGreat
open Go.RowKit
set_option linter.unusedVariables false
set_option linter.unusedSimpArgs false

/-- Six cells. -/
def BoxS (U : World) (g : Nat) (a b c d e f : Value) : Prop := U.cell? ⟨g, 0, none⟩ = some a ∧ U.cell? ⟨g, 1, none⟩ = some b ∧ U.cell? ⟨g, 2, none⟩ = some c ∧ U.cell? ⟨g, 3, none⟩ = some d ∧ U.cell? ⟨g, 4, none⟩ = some e ∧ U.cell? ⟨g, 5, none⟩ = some f
theorem BoxS.new (W : World) (a b c d e f : Value) (T : TypeId) : BoxS (W.alloc (.cells #[a, b, c, d, e, f] T)) W.heap.size a b c d e f := ⟨by simp [go_sem], by simp [go_sem], by simp [go_sem], by simp [go_sem], by simp [go_sem], by simp [go_sem]⟩
theorem BoxS.put {W : World} {g : Nat} {a b c d e f : Value} (h : BoxS W g a b c d e f) (a' b' c' d' e' f' : Value) : BoxS (putS W g a' b' c' d' e' f') g a' b' c' d' e' f' := by
  obtain ⟨h0, h1, h2, h3, h4, h5⟩ := h
  exact ⟨by simp [putS, go_sem, h0], by simp [putS, go_sem, h1], by simp [putS, go_sem, h2], by simp [putS, go_sem, h3], by simp [putS, go_sem, h4], by simp [putS, go_sem, h5]⟩
/-- Behind 'x, e := f(..)' of a span that was refused: a new box of noughts. -/
def LoneN (V U : World) (g : Nat) : Prop := BoxS U g (.bool false) (.slice none 0 0) (.slice none 0 0) (.bool false) (.slice none 0 0) (.slice none 0 0) ∧ Below V.heap.size V U ∧ V.heap.size ≤ g
section
variable {V wz : World} {g : Nat}
theorem loneNA (qq : Below V.heap.size V wz) (T : TypeId) : LoneN V (wz.alloc (.cells #[.bool false, .slice none 0 0, .slice none 0 0, .bool false, .slice none 0 0, .slice none 0 0] T)) wz.heap.size := ⟨BoxS.new wz _ _ _ _ _ _ T, qq.alloc qq.size _, qq.size⟩
theorem loneNB (o0 : wz.cell? ⟨g, 0, none⟩ = some (.bool false)) (o1 : wz.cell? ⟨g, 1, none⟩ = some (.slice none 0 0)) (o2 : wz.cell? ⟨g, 2, none⟩ = some (.slice none 0 0)) (o3 : wz.cell? ⟨g, 3, none⟩ = some (.bool false)) (o4 : wz.cell? ⟨g, 4, none⟩ = some (.slice none 0 0)) (o5 : wz.cell? ⟨g, 5, none⟩ = some (.slice none 0 0)) (qq : Below V.heap.size V wz) (l : V.heap.size ≤ g) : LoneN V (putS wz g (.bool false) (.slice none 0 0) (.slice none 0 0) (.bool false) (.slice none 0 0) (.slice none 0 0)) g := ⟨BoxS.put (a := .bool false) (b := .slice none 0 0) (c := .slice none 0 0) (d := .bool false) (e := .slice none 0 0) (f := .slice none 0 0) ⟨o0, o1, o2, o3, o4, o5⟩ _ _ _ _ _ _, below_putS qq l _ _ _ _ _ _, l⟩
end

end Go.Proofs.YtanpklbconflmaaGreat

/-
  Boxes of spans laid anywhere in a region: one, two.
-/
namespace Go.Proofs.YtanpklbconflmaaGreat
open Go.RowKit
set_option linter.unusedVariables false
set_option linter.unusedSimpArgs false

theorem BoxS.alloc {W : World} {g : Nat} {a b c d e f : Value} (h : BoxS W g a b c d e f) (o : Obj) : BoxS (W.alloc o) g a b c d e f := ⟨keep_alloc h.1, keep_alloc h.2.1, keep_alloc h.2.2.1, keep_alloc h.2.2.2.1, keep_alloc h.2.2.2.2.1, keep_alloc h.2.2.2.2.2⟩
theorem BoxS.other {W : World} {g g' : Nat} {a b c d e f : Value} (h : BoxS W g a b c d e f) (hne : g ≠ g') (u0 u1 u2 u3 u4 u5 : Value) : BoxS (putS W g' u0 u1 u2 u3 u4 u5) g a b c d e f := ⟨(cell_putS hne).trans h.1, (cell_putS hne).trans h.2.1, (cell_putS hne).trans h.2.2.1, (cell_putS hne).trans h.2.2.2.1, (cell_putS hne).trans h.2.2.2.2.1, (cell_putS hne).trans h.2.2.2.2.2⟩
theorem BoxS.next (W : World) (o : Obj) (a b c d e f : Value) (T : TypeId) : BoxS ((W.alloc o).alloc (.cells #[a, b, c, d, e, f] T)) (W.heap.size + 1) a b c d e f := by have := BoxS.new (W.alloc o) a b c d e f T; simpa using this
theorem held_void {W : World} {g : Nat} (h : BoxS W g (.bool false) (.slice none 0 0) (.slice none 0 0) (.bool false) (.slice none 0 0) (.slice none 0 0)) : Held W g := held6 h.1 h.2.1 h.2.2.1 h.2.2.2.1 h.2.2.2.2.1 h.2.2.2.2.2
/-- Behind 'x := T{f(..), g(..)}': a box, and what it holds; the box is new. -/
def LoneS (V0 U0 : World) (g : Nat) (b1 : Bool) (A1 : Option Addr) (n1 c1 : Nat) (B1 : Option Addr) (m1 d1 : Nat) (p1 : Bool) (V1 : Option Addr) (r1 k1 : Nat) (U1 : Option Addr) (o1 q1 : Nat) (rx sx : Rat) : Prop := BoxS U0 g (.bool b1) (.slice A1 n1 c1) (.slice B1 m1 d1) (.bool p1) (.slice V1 r1 k1) (.slice U1 o1 q1) ∧ Rt U0 b1 A1 n1 c1 B1 m1 d1 rx ∧ Rt U0 p1 V1 r1 k1 U1 o1 q1 sx ∧ Below V0.heap.size V0 U0 ∧ V0.heap.size ≤ g
/-- Behind 'x, y := f(..), g(..)': two boxes of spans. -/
def BothS (V0 U0 : World) (gx gy : Nat) (b1 : Bool) (A1 : Option Addr) (n1 c1 : Nat) (B1 : Option Addr) (m1 d1 : Nat) (p1 : Bool) (V1 : Option Addr) (r1 k1 : Nat) (U1 : Option Addr) (o1 q1 : Nat) (b2 : Bool) (A2 : Option Addr) (n2 c2 : Nat) (B2 : Option Addr) (m2 d2 : Nat) (p2 : Bool) (V2 : Option Addr) (r2 k2 : Nat) (U2 : Option Addr) (o2 q2 : Nat) (rx sx ry sy : Rat) : Prop := BoxS U0 gx (.bool b1) (.slice A1 n1 c1) (.slice B1 m1 d1) (.bool p1) (.slice V1 r1 k1) (.slice U1 o1 q1) ∧ BoxS U0 gy (.bool b2) (.slice A2 n2 c2) (.slice B2 m2 d2) (.bool p2) (.slice V2 r2 k2) (.slice U2 o2 q2) ∧ (Rt U0 b1 A1 n1 c1 B1 m1 d1 rx ∧ Rt U0 p1 V1 r1 k1 U1 o1 q1 sx) ∧ (Rt U0 b2 A2 n2 c2 B2 m2 d2 ry ∧ Rt U0 p2 V2 r2 k2 U2 o2 q2 sy) ∧ Below V0.heap.size V0 U0 ∧ V0.heap.size ≤ gx ∧ V0.heap.size ≤ gy ∧ gx ≠ gy
section
variable {V0 wz : World} {g gx gy : Nat} {rx sx ry sy : Rat} {b1 p1 : Bool} {A1 B1 V1 U1 : Option Addr} {n1 c1 m1 d1 r1 k1 o1 q1 : Nat} {b2 p2 : Bool} {A2 B2 V2 U2 : Option Addr} {n2 c2 m2 d2 r2 k2 o2 q2 : Nat}
theorem loneSA (hx : Rt wz b1 A1 n1 c1 B1 m1 d1 rx) (gx_ : Rt wz p1 V1 r1 k1 U1 o1 q1 sx) (qq : Below V0.heap.size V0 wz) (T : TypeId) : LoneS V0 (wz.alloc (.cells #[.bool b1, .slice A1 n1 c1, .slice B1 m1 d1, .bool p1, .slice V1 r1 k1, .slice U1 o1 q1] T)) wz.heap.size b1 A1 n1 c1 B1 m1 d1 p1 V1 r1 k1 U1 o1 q1 rx sx := ⟨BoxS.new wz _ _ _ _ _ _ T, hx.alloc _, gx_.alloc _, qq.alloc qq.size _, qq.size⟩
theorem loneSB (e0 : wz.cell? ⟨g, 0, none⟩ = some (.bool false)) (e1 : wz.cell? ⟨g, 1, none⟩ = some (.slice none 0 0)) (e2 : wz.cell? ⟨g, 2, none⟩ = some (.slice none 0 0)) (e3 : wz.cell? ⟨g, 3, none⟩ = some (.bool false)) (e4 : wz.cell? ⟨g, 4, none⟩ = some (.slice none 0 0)) (e5 : wz.cell? ⟨g, 5, none⟩ = some (.slice none 0 0)) (hx : Rt wz b1 A1 n1 c1 B1 m1 d1 rx) (gx_ : Rt wz p1 V1 r1 k1 U1 o1 q1 sx) (qq : Below V0.heap.size V0 wz) (l : V0.heap.size ≤ g) : LoneS V0 (putS wz g (.bool b1) (.slice A1 n1 c1) (.slice B1 m1 d1) (.bool p1) (.slice V1 r1 k1) (.slice U1 o1 q1)) g b1 A1 n1 c1 B1 m1 d1 p1 V1 r1 k1 U1 o1 q1 rx sx :=
  have B : BoxS wz g (.bool false) (.slice none 0 0) (.slice none 0 0) (.bool false) (.slice none 0 0) (.slice none 0 0) := ⟨e0, e1, e2, e3, e4, e5⟩
  ⟨B.put _ _ _ _ _ _, hx.putS (held_void B) _ _, gx_.putS (held_void B) _ _, below_putS qq l _ _ _ _ _ _, l⟩
theorem pairSA (hx : Rt wz b1 A1 n1 c1 B1 m1 d1 rx) (gx_ : Rt wz p1 V1 r1 k1 U1 o1 q1 sx) (hy : Rt wz b2 A2 n2 c2 B2 m2 d2 ry) (gy_ : Rt wz p2 V2 r2 k2 U2 o2 q2 sy) (qq : Below V0.heap.size V0 wz) (T : TypeId) : BothS V0 ((wz.alloc (.cells #[.bool b1, .slice A1 n1 c1, .slice B1 m1 d1, .bool p1, .slice V1 r1 k1, .slice U1 o1 q1] T)).alloc (.cells #[.bool b2, .slice A2 n2 c2, .slice B2 m2 d2, .bool p2, .slice V2 r2 k2, .slice U2 o2 q2] T)) wz.heap.size (wz.heap.size + 1) b1 A1 n1 c1 B1 m1 d1 p1 V1 r1 k1 U1 o1 q1 b2 A2 n2 c2 B2 m2 d2 p2 V2 r2 k2 U2 o2 q2 rx sx ry sy :=
  ⟨(BoxS.new wz _ _ _ _ _ _ T).alloc _, BoxS.next wz _ _ _ _ _ _ _ T, ⟨(hx.alloc _).alloc _, (gx_.alloc _).alloc _⟩, ⟨(hy.alloc _).alloc _, (gy_.alloc _).alloc _⟩, (qq.alloc qq.size _).alloc (by have := qq.size; simp; omega) _, qq.size, Nat.le_succ_of_le qq.size, by omega⟩
theorem pairSA' (hx : Rt wz b1 A1 n1 c1 B1 m1 d1 rx) (gx_ : Rt wz p1 V1 r1 k1 U1 o1 q1 sx) (hy : Rt wz b2 A2 n2 c2 B2 m2 d2 ry) (gy_ : Rt wz p2 V2 r2 k2 U2 o2 q2 sy) (qq : Below V0.heap.size V0 wz) (T : TypeId) : BothS V0 ((wz.alloc (.cells #[.bool b2, .slice A2 n2 c2, .slice B2 m2 d2, .bool p2, .slice V2 r2 k2, .slice U2 o2 q2] T)).alloc (.cells #[.bool b1, .slice A1 n1 c1, .slice B1 m1 d1, .bool p1, .slice V1 r1 k1, .slice U1 o1 q1] T)) (wz.heap.size + 1) wz.heap.size b1 A1 n1 c1 B1 m1 d1 p1 V1 r1 k1 U1 o1 q1 b2 A2 n2 c2 B2 m2 d2 p2 V2 r2 k2 U2 o2 q2 rx sx ry sy :=
  ⟨BoxS.next wz _ _ _ _ _ _ _ T, (BoxS.new wz _ _ _ _ _ _ T).alloc _, ⟨(hx.alloc _).alloc _, (gx_.alloc _).alloc _⟩, ⟨(hy.alloc _).alloc _, (gy_.alloc _).alloc _⟩, (qq.alloc qq.size _).alloc (by have := qq.size; simp; omega) _, Nat.le_succ_of_le qq.size, qq.size, by omega⟩
theorem pairSB (e0 : wz.cell? ⟨gx, 0, none⟩ = some (.bool false)) (e1 : wz.cell? ⟨gx, 1, none⟩ = some (.slice none 0 0)) (e2 : wz.cell? ⟨gx, 2, none⟩ = some (.slice none 0 0)) (e3 : wz.cell? ⟨gx, 3, none⟩ = some (.bool false)) (e4 : wz.cell? ⟨gx, 4, none⟩ = some (.slice none 0 0)) (e5 : wz.cell? ⟨gx, 5, none⟩ = some (.slice none 0 0)) (hx : Rt wz b1 A1 n1 c1 B1 m1 d1 rx) (gx_ : Rt wz p1 V1 r1 k1 U1 o1 q1 sx) (hy : Rt wz b2 A2 n2 c2 B2 m2 d2 ry) (gy_ : Rt wz p2 V2 r2 k2 U2 o2 q2 sy) (qq : Below V0.heap.size V0 wz) (l : V0.heap.size ≤ gx) (T : TypeId) : BothS V0 ((putS wz gx (.bool b1) (.slice A1 n1 c1) (.slice B1 m1 d1) (.bool p1) (.slice V1 r1 k1) (.slice U1 o1 q1)).alloc (.cells #[.bool b2, .slice A2 n2 c2, .slice B2 m2 d2, .bool p2, .slice V2 r2 k2, .slice U2 o2 q2] T)) gx wz.heap.size b1 A1 n1 c1 B1 m1 d1 p1 V1 r1 k1 U1 o1 q1 b2 A2 n2 c2 B2 m2 d2 p2 V2 r2 k2 U2 o2 q2 rx sx ry sy :=
  have B : BoxS wz gx (.bool false) (.slice none 0 0) (.slice none 0 0) (.bool false) (.slice none 0 0) (.slice none 0 0) := ⟨e0, e1, e2, e3, e4, e5⟩
  ⟨(B.put _ _ _ _ _ _).alloc _, by have := BoxS.new (putS wz gx (.bool b1) (.slice A1 n1 c1) (.slice B1 m1 d1) (.bool p1) (.slice V1 r1 k1) (.slice U1 o1 q1)) (.bool b2) (.slice A2 n2 c2) (.slice B2 m2 d2) (.bool p2) (.slice V2 r2 k2) (.slice U2 o2 q2) T; simpa using this, ⟨(hx.putS (held_void B) _ _).alloc _, (gx_.putS (held_void B) _ _).alloc _⟩, ⟨(hy.putS (held_void B) _ _).alloc _, (gy_.putS (held_void B) _ _).alloc _⟩, (below_putS qq l _ _ _ _ _ _).alloc (by have := qq.size; simp; omega) _, l, qq.size, by have := cell_lt e0; simp only at this; omega⟩
theorem pairSB' (e0 : wz.cell? ⟨gy, 0, none⟩ = some (.bool false)) (e1 : wz.cell? ⟨gy, 1, none⟩ = some (.slice none 0 0)) (e2 : wz.cell? ⟨gy, 2, none⟩ = some (.slice none 0 0)) (e3 : wz.cell? ⟨gy, 3, none⟩ = some (.bool false)) (e4 : wz.cell? ⟨gy, 4, none⟩ = some (.slice none 0 0)) (e5 : wz.cell? ⟨gy, 5, none⟩ = some (.slice none 0 0)) (hx : Rt wz b1 A1 n1 c1 B1 m1 d1 rx) (gx_ : Rt wz p1 V1 r1 k1 U1 o1 q1 sx) (hy : Rt wz b2 A2 n2 c2 B2 m2 d2 ry) (gy_ : Rt wz p2 V2 r2 k2 U2 o2 q2 sy) (qq : Below V0.heap.size V0 wz) (l : V0.heap.size ≤ gy) (T : TypeId) : BothS V0 ((putS wz gy (.bool b2) (.slice A2 n2 c2) (.slice B2 m2 d2) (.bool p2) (.slice V2 r2 k2) (.slice U2 o2 q2)).alloc (.cells #[.bool b1, .slice A1 n1 c1, .slice B1 m1 d1, .bool p1, .slice V1 r1 k1, .slice U1 o1 q1] T)) wz.heap.size gy b1 A1 n1 c1 B1 m1 d1 p1 V1 r1 k1 U1 o1 q1 b2 A2 n2 c2 B2 m2 d2 p2 V2 r2 k2 U2 o2 q2 rx sx ry sy :=
  have B : BoxS wz gy (.bool false) (.slice none 0 0) (.slice none 0 0) (.bool false) (.slice none 0 0) (.slice none 0 0) := ⟨e0, e1, e2, e3, e4, e5⟩
  ⟨by have := BoxS.new (putS wz gy (.bool b2) (.slice A2 n2 c2) (.slice B2 m2 d2) (.bool p2) (.slice V2 r2 k2) (.slice U2 o2 q2)) (.bool b1) (.slice A1 n1 c1) (.slice B1 m1 d1) (.bool p1) (.slice V1 r1 k1) (.slice U1 o1 q1) T; simpa using this, (B.put _ _ _ _ _ _).alloc _, ⟨(hx.putS (held_void B) _ _).alloc _, (gx_.putS (held_void B) _ _).alloc _⟩, ⟨(hy.putS (held_void B) _ _).alloc _, (gy_.putS (held_void B) _ _).alloc _⟩, (below_putS qq l _ _ _ _ _ _).alloc (by have := qq.size; simp; omega) _, qq.size, l, by have := cell_lt e0; simp only at this; omega⟩
theorem pairSC (e0 : wz.cell? ⟨gx, 0, none⟩ = some (.bool false)) (e1 : wz.cell? ⟨gx, 1, none⟩ = some (.slice none 0 0)) (e2 : wz.cell? ⟨gx, 2, none⟩ = some (.slice none 0 0)) (e3 : wz.cell? ⟨gx, 3, none⟩ = some (.bool false)) (e4 : wz.cell? ⟨gx, 4, none⟩ = some (.slice none 0 0)) (e5 : wz.cell? ⟨gx, 5, none⟩ = some (.slice none 0 0)) (f0 : wz.cell? ⟨gy, 0, none⟩ = some (.bool false)) (f1 : wz.cell? ⟨gy, 1, none⟩ = some (.slice none 0 0)) (f2 : wz.cell? ⟨gy, 2, none⟩ = some (.slice none 0 0)) (f3 : wz.cell? ⟨gy, 3, none⟩ = some (.bool false)) (f4 : wz.cell? ⟨gy, 4, none⟩ = some (.slice none 0 0)) (f5 : wz.cell? ⟨gy, 5, none⟩ = some (.slice none 0 0)) (hx : Rt wz b1 A1 n1 c1 B1 m1 d1 rx) (gx_ : Rt wz p1 V1 r1 k1 U1 o1 q1 sx) (hy : Rt wz b2 A2 n2 c2 B2 m2 d2 ry) (gy_ : Rt wz p2 V2 r2 k2 U2 o2 q2 sy) (qq : Below V0.heap.size V0 wz) (lx : V0.heap.size ≤ gx) (ly : V0.heap.size ≤ gy) (hne : gx ≠ gy) : BothS V0 (putS (putS wz gx (.bool b1) (.slice A1 n1 c1) (.slice B1 m1 d1) (.bool p1) (.slice V1 r1 k1) (.slice U1 o1 q1)) gy (.bool b2) (.slice A2 n2 c2) (.slice B2 m2 d2) (.bool p2) (.slice V2 r2 k2) (.slice U2 o2 q2)) gx gy b1 A1 n1 c1 B1 m1 d1 p1 V1 r1 k1 U1 o1 q1 b2 A2 n2 c2 B2 m2 d2 p2 V2 r2 k2 U2 o2 q2 rx sx ry sy :=
  have B : BoxS wz gx (.bool false) (.slice none 0 0) (.slice none 0 0) (.bool false) (.slice none 0 0) (.slice none 0 0) := ⟨e0, e1, e2, e3, e4, e5⟩
  have D : BoxS (putS wz gx (.bool b1) (.slice A1 n1 c1) (.slice B1 m1 d1) (.bool p1) (.slice V1 r1 k1) (.slice U1 o1 q1)) gy (.bool false) (.slice none 0 0) (.slice none 0 0) (.bool false) (.slice none 0 0) (.slice none 0 0) := BoxS.other ⟨f0, f1, f2, f3, f4, f5⟩ (Ne.symm hne) _ _ _ _ _ _
  ⟨(B.put _ _ _ _ _ _).other hne _ _ _ _ _ _, D.put _ _ _ _ _ _, ⟨(hx.putS (held_void B) _ _).putS (held_void D) _ _, (gx_.putS (held_void B) _ _).putS (held_void D) _ _⟩, ⟨(hy.putS (held_void B) _ _).putS (held_void D) _ _, (gy_.putS (held_void B) _ _).putS (held_void D) _ _⟩, below_putS (below_putS qq lx _ _ _ _ _ _) ly _ _ _ _ _ _, lx, ly, hne⟩
end

end Go.Proofs.YtanpklbconflmaaGreat

/-
  What the laws of ival lean on: alive.
-/
namespace Go.Proofs.YtanpklbconflmaaGreat
set_option maxRecDepth 100000
open Go.RowKit
set_option linter.unusedVariables false
set_option linter.unusedSimpArgs false

set_option maxHeartbeats 8000000 in
theorem alive7_any (w : World) :
    Calls Tryz.prog 11 #[] w (GotV w (.bool true)) := by
  obtain ⟨ra, hra⟩ : ∃ r, ((2 : Int) : Rat) = r := ⟨_, rfl⟩
  obtain ⟨rm, hrm⟩ : ∃ r, ((-2 : Int) : Rat) = r := ⟨_, rfl⟩
  obtain ⟨ro, hro⟩ : ∃ r, ((1 : Int) : Rat) = r := ⟨_, rfl⟩
  obtain ⟨rb, hrb⟩ : ∃ r, mkRat 3 2 = r := ⟨_, rfl⟩
  have sra : Sz ra 1 := by rw [← hra]; exact sz_of (len_one (by decide))
  have Cra : ∀ W : World, Calls Tryz.prog 36 #[.int .i64 2] W (GotRt W ra) := fun W => by rw [← hra]; exact rtof_N W _ (by unfold I64; omega)
  have srm : Sz rm 1 := by rw [← hrm]; exact sz_of (len_one (by decide))
  have Crm : ∀ W : World, Calls Tryz.prog 36 #[.int .i64 (-2)] W (GotRt W rm) := fun W => by rw [← hrm]; exact rtof_N W _ (by unfold I64; omega)
  have sro : Sz ro 1 := by rw [← hro]; exact sz_of (len_one (by decide))
  have Cro : ∀ W : World, Calls Tryz.prog 36 #[.int .i64 1] W (GotRt W ro) := fun W => by rw [← hro]; exact rtof_N W _ (by unfold I64; omega)
  have srb : Sz rb 1 := by rw [← hrb]; exact sz_mk (by decide) (len_one (by decide)) (len_one (by decide))
  have Crb : ∀ W : World, Calls Tryz.prog 41 #[.int .i64 3, .int .i64 2] W (GotRt W rb) := fun W => by rw [← hrb]; exact rtfrac_N W (by unfold I64; omega) (by unfold I64; omega) (by decide)
  have f1_ : bak (sqr ra (1 : Int).toNat : Int) (1 : Int).toNat = ro := by rw [← hra, ← hro]; decide +kernel
  have f2_ : sqh ra (1 : Int).toNat = rb := by rw [← hra, ← hrb]; decide +kernel
  have f3_ : decide (ra.num < 0) = false := by rw [← hra]; decide +kernel
  have f4_ : decide (ra + rm ≤ ((0 : Int) : Rat) ∧ ((0 : Int) : Rat) ≤ ra + rm) = true := by rw [← hra, ← hrm]; decide +kernel
  have f5_ : decide (ro ≤ rb) = true := by rw [← hro, ← hrb]; decide +kernel
  have f6_ : decide (ro ≤ ro ∧ ro ≤ rb) = true := by rw [← hro, ← hrb]; decide +kernel
  have f7_ : decide ((ro ≤ ro ∧ ro ≤ rb) ∧ (ro ≤ rb ∧ rb ≤ rb)) = true := by rw [← hro, ← hrb]; decide +kernel
  have f8_ : decide ((ra ≤ ro ∧ ro ≤ ra) ∧ (ra ≤ rb ∧ rb ≤ ra)) = false := by rw [← hra, ← hro, ← hrb]; decide +kernel
  have CQ : ∀ {W : World} {b p : Bool} {A B V U : Option Addr} {n c m d r k o q : Nat}, Rt W b A n c B m d ra → Rt W p V r k U o q ra → Calls Tryz.prog 30 #[.agg #[.bool b, .slice A n c, .slice B m d, .bool p, .slice V r k, .slice U o q], .int .i64 1] W (GotSp W ro rb 0) := fun hh gg => by rw [← f1_, ← f2_]; exact isqrt_N hh gg (sra.le (by omega)) (sra.le (by omega)) (by omega) (by omega) (hh.1.2.trans f3_) Rat.le_refl
  have sam := sra.add srm
  have CD : ∀ {W : World} {b0 p0 : Bool} {A0 B0 V0 U0 : Option Addr} {n0 c0 m0 d0 r0 k0 o0 q0 : Nat} {b1 p1 : Bool} {A1 B1 V1 U1 : Option Addr} {n1 c1 m1 d1 r1 k1 o1 q1 : Nat}, Rt W b0 A0 n0 c0 B0 m0 d0 ra → Rt W p0 V0 r0 k0 U0 o0 q0 ra → Rt W b1 A1 n1 c1 B1 m1 d1 (ra + rm) → Rt W p1 V1 r1 k1 U1 o1 q1 (ra + rm) → Calls Tryz.prog 22 #[.agg #[.bool b0, .slice A0 n0 c0, .slice B0 m0 d0, .bool p0, .slice V0 r0 k0, .slice U0 o0 q0], .agg #[.bool b1, .slice A1 n1 c1, .slice B1 m1 d1, .bool p1, .slice V1 r1 k1, .slice U1 o1 q1]] W (GotV W (.tuple #[.agg #[.bool false, .slice none 0 0, .slice none 0 0, .bool false, .slice none 0 0, .slice none 0 0], .int .i64 4])) := fun a b c d => idiv_no a b (sra.le (by omega)) (sra.le (by omega)) c d (sam.le (by omega)) (sam.le (by omega)) f4_
  have HF := Lib.hid (And.intro f5_ (And.intro f6_ (And.intro f7_ f8_)))
  clear hra hrm hro hrb f1_ f2_ f3_ f4_ f5_ f6_ f7_ f8_
  have cc := Below.refl w.heap.size w
  go_enter Tryz.func11, Tryz.ntmps11
  go_wp2_with fail
  refine (Cra w).mono ?_
  rintro e w1 ⟨ba, Aa, na, ca, Ba, ma, da, rfl, ha, b⟩
  replace cc := bK cc b
  clear b
  go_wp2_with fail
  refine (iof_N ha (sra.le (by omega))).mono ?_
  rintro e w2 ⟨bz, Az, nz, cz, Bz, mz, dz, pz, Vz, rz, kz, Uz, oz, qz, rfl, ⟨hz, gz⟩, b⟩
  replace ha := ha.on b
  replace cc := bK cc b
  clear b
  go_wp2_with fail
  generalize hv_ : w2.alloc (.cells #[.bool bz, .slice Az nz cz, .slice Bz mz dz, .bool pz, .slice Vz rz kz, .slice Uz oz qz] 29) = v3
  have bA : Below w2.heap.size w2 v3 := by rw [← hv_]; exact below_one _ _
  replace ha := ha.on bA
  replace hz := hz.on bA
  replace gz := gz.on bA
  replace cc := bK cc bA
  clear bA
  obtain ⟨x0, x1, x2, x3, x4, x5⟩ : Cs6 v3 w2.heap.size (.bool bz) (.slice Az nz cz) (.slice Bz mz dz) (.bool pz) (.slice Vz rz kz) (.slice Uz oz qz) := by simp [Cs6, ← hv_, go_sem]
  have xl : w2.heap.size < v3.heap.size := by simp [← hv_]
  clear hv_
  go_wp2_with fail
  refine (CQ hz gz).mono ?_
  rintro e w4 ⟨bu, Au, nu, cu, Bu, mu, du, pu, Vu, ru, ku, Uu, ou, qu, rfl, ⟨hu, gu⟩, b⟩
  replace ha := ha.on b
  replace hz := hz.on b
  replace gz := gz.on b
  rewrite [cR b xl] at x0 x1 x2 x3 x4 x5
  replace xl := lK b xl
  replace cc := bK cc b
  clear b
  go_wp2_with fail
  generalize hv_ : w4.alloc (.cells #[.bool bu, .slice Au nu cu, .slice Bu mu du, .bool pu, .slice Vu ru ku, .slice Uu ou qu] 29) = v5
  have bA : Below w4.heap.size w4 v5 := by rw [← hv_]; exact below_one _ _
  replace ha := ha.on bA
  replace hz := hz.on bA
  replace gz := gz.on bA
  replace hu := hu.on bA
  replace gu := gu.on bA
  rewrite [cR bA xl] at x0 x1 x2 x3 x4 x5
  replace xl := lK bA xl
  replace cc := bK cc bA
  clear bA
  obtain ⟨l0, l1, l2, l3, l4, l5⟩ : Cs6 v5 w4.heap.size (.bool bu) (.slice Au nu cu) (.slice Bu mu du) (.bool pu) (.slice Vu ru ku) (.slice Uu ou qu) := by simp [Cs6, ← hv_, go_sem]
  have ll : w4.heap.size < v5.heap.size := by simp [← hv_]
  clear hv_
  go_upto_region 3 with fail
  go_cut [4, 5] (fun u ue wx => ∃ (g : Nat), u = .pointer (some ⟨g, 0, none⟩) ∧ ue = .int .i64 4 ∧ LoneN v5 wx g)
  case first =>
    have BB0 : Below v5.heap.size v5 v5.drew := below_drewN (Below.refl _ v5) 1
    have BB1 : Below v5.heap.size v5 (v5.alloc (.cells #[.bool false, .slice none 0 0, .slice none 0 0, .bool false, .slice none 0 0, .slice none 0 0] 29)).drew := below_drewN (below_one _ _) 1
    go_region_held3 (fun w' => w'.cell? ⟨w2.heap.size, 0, none⟩ = some (.bool bz) ∧ w'.cell? ⟨w2.heap.size, 1, none⟩ = some (.slice Az nz cz) ∧ w'.cell? ⟨w2.heap.size, 2, none⟩ = some (.slice Bz mz dz) ∧ w'.cell? ⟨w2.heap.size, 3, none⟩ = some (.bool pz) ∧ w'.cell? ⟨w2.heap.size, 4, none⟩ = some (.slice Vz rz kz) ∧ w'.cell? ⟨w2.heap.size, 5, none⟩ = some (.slice Uz oz qz) ∧ w'.cell? ⟨w4.heap.size, 0, none⟩ = some (.bool bu) ∧ w'.cell? ⟨w4.heap.size, 1, none⟩ = some (.slice Au nu cu) ∧ w'.cell? ⟨w4.heap.size, 2, none⟩ = some (.slice Bu mu du) ∧ w'.cell? ⟨w4.heap.size, 3, none⟩ = some (.bool pu) ∧ w'.cell? ⟨w4.heap.size, 4, none⟩ = some (.slice Vu ru ku) ∧ w'.cell? ⟨w4.heap.size, 5, none⟩ = some (.slice Uu ou qu))
      (first | with_reducible exact ⟨(cK qq x0 xl), (cK qq x1 xl), (cK qq x2 xl), (cK qq x3 xl), (cK qq x4 xl), (cK qq x5 xl), (cK qq l0 ll), (cK qq l1 ll), (cK qq l2 ll), (cK qq l3 ll), (cK qq l4 ll), (cK qq l5 ll)⟩ | with_reducible exact ⟨keep_alloc ((cK qq x0 xl)), keep_alloc ((cK qq x1 xl)), keep_alloc ((cK qq x2 xl)), keep_alloc ((cK qq x3 xl)), keep_alloc ((cK qq x4 xl)), keep_alloc ((cK qq x5 xl)), keep_alloc ((cK qq l0 ll)), keep_alloc ((cK qq l1 ll)), keep_alloc ((cK qq l2 ll)), keep_alloc ((cK qq l3 ll)), keep_alloc ((cK qq l4 ll)), keep_alloc ((cK qq l5 ll))⟩ | with_reducible exact ⟨((cell_putS (by omega)).trans (cK qq x0 xl)), ((cell_putS (by omega)).trans (cK qq x1 xl)), ((cell_putS (by omega)).trans (cK qq x2 xl)), ((cell_putS (by omega)).trans (cK qq x3 xl)), ((cell_putS (by omega)).trans (cK qq x4 xl)), ((cell_putS (by omega)).trans (cK qq x5 xl)), ((cell_putS (by omega)).trans (cK qq l0 ll)), ((cell_putS (by omega)).trans (cK qq l1 ll)), ((cell_putS (by omega)).trans (cK qq l2 ll)), ((cell_putS (by omega)).trans (cK qq l3 ll)), ((cell_putS (by omega)).trans (cK qq l4 ll)), ((cell_putS (by omega)).trans (cK qq l5 ll))⟩ | go_keep)
      (first
        | (go_at_call 36; (with_reducible refine (Crm _).mono ?_); rintro e y1 ⟨be, Ae, ne, ce, Be, me, de, rfl, he, q⟩; have qq := BB0.trans (q.mono BB0.size); have ha' := (ha.on BB0).on q; have hz' := (hz.on BB0).on q; have gz' := (gz.on BB0).on q; have hu' := (hu.on BB0).on q; have gu' := (gu.on BB0).on q; have qs1 := qq.size; clear q)
        | (go_at_call 36; (with_reducible refine (Crm _).mono ?_); rintro e y1 ⟨be, Ae, ne, ce, Be, me, de, rfl, he, q⟩; have qq := BB1.trans (q.mono BB1.size); have ha' := (ha.on BB1).on q; have hz' := (hz.on BB1).on q; have gz' := (gz.on BB1).on q; have hu' := (hu.on BB1).on q; have gu' := (gu.on BB1).on q; have qs1 := qq.size; obtain ⟨bo_0, fo_0, bo_1, fo_1, bo_2, fo_2, bo_3, fo_3, bo_4, fo_4, bo_5, fo_5, ol⟩ := zb6 (g := v5.heap.size) q (by simp) (by simp [Cs6, go_sem]) (by simp [Fz6, go_sem]); clear q)
        | (go_at_call 15; have up := Below.refl y1.heap.size y1; (with_reducible refine (iof_N (he.on up) (srm.le (by omega))).mono ?_); rintro e y2 ⟨bf, Af, nf, cf, Bf, mf, df, pf, Vf, rf, kf, Uf, of, qf, rfl, ⟨hf, gf⟩, q⟩; replace qq := uK qq up q; replace ha' := (ha'.on up).on q; replace hz' := (hz'.on up).on q; replace gz' := (gz'.on up).on q; replace hu' := (hu'.on up).on q; replace gu' := (gu'.on up).on q; replace he := (he.on up).on q; (try (rewrite [cR up ol, cR q (lK up ol)] at bo_0 bo_1 bo_2 bo_3 bo_4 bo_5; rewrite [fR up ol, fR q (lK up ol)] at fo_0 fo_1 fo_2 fo_3 fo_4 fo_5; replace ol := lK q (lK up ol))); have qs2 := qq.size; clear q up)
        | (go_at_call 15; have up := below_one y1 (.cells #[.bool false, .slice none 0 0, .slice none 0 0, .bool false, .slice none 0 0, .slice none 0 0] 29); (with_reducible refine (iof_N (he.on up) (srm.le (by omega))).mono ?_); rintro e y2 ⟨bf, Af, nf, cf, Bf, mf, df, pf, Vf, rf, kf, Uf, of, qf, rfl, ⟨hf, gf⟩, q⟩; replace qq := uK qq up q; replace ha' := (ha'.on up).on q; replace hz' := (hz'.on up).on q; replace gz' := (gz'.on up).on q; replace hu' := (hu'.on up).on q; replace gu' := (gu'.on up).on q; replace he := (he.on up).on q; (try (rewrite [cR up ol, cR q (lK up ol)] at bo_0 bo_1 bo_2 bo_3 bo_4 bo_5; rewrite [fR up ol, fR q (lK up ol)] at fo_0 fo_1 fo_2 fo_3 fo_4 fo_5; replace ol := lK q (lK up ol))); have qs2 := qq.size; obtain ⟨bo_0, fo_0, bo_1, fo_1, bo_2, fo_2, bo_3, fo_3, bo_4, fo_4, bo_5, fo_5, ol⟩ := zb6 (g := y1.heap.size) q (by simp) (by simp [Cs6, go_sem]) (by simp [Fz6, go_sem]); clear q up)
        | (go_at_call 24; have up := Below.refl y2.heap.size y2; (with_reducible refine (iadd_N (hz'.on up) (gz'.on up) (sra.le (by omega)) (sra.le (by omega)) (hf.on up) (gf.on up) (srm.le (by omega)) (srm.le (by omega))).mono ?_); rintro e y3 ⟨bi, Ai, ni, ci, Bi, mi, di, pi, Vi, ri, ki, Ui, oi, qi, rfl, ⟨hi, gi⟩, q⟩; replace qq := uK qq up q; replace ha' := (ha'.on up).on q; replace hz' := (hz'.on up).on q; replace gz' := (gz'.on up).on q; replace hu' := (hu'.on up).on q; replace gu' := (gu'.on up).on q; replace he := (he.on up).on q; replace hf := (hf.on up).on q; replace gf := (gf.on up).on q; (try (rewrite [cR up ol, cR q (lK up ol)] at bo_0 bo_1 bo_2 bo_3 bo_4 bo_5; rewrite [fR up ol, fR q (lK up ol)] at fo_0 fo_1 fo_2 fo_3 fo_4 fo_5; replace ol := lK q (lK up ol))); have qs3 := qq.size; clear q up)
        | (go_at_call 24; have up := below_one y2 (.cells #[.bool false, .slice none 0 0, .slice none 0 0, .bool false, .slice none 0 0, .slice none 0 0] 29); (with_reducible refine (iadd_N (hz'.on up) (gz'.on up) (sra.le (by omega)) (sra.le (by omega)) (hf.on up) (gf.on up) (srm.le (by omega)) (srm.le (by omega))).mono ?_); rintro e y3 ⟨bi, Ai, ni, ci, Bi, mi, di, pi, Vi, ri, ki, Ui, oi, qi, rfl, ⟨hi, gi⟩, q⟩; replace qq := uK qq up q; replace ha' := (ha'.on up).on q; replace hz' := (hz'.on up).on q; replace gz' := (gz'.on up).on q; replace hu' := (hu'.on up).on q; replace gu' := (gu'.on up).on q; replace he := (he.on up).on q; replace hf := (hf.on up).on q; replace gf := (gf.on up).on q; (try (rewrite [cR up ol, cR q (lK up ol)] at bo_0 bo_1 bo_2 bo_3 bo_4 bo_5; rewrite [fR up ol, fR q (lK up ol)] at fo_0 fo_1 fo_2 fo_3 fo_4 fo_5; replace ol := lK q (lK up ol))); have qs3 := qq.size; obtain ⟨bo_0, fo_0, bo_1, fo_1, bo_2, fo_2, bo_3, fo_3, bo_4, fo_4, bo_5, fo_5, ol⟩ := zb6 (g := y2.heap.size) q (by simp) (by simp [Cs6, go_sem]) (by simp [Fz6, go_sem]); clear q up)
        | (go_at_call 22; have up := Below.refl y3.heap.size y3; (with_reducible refine (CD (hz'.on up) (gz'.on up) (hi.on up) (gi.on up)).mono ?_); rintro e y4 ⟨rfl, q⟩; replace qq := uK qq up q; replace ha' := (ha'.on up).on q; replace hz' := (hz'.on up).on q; replace gz' := (gz'.on up).on q; replace hu' := (hu'.on up).on q; replace gu' := (gu'.on up).on q; replace he := (he.on up).on q; replace hf := (hf.on up).on q; replace gf := (gf.on up).on q; replace hi := (hi.on up).on q; replace gi := (gi.on up).on q; (try (rewrite [cR up ol, cR q (lK up ol)] at bo_0 bo_1 bo_2 bo_3 bo_4 bo_5; rewrite [fR up ol, fR q (lK up ol)] at fo_0 fo_1 fo_2 fo_3 fo_4 fo_5; replace ol := lK q (lK up ol))); have qs4 := qq.size; clear q up)
        | (go_at_call 22; have up := below_one y3 (.cells #[.bool false, .slice none 0 0, .slice none 0 0, .bool false, .slice none 0 0, .slice none 0 0] 29); (with_reducible refine (CD (hz'.on up) (gz'.on up) (hi.on up) (gi.on up)).mono ?_); rintro e y4 ⟨rfl, q⟩; replace qq := uK qq up q; replace ha' := (ha'.on up).on q; replace hz' := (hz'.on up).on q; replace gz' := (gz'.on up).on q; replace hu' := (hu'.on up).on q; replace gu' := (gu'.on up).on q; replace he := (he.on up).on q; replace hf := (hf.on up).on q; replace gf := (gf.on up).on q; replace hi := (hi.on up).on q; replace gi := (gi.on up).on q; (try (rewrite [cR up ol, cR q (lK up ol)] at bo_0 bo_1 bo_2 bo_3 bo_4 bo_5; rewrite [fR up ol, fR q (lK up ol)] at fo_0 fo_1 fo_2 fo_3 fo_4 fo_5; replace ol := lK q (lK up ol))); have qs4 := qq.size; obtain ⟨bo_0, fo_0, bo_1, fo_1, bo_2, fo_2, bo_3, fo_3, bo_4, fo_4, bo_5, fo_5, ol⟩ := zb6 (g := y3.heap.size) q (by simp) (by simp [Cs6, go_sem]) (by simp [Fz6, go_sem]); clear q up))
    all_goals (go_wp2_with fail; go_meet)
    all_goals refine ⟨_, rfl, rfl, ?_⟩
    all_goals first
      | with_reducible exact loneNA qq _
      | with_reducible exact loneNB bo_0 bo_1 bo_2 bo_3 bo_4 bo_5 qq (by omega)
  case rest =>
    obtain ⟨gk, rfl, rfl, ⟨k0, k1, k2, k3, k4, k5⟩, b, kge⟩ := hcut
    have kl := cell_lt k0
    simp only at kl
    have kqx : w2.heap.size < gk := Nat.lt_of_lt_of_le xl kge
    have kql : w4.heap.size < gk := Nat.lt_of_lt_of_le ll kge
    replace ha := ha.on b
    replace hz := hz.on b
    replace gz := gz.on b
    replace hu := hu.on b
    replace gu := gu.on b
    rewrite [cR b xl] at x0 x1 x2 x3 x4 x5
    replace xl := lK b xl
    rewrite [cR b ll] at l0 l1 l2 l3 l4 l5
    replace ll := lK b ll
    replace cc := bK cc b
    clear b
    go_wp2_with fail
    refine (Cro _).mono ?_
    rintro e w6 ⟨bw, Aw, nw, cw, Bw, mw, dw, rfl, hw, b⟩
    replace ha := ha.on b
    replace hz := hz.on b
    replace gz := gz.on b
    replace hu := hu.on b
    replace gu := gu.on b
    rewrite [cR b xl] at x0 x1 x2 x3 x4 x5
    replace xl := lK b xl
    rewrite [cR b ll] at l0 l1 l2 l3 l4 l5
    replace ll := lK b ll
    rewrite [cR b kl] at k0 k1 k2 k3 k4 k5
    replace kl := lK b kl
    replace cc := bK cc b
    clear b
    go_wp2_with fail
    refine (Crb _).mono ?_
    rintro e w7 ⟨bj, Aj, nj, cj, Bj, mj, dj, rfl, hj, b⟩
    replace ha := ha.on b
    replace hz := hz.on b
    replace gz := gz.on b
    replace hu := hu.on b
    replace gu := gu.on b
    replace hw := hw.on b
    rewrite [cR b xl] at x0 x1 x2 x3 x4 x5
    replace xl := lK b xl
    rewrite [cR b ll] at l0 l1 l2 l3 l4 l5
    replace ll := lK b ll
    rewrite [cR b kl] at k0 k1 k2 k3 k4 k5
    replace kl := lK b kl
    replace cc := bK cc b
    clear b
    go_wp2_with fail
    generalize hv_ : w7.alloc (.cells #[.bool bw, .slice Aw nw cw, .slice Bw mw dw, .bool bj, .slice Aj nj cj, .slice Bj mj dj] 29) = v8
    have bA : Below w7.heap.size w7 v8 := by rw [← hv_]; exact below_one _ _
    replace ha := ha.on bA
    replace hz := hz.on bA
    replace gz := gz.on bA
    replace hu := hu.on bA
    replace gu := gu.on bA
    replace hw := hw.on bA
    replace hj := hj.on bA
    rewrite [cR bA xl] at x0 x1 x2 x3 x4 x5
    replace xl := lK bA xl
    rewrite [cR bA ll] at l0 l1 l2 l3 l4 l5
    replace ll := lK bA ll
    rewrite [cR bA kl] at k0 k1 k2 k3 k4 k5
    replace kl := lK bA kl
    replace cc := bK cc bA
    clear bA
    obtain ⟨q0, q1, q2, q3, q4, q5⟩ : Cs6 v8 w7.heap.size (.bool bw) (.slice Aw nw cw) (.slice Bw mw dw) (.bool bj) (.slice Aj nj cj) (.slice Bj mj dj) := by simp [Cs6, ← hv_, go_sem]
    have ql : w7.heap.size < v8.heap.size := by simp [← hv_]
    clear hv_
    go_wp2_with fail
    have bD : Below v8.heap.size v8 v8.drew := below_drewN (Below.refl _ v8) 1
    replace ha := ha.on bD
    replace hz := hz.on bD
    replace gz := gz.on bD
    replace hu := hu.on bD
    replace gu := gu.on bD
    replace hw := hw.on bD
    replace hj := hj.on bD
    rewrite [cR bD xl] at x0 x1 x2 x3 x4 x5
    replace xl := lK bD xl
    rewrite [cR bD ll] at l0 l1 l2 l3 l4 l5
    replace ll := lK bD ll
    rewrite [cR bD kl] at k0 k1 k2 k3 k4 k5
    replace kl := lK bD kl
    rewrite [cR bD ql] at q0 q1 q2 q3 q4 q5
    replace ql := lK bD ql
    replace cc := bK cc bD
    clear bD
    refine wp_region_held_drew (S := fun w' => w'.cell? ⟨w2.heap.size, 0, none⟩ = some (.bool bz) ∧ w'.cell? ⟨w2.heap.size, 1, none⟩ = some (.slice Az nz cz) ∧ w'.cell? ⟨w2.heap.size, 2, none⟩ = some (.slice Bz mz dz) ∧ w'.cell? ⟨w2.heap.size, 3, none⟩ = some (.bool pz) ∧ w'.cell? ⟨w2.heap.size, 4, none⟩ = some (.slice Vz rz kz) ∧ w'.cell? ⟨w2.heap.size, 5, none⟩ = some (.slice Uz oz qz) ∧ w'.cell? ⟨w4.heap.size, 0, none⟩ = some (.bool bu) ∧ w'.cell? ⟨w4.heap.size, 1, none⟩ = some (.slice Au nu cu) ∧ w'.cell? ⟨w4.heap.size, 2, none⟩ = some (.slice Bu mu du) ∧ w'.cell? ⟨w4.heap.size, 3, none⟩ = some (.bool pu) ∧ w'.cell? ⟨w4.heap.size, 4, none⟩ = some (.slice Vu ru ku) ∧ w'.cell? ⟨w4.heap.size, 5, none⟩ = some (.slice Uu ou qu) ∧ w'.cell? ⟨gk, 0, none⟩ = some (.bool false) ∧ w'.cell? ⟨gk, 1, none⟩ = some (.slice none 0 0) ∧ w'.cell? ⟨gk, 2, none⟩ = some (.slice none 0 0) ∧ w'.cell? ⟨gk, 3, none⟩ = some (.bool false) ∧ w'.cell? ⟨gk, 4, none⟩ = some (.slice none 0 0) ∧ w'.cell? ⟨gk, 5, none⟩ = some (.slice none 0 0) ∧ w'.cell? ⟨w7.heap.size, 0, none⟩ = some (.bool bw) ∧ w'.cell? ⟨w7.heap.size, 1, none⟩ = some (.slice Aw nw cw) ∧ w'.cell? ⟨w7.heap.size, 2, none⟩ = some (.slice Bw mw dw) ∧ w'.cell? ⟨w7.heap.size, 3, none⟩ = some (.bool bj) ∧ w'.cell? ⟨w7.heap.size, 4, none⟩ = some (.slice Aj nj cj) ∧ w'.cell? ⟨w7.heap.size, 5, none⟩ = some (.slice Bj mj dj)) (by kernel_rfl) ?_ (fun hHeld => ?_)
    · exact ⟨x0, x1, x2, x3, x4, x5, l0, l1, l2, l3, l4, l5, k0, k1, k2, k3, k4, k5, q0, q1, q2, q3, q4, q5⟩
    refine wpAnyH_take (i := 0) (v := ?_) rfl (by kernel_rfl) (by kernel_rfl) (by kernel_rfl) (fun _ _ _ h => h) (Or.inl ⟨by rfl, ?_⟩) hHeld ?_
    rotate_left
    · (intro w hSw; (try dsimp only at hSw); go_simp; (try with_reducible rfl))
    try simp only [Act.put, pT]
    refine wpAnyH_take (i := 1) (v := ?_) rfl (by kernel_rfl) (by kernel_rfl) (by kernel_rfl) (fun _ _ _ h => h) (Or.inl ⟨by rfl, ?_⟩) hHeld ?_
    rotate_left
    · (intro w hSw; (try dsimp only at hSw); go_simp; (try with_reducible rfl))
    try simp only [Act.put, pT]
    refine wpAnyH_take (i := 2) (v := ?_) rfl (by kernel_rfl) (by kernel_rfl) (by kernel_rfl) (fun _ _ _ h => h) (Or.inl ⟨by rfl, ?_⟩) hHeld ?_
    rotate_left
    · (intro w hSw; (try dsimp only at hSw); go_simp; (try with_reducible rfl))
    try simp only [Act.put, pT]
    refine wpAnyH_take (i := 3) (v := ?_) rfl (by kernel_rfl) (by kernel_rfl) (by kernel_rfl) (fun _ _ _ h => h) (Or.inl ⟨by rfl, ?_⟩) hHeld ?_
    rotate_left
    · (intro w hSw; (try dsimp only at hSw); go_simp; (try with_reducible rfl))
    try simp only [Act.put, pT]
    refine wpAnyH_take (i := 4) (v := ?_) rfl (by kernel_rfl) (by kernel_rfl) (by kernel_rfl) (fun _ _ _ h => h) (Or.inl ⟨by rfl, ?_⟩) hHeld ?_
    rotate_left
    · (intro w hSw; (try dsimp only at hSw); go_simp; (try with_reducible rfl))
    try simp only [Act.put, pT]
    refine wpAnyH_take (i := 5) (v := ?_) rfl (by kernel_rfl) (by kernel_rfl) (by kernel_rfl) (fun _ _ _ h => h) (Or.inl ⟨by rfl, ?_⟩) hHeld ?_
    rotate_left
    · (intro w hSw; (try dsimp only at hSw); go_simp; (try with_reducible rfl))
    try simp only [Act.put, pT]
    refine wpAnyH_take (i := 6) (v := ?_) rfl (by kernel_rfl) (by kernel_rfl) (by kernel_rfl) (fun _ _ _ h => h) (Or.inl ⟨by rfl, ?_⟩) hHeld ?_
    rotate_left
    · (intro w hSw; (try dsimp only at hSw); go_simp; (try with_reducible rfl))
    try simp only [Act.put, pT]
    refine wpAnyH_take (i := 7) (v := ?_) rfl (by kernel_rfl) (by kernel_rfl) (by kernel_rfl) (fun _ _ _ h => h) (Or.inl ⟨by rfl, ?_⟩) hHeld ?_
    rotate_left
    · (intro w hSw; (try dsimp only at hSw); go_simp; (try with_reducible rfl))
    try simp only [Act.put, pT]
    refine wpAnyH_take (i := 8) (v := ?_) rfl (by kernel_rfl) (by kernel_rfl) (by kernel_rfl) (fun _ _ _ h => h) (Or.inl ⟨by rfl, ?_⟩) hHeld ?_
    rotate_left
    · (intro w hSw; (try dsimp only at hSw); go_simp; (try with_reducible rfl))
    try simp only [Act.put, pT]
    refine wpAnyH_ready (rs := [9]) (by kernel_rfl) (by simp) ?_
    refine AllReadyH.cons rfl (fun K hK => ?_) AllReadyH.nil
    (try simp only [pT])
    rw [if_pos (by rfl)]
    go_simp
    go_at_call 14
    refine (stsame_N hu gu (sro.le (by omega)) (srb.le (by omega)) hw hj (sro.le (by omega)) (srb.le (by omega)) true (decide_eq_true ⟨rfl, rfl⟩)).mono ?_
    rintro e w9 ⟨rfl, b⟩
    replace ha := ha.on b
    replace hz := hz.on b
    replace gz := gz.on b
    replace hu := hu.on b
    replace gu := gu.on b
    replace hw := hw.on b
    replace hj := hj.on b
    rewrite [cR b xl] at x0 x1 x2 x3 x4 x5
    replace xl := lK b xl
    rewrite [cR b ll] at l0 l1 l2 l3 l4 l5
    replace ll := lK b ll
    rewrite [cR b kl] at k0 k1 k2 k3 k4 k5
    replace kl := lK b kl
    rewrite [cR b ql] at q0 q1 q2 q3 q4 q5
    replace ql := lK b ql
    replace cc := bK cc b
    clear b
    refine hK.out _ _ ?_ (fun hHeld => ?_)
    · exact ⟨x0, x1, x2, x3, x4, x5, l0, l1, l2, l3, l4, l5, k0, k1, k2, k3, k4, k5, q0, q1, q2, q3, q4, q5⟩
    clear hK K
    try simp only [Act.put, pT]
    refine wpAnyH_take (i := 10) (v := ?_) rfl (by kernel_rfl) (by kernel_rfl) (by kernel_rfl) (fun _ _ _ h => h) (Or.inl ⟨by rfl, ?_⟩) hHeld ?_
    rotate_left
    · (intro w hSw; (try dsimp only at hSw); go_simp; (try with_reducible rfl))
    try simp only [Act.put, pT]
    refine wpAnyH_take (i := 11) (v := ?_) rfl (by kernel_rfl) (by kernel_rfl) (by kernel_rfl) (fun _ _ _ h => h) (Or.inl ⟨by rfl, ?_⟩) hHeld ?_
    rotate_left
    · (intro w hSw; (try dsimp only at hSw); go_simp; (try with_reducible rfl))
    try simp only [Act.put, pT]
    refine wpAnyH_take (i := 12) (v := ?_) rfl (by kernel_rfl) (by kernel_rfl) (by kernel_rfl) (fun _ _ _ h => h) (Or.inl ⟨by rfl, ?_⟩) hHeld ?_
    rotate_left
    · (intro w hSw; (try dsimp only at hSw); go_simp; (try with_reducible rfl))
    try simp only [Act.put, pT]
    refine wpAnyH_ready (rs := [13]) (by kernel_rfl) (by simp) ?_
    refine AllReadyH.cons rfl (fun K hK => ?_) AllReadyH.nil
    (try simp only [pT])
    rw [if_pos (by rfl)]
    go_simp
    go_at_call 12
    refine (iright_N hu gu (sro.le (by omega)) (srb.le (by omega)) true HF.out.1).mono ?_
    rintro e w10 ⟨rfl, b⟩
    replace ha := ha.on b
    replace hz := hz.on b
    replace gz := gz.on b
    replace hu := hu.on b
    replace gu := gu.on b
    replace hw := hw.on b
    replace hj := hj.on b
    rewrite [cR b xl] at x0 x1 x2 x3 x4 x5
    replace xl := lK b xl
    rewrite [cR b ll] at l0 l1 l2 l3 l4 l5
    replace ll := lK b ll
    rewrite [cR b kl] at k0 k1 k2 k3 k4 k5
    replace kl := lK b kl
    rewrite [cR b ql] at q0 q1 q2 q3 q4 q5
    replace ql := lK b ql
    replace cc := bK cc b
    clear b
    refine hK.out _ _ ?_ (fun hHeld => ?_)
    · exact ⟨x0, x1, x2, x3, x4, x5, l0, l1, l2, l3, l4, l5, k0, k1, k2, k3, k4, k5, q0, q1, q2, q3, q4, q5⟩
    clear hK K
    try simp only [Act.put, pT]
    refine wpAnyH_take (i := 14) (v := ?_) rfl (by kernel_rfl) (by kernel_rfl) (by kernel_rfl) (fun _ _ _ h => h) (Or.inl ⟨by rfl, ?_⟩) hHeld ?_
    rotate_left
    · (intro w hSw; (try dsimp only at hSw); go_simp; (try with_reducible rfl))
    try simp only [Act.put, pT]
    refine wpAnyH_take (i := 15) (v := ?_) rfl (by kernel_rfl) (by kernel_rfl) (by kernel_rfl) (fun _ _ _ h => h) (Or.inl ⟨by rfl, ?_⟩) hHeld ?_
    rotate_left
    · (intro w hSw; (try dsimp only at hSw); go_simp; (try with_reducible rfl))
    try simp only [Act.put, pT]
    refine wpAnyH_take (i := 16) (v := ?_) rfl (by kernel_rfl) (by kernel_rfl) (by kernel_rfl) (fun _ _ _ h => h) (Or.inl ⟨by rfl, ?_⟩) hHeld ?_
    rotate_left
    · (intro w hSw; (try dsimp only at hSw); go_simp; (try with_reducible rfl))
    try simp only [Act.put, pT]
    refine wpAnyH_ready (rs := [17]) (by kernel_rfl) (by simp) ?_
    refine AllReadyH.cons rfl (fun K hK => ?_) AllReadyH.nil
    (try simp only [pT])
    rw [if_pos (by rfl)]
    go_simp
    go_at_call 36
    refine (Cro _).mono ?_
    rintro e w11 ⟨bv, Av, nv, cv, Bv, mv, dv, rfl, hv, b⟩
    replace ha := ha.on b
    replace hz := hz.on b
    replace gz := gz.on b
    replace hu := hu.on b
    replace gu := gu.on b
    replace hw := hw.on b
    replace hj := hj.on b
    rewrite [cR b xl] at x0 x1 x2 x3 x4 x5
    replace xl := lK b xl
    rewrite [cR b ll] at l0 l1 l2 l3 l4 l5
    replace ll := lK b ll
    rewrite [cR b kl] at k0 k1 k2 k3 k4 k5
    replace kl := lK b kl
    rewrite [cR b ql] at q0 q1 q2 q3 q4 q5
    replace ql := lK b ql
    replace cc := bK cc b
    clear b
    refine hK.out _ _ ?_ (fun hHeld => ?_)
    · exact ⟨x0, x1, x2, x3, x4, x5, l0, l1, l2, l3, l4, l5, k0, k1, k2, k3, k4, k5, q0, q1, q2, q3, q4, q5⟩
    clear hK K
    try simp only [Act.put, pT]
    refine wpAnyH_ready (rs := [18]) (by kernel_rfl) (by simp) ?_
    refine AllReadyH.cons rfl (fun K hK => ?_) AllReadyH.nil
    (try simp only [pT])
    rw [if_pos (by rfl)]
    go_simp
    go_at_call 18
    refine (ihas_N hu gu (sro.le (by omega)) (srb.le (by omega)) hv (sro.le (by omega)) true HF.out.2.1).mono ?_
    rintro e w12 ⟨rfl, b⟩
    replace ha := ha.on b
    replace hz := hz.on b
    replace gz := gz.on b
    replace hu := hu.on b
    replace gu := gu.on b
    replace hw := hw.on b
    replace hj := hj.on b
    replace hv := hv.on b
    rewrite [cR b xl] at x0 x1 x2 x3 x4 x5
    replace xl := lK b xl
    rewrite [cR b ll] at l0 l1 l2 l3 l4 l5
    replace ll := lK b ll
    rewrite [cR b kl] at k0 k1 k2 k3 k4 k5
    replace kl := lK b kl
    rewrite [cR b ql] at q0 q1 q2 q3 q4 q5
    replace ql := lK b ql
    replace cc := bK cc b
    clear b
    refine hK.out _ _ ?_ (fun hHeld => ?_)
    · exact ⟨x0, x1, x2, x3, x4, x5, l0, l1, l2, l3, l4, l5, k0, k1, k2, k3, k4, k5, q0, q1, q2, q3, q4, q5⟩
    clear hK K
    try simp only [Act.put, pT]
    refine wpAnyH_take (i := 19) (v := ?_) rfl (by kernel_rfl) (by kernel_rfl) (by kernel_rfl) (fun _ _ _ h => h) (Or.inl ⟨by rfl, ?_⟩) hHeld ?_
    rotate_left
    · (intro w hSw; (try dsimp only at hSw); go_simp; (try with_reducible rfl))
    try simp only [Act.put, pT]
    refine wpAnyH_take (i := 20) (v := ?_) rfl (by kernel_rfl) (by kernel_rfl) (by kernel_rfl) (fun _ _ _ h => h) (Or.inl ⟨by rfl, ?_⟩) hHeld ?_
    rotate_left
    · (intro w hSw; (try dsimp only at hSw); go_simp; (try with_reducible rfl))
    try simp only [Act.put, pT]
    refine wpAnyH_take (i := 21) (v := ?_) rfl (by kernel_rfl) (by kernel_rfl) (by kernel_rfl) (fun _ _ _ h => h) (Or.inl ⟨by rfl, ?_⟩) hHeld ?_
    rotate_left
    · (intro w hSw; (try dsimp only at hSw); go_simp; (try with_reducible rfl))
    try simp only [Act.put, pT]
    refine wpAnyH_take (i := 22) (v := ?_) rfl (by kernel_rfl) (by kernel_rfl) (by kernel_rfl) (fun _ _ _ h => h) (Or.inl ⟨by rfl, ?_⟩) hHeld ?_
    rotate_left
    · (intro w hSw; (try dsimp only at hSw); go_simp; (try with_reducible rfl))
    try simp only [Act.put, pT]
    refine wpAnyH_ready (rs := [23]) (by kernel_rfl) (by simp) ?_
    refine AllReadyH.cons rfl (fun K hK => ?_) AllReadyH.nil
    (try simp only [pT])
    rw [if_pos (by rfl)]
    go_simp
    go_at_call 20
    refine (iin_N hu gu (sro.le (by omega)) (srb.le (by omega)) hu gu (sro.le (by omega)) (srb.le (by omega)) true HF.out.2.2.1).mono ?_
    rintro e w13 ⟨rfl, b⟩
    replace ha := ha.on b
    replace hz := hz.on b
    replace gz := gz.on b
    replace hu := hu.on b
    replace gu := gu.on b
    replace hw := hw.on b
    replace hj := hj.on b
    replace hv := hv.on b
    rewrite [cR b xl] at x0 x1 x2 x3 x4 x5
    replace xl := lK b xl
    rewrite [cR b ll] at l0 l1 l2 l3 l4 l5
    replace ll := lK b ll
    rewrite [cR b kl] at k0 k1 k2 k3 k4 k5
    replace kl := lK b kl
    rewrite [cR b ql] at q0 q1 q2 q3 q4 q5
    replace ql := lK b ql
    replace cc := bK cc b
    clear b
    refine hK.out _ _ ?_ (fun hHeld => ?_)
    · exact ⟨x0, x1, x2, x3, x4, x5, l0, l1, l2, l3, l4, l5, k0, k1, k2, k3, k4, k5, q0, q1, q2, q3, q4, q5⟩
    clear hK K
    try simp only [Act.put, pT]
    refine wpAnyH_take (i := 24) (v := ?_) rfl (by kernel_rfl) (by kernel_rfl) (by kernel_rfl) (fun _ _ _ h => h) (Or.inl ⟨by rfl, ?_⟩) hHeld ?_
    rotate_left
    · (intro w hSw; (try dsimp only at hSw); go_simp; (try with_reducible rfl))
    try simp only [Act.put, pT]
    refine wpAnyH_take (i := 25) (v := ?_) rfl (by kernel_rfl) (by kernel_rfl) (by kernel_rfl) (fun _ _ _ h => h) (Or.inl ⟨by rfl, ?_⟩) hHeld ?_
    rotate_left
    · (intro w hSw; (try dsimp only at hSw); go_simp; (try with_reducible rfl))
    try simp only [Act.put, pT]
    refine wpAnyH_take (i := 26) (v := ?_) rfl (by kernel_rfl) (by kernel_rfl) (by kernel_rfl) (fun _ _ _ h => h) (Or.inl ⟨by rfl, ?_⟩) hHeld ?_
    rotate_left
    · (intro w hSw; (try dsimp only at hSw); go_simp; (try with_reducible rfl))
    try simp only [Act.put, pT]
    refine wpAnyH_take (i := 27) (v := ?_) rfl (by kernel_rfl) (by kernel_rfl) (by kernel_rfl) (fun _ _ _ h => h) (Or.inl ⟨by rfl, ?_⟩) hHeld ?_
    rotate_left
    · (intro w hSw; (try dsimp only at hSw); go_simp; (try with_reducible rfl))
    try simp only [Act.put, pT]
    refine wpAnyH_ready (rs := [28]) (by kernel_rfl) (by simp) ?_
    refine AllReadyH.cons rfl (fun K hK => ?_) AllReadyH.nil
    (try simp only [pT])
    rw [if_pos (by rfl)]
    go_simp
    go_at_call 20
    refine (iin_N hu gu (sro.le (by omega)) (srb.le (by omega)) hz gz (sra.le (by omega)) (sra.le (by omega)) false HF.out.2.2.2).mono ?_
    rintro e w14 ⟨rfl, b⟩
    replace ha := ha.on b
    replace hz := hz.on b
    replace gz := gz.on b
    replace hu := hu.on b
    replace gu := gu.on b
    replace hw := hw.on b
    replace hj := hj.on b
    replace hv := hv.on b
    rewrite [cR b xl] at x0 x1 x2 x3 x4 x5
    replace xl := lK b xl
    rewrite [cR b ll] at l0 l1 l2 l3 l4 l5
    replace ll := lK b ll
    rewrite [cR b kl] at k0 k1 k2 k3 k4 k5
    replace kl := lK b kl
    rewrite [cR b ql] at q0 q1 q2 q3 q4 q5
    replace ql := lK b ql
    replace cc := bK cc b
    clear b
    refine hK.out _ _ ?_ (fun hHeld => ?_)
    · exact ⟨x0, x1, x2, x3, x4, x5, l0, l1, l2, l3, l4, l5, k0, k1, k2, k3, k4, k5, q0, q1, q2, q3, q4, q5⟩
    clear hK K
    try simp only [Act.put, pT]
    refine wpAnyH_take (i := 29) (v := ?_) rfl (by kernel_rfl) (by kernel_rfl) (by kernel_rfl) (fun _ _ _ h => h) (Or.inl ⟨by rfl, ?_⟩) hHeld ?_
    rotate_left
    · (intro w hSw; (try dsimp only at hSw); go_simp; (try with_reducible rfl))
    try simp only [Act.put, pT]
    refine wpAnyH_take (i := 30) (v := ?_) rfl (by kernel_rfl) (by kernel_rfl) (by kernel_rfl) (fun _ _ _ h => h) (Or.inl ⟨by rfl, ?_⟩) hHeld ?_
    rotate_left
    · (intro w hSw; (try dsimp only at hSw); go_simp; (try with_reducible rfl))
    try simp only [Act.put, pT]
    refine wpAnyH_take (i := 31) (v := ?_) rfl (by kernel_rfl) (by kernel_rfl) (by kernel_rfl) (fun _ _ _ h => h) (Or.inl ⟨by rfl, ?_⟩) hHeld ?_
    rotate_left
    · (intro w hSw; (try dsimp only at hSw); go_simp; (try with_reducible rfl))
    try simp only [Act.put, pT]
    refine wpAnyH_done (by kernel_rfl) ?_ _
    clear hHeld
    go_wp2_with fail
    go_ret
    exact ⟨rfl, cc⟩

end Go.Proofs.YtanpklbconflmaaGreat
