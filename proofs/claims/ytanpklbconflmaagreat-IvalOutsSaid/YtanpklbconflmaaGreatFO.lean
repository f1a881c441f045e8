/-
  Of a span so far between its ends.
-/
import Derived.Test.YtanpklbconflmaaGreatA13
import Derived.Test.YtanpklbconflmaaGreatA3
namespace Go.Proofs.YtanpklbconflmaaGreat
set_option maxRecDepth 100000
set_option maxHeartbeats 8000000
open Go.RowKit
set_option linter.unusedVariables false
set_option linter.unusedSimpArgs false

theorem share_ends {n : Int} (h0 : 0 ≤ n) (h1 : n ≤ 255) : 0 ≤ mkRat n 255 ∧ mkRat n 255 ≤ 1 := by
  have e : mkRat n 255 * 255 = (n : Rat) := by
    have h2 : (255 : Rat) = mkRat 255 1 := by decide +kernel
    have h3 : (n : Rat) = mkRat n 1 := by rw [Rat.mkRat_one]
    rw [h2, h3, Rat.mkRat_mul_mkRat, Rat.mkRat_eq_iff (by decide) (by decide)]
    simp
  have a : (0 : Rat) ≤ (n : Rat) := Rat.intCast_nonneg.2 h0
  have b : (n : Rat) ≤ 255 := by have := Rat.intCast_le_intCast.2 h1; simpa using this
  constructor <;> grind
theorem share_mono {n m : Int} (h : n ≤ m) : mkRat n 255 ≤ mkRat m 255 := by
  have e : ∀ n : Int, mkRat n 255 * 255 = (n : Rat) := fun n => by
    have h2 : (255 : Rat) = mkRat 255 1 := by decide +kernel
    have h3 : (n : Rat) = mkRat n 1 := by rw [Rat.mkRat_one]
    rw [h2, h3, Rat.mkRat_mul_mkRat, Rat.mkRat_eq_iff (by decide) (by decide)]
    simp
  have b : (n : Rat) ≤ (m : Rat) := Rat.intCast_le_intCast.2 h
  have e1 := e n
  have e2 := e m
  grind
theorem share_sz {n : Int} (h0 : 0 ≤ n) (h1 : n ≤ 255) : Sz (mkRat n 255) 1 := sz_mk (by decide) (len_one (by
  have : (255 : Nat) < B64 := by decide
  omega)) (len_one (by decide))
theorem far_sz {x y : Rat} (hx : Sz x 2) (hy : Sz y 2) {n : Int} (h0 : 0 ≤ n) (h1 : n ≤ 255) : Sz (x + (y - x) * mkRat n 255) 9 := (hx.add ((hy.sub hx).mul (share_sz h0 h1))).le (by omega)
theorem far_ends {x y : Rat} (h : x ≤ y) {n : Int} (h0 : 0 ≤ n) (h1 : n ≤ 255) : x ≤ x + (y - x) * mkRat n 255 ∧ x + (y - x) * mkRat n 255 ≤ y := between_ends h (share_ends h0 h1).1 (share_ends h0 h1).2
theorem nz_ends {x y : Rat} (hxy : x ≤ y) (hz : ¬ (x ≤ ((0 : Int) : Rat) ∧ ((0 : Int) : Rat) ≤ y)) : x.num ≠ 0 ∧ y.num ≠ 0 ∧ (0 < x ∨ y < 0) := by
  have o : ((0 : Int) : Rat) = 0 := rfl
  rw [o] at hz
  refine ⟨fun h => ?_, fun h => ?_, by grind⟩
  · have := rat_zero h; grind
  · have := rat_zero h; grind
/-- A call has answered some rational, and some code. -/
def GotRw (w : World) (e : Ending) (w' : World) : Prop := ∃ b A n c B m d z, e = .returned (.tuple #[.agg #[.bool b, .slice A n c, .slice B m d], .int .i64 z]) ∧ Below w.heap.size w w'

theorem of7_N {w : World} {b0 p0 : Bool} {A0 B0 V0 U0 : Option Addr} {n0 c0 m0 d0 r0 k0 o0 q0 : Nat} {x0 y0 : Rat} (h0 : Rt w b0 A0 n0 c0 B0 m0 d0 x0) (g0 : Rt w p0 V0 r0 k0 U0 o0 q0 y0) (s0 : Sz x0 2) (t0 : Sz y0 2) {far : Int} (u0 : 0 ≤ far) (u1 : far ≤ 255) :
    Calls Tryz.prog 32 #[.agg #[.bool b0, .slice A0 n0 c0, .slice B0 m0 d0, .bool p0, .slice V0 r0 k0, .slice U0 o0 q0], .int .u8 far] w (GotRt w (x0 + (y0 - x0) * mkRat far 255)) := by
  have ew : IntKind.i64.wrap far = far := IntWalk.i64_in _ (by omega)
  obtain ⟨t_, q1_⟩ : ∃ r, mkRat far 255 = r := ⟨_, rfl⟩
  have CF : ∀ W : World, Calls Tryz.prog 41 #[.int .i64 far, .int .i64 255] W (GotRt W t_) := fun W => by rw [← q1_]; exact rtfrac_N W (by unfold I64; omega) (by unfold I64; omega) (by decide)
  have st_ : Sz t_ 1 := by rw [← q1_]; exact share_sz u0 u1
  rw [q1_]
  have sw_ := t0.sub s0
  have sm_ := sw_.mul st_
  clear q1_
  have cc := Below.refl w.heap.size w
  go_enter Tryz.func32, Tryz.ntmps32
  go_wp2_with fail
  generalize hv_ : (w.alloc (.cells #[.bool b0, .slice A0 n0 c0, .slice B0 m0 d0, .bool p0, .slice V0 r0 k0, .slice U0 o0 q0] 29)).alloc (.cells #[.bool false, .slice none 0 0, .slice none 0 0] 27) = v1
  obtain ⟨f0, f1, f2⟩ : Fz3 v1 (w.heap.size + 1) := by simp [Fz3, ← hv_, go_sem]
  have bA : Below w.heap.size w v1 := by rw [← hv_]; exact (((Below.refl _ w).alloc (by simp) _).alloc (by simp) _)
  replace h0 := h0.on bA
  replace g0 := g0.on bA
  replace cc := bK cc bA
  clear bA
  obtain ⟨ka0, ka1, ka2, ka3, ka4, ka5⟩ : Cs6 v1 w.heap.size (.bool b0) (.slice A0 n0 c0) (.slice B0 m0 d0) (.bool p0) (.slice V0 r0 k0) (.slice U0 o0 q0) := by simp [Cs6, ← hv_, go_sem]
  have kal : w.heap.size < v1.heap.size := by simp [← hv_] <;> omega
  obtain ⟨g_0, g_1, g_2⟩ : Cs3 v1 (w.heap.size + 1) (.bool false) (.slice none 0 0) (.slice none 0 0) := by simp [Cs3, ← hv_, go_sem]
  have g_l : w.heap.size + 1 < v1.heap.size := by simp [← hv_] <;> omega
  clear hv_
  refine (rtsub_N g0 (t0.le (by omega)) h0 (s0.le (by omega))).mono ?_
  rintro e w2 ⟨be, Ae, ne, ce, Be, me, de, rfl, he, b⟩
  rewrite [fR b g_l] at f0 f1 f2
  replace h0 := h0.on b
  replace g0 := g0.on b
  rewrite [cR b kal] at ka0 ka1 ka2 ka3 ka4 ka5
  replace kal := lK b kal
  rewrite [cR b g_l] at g_0 g_1 g_2
  replace g_l := lK b g_l
  replace cc := bK cc b
  clear b
  go_wp2_with fail
  have wdqka : w.heap.size < w2.heap.size := kal
  have wdqg_ : w.heap.size + 1 < w2.heap.size := g_l
  generalize hv_ : w2.alloc (.cells #[.bool be, .slice Ae ne ce, .slice Be me de] 27) = v3
  have bA : Below w2.heap.size w2 v3 := by rw [← hv_]; exact below_one _ _
  rewrite [fR bA g_l] at f0 f1 f2
  replace h0 := h0.on bA
  replace g0 := g0.on bA
  replace he := he.on bA
  rewrite [cR bA kal] at ka0 ka1 ka2 ka3 ka4 ka5
  replace kal := lK bA kal
  rewrite [cR bA g_l] at g_0 g_1 g_2
  replace g_l := lK bA g_l
  replace cc := bK cc bA
  clear bA
  obtain ⟨wd0, wd1, wd2⟩ : Cs3 v3 w2.heap.size (.bool be) (.slice Ae ne ce) (.slice Be me de) := by simp [Cs3, ← hv_, go_sem]
  have wdl : w2.heap.size < v3.heap.size := by simp [← hv_]
  clear hv_
  have bD : Below v3.heap.size v3 v3.drew := below_drewN (Below.refl _ v3) 1
  rewrite [fR bD g_l] at f0 f1 f2
  replace h0 := h0.on bD
  replace g0 := g0.on bD
  replace he := he.on bD
  rewrite [cR bD kal] at ka0 ka1 ka2 ka3 ka4 ka5
  replace kal := lK bD kal
  rewrite [cR bD g_l] at g_0 g_1 g_2
  replace g_l := lK bD g_l
  rewrite [cR bD wdl] at wd0 wd1 wd2
  replace wdl := lK bD wdl
  replace cc := bK cc bD
  clear bD
  refine wp_region_held_drew (S := fun w' => w'.cell? ⟨w.heap.size, 0, none⟩ = some (.bool b0) ∧ w'.cell? ⟨w.heap.size, 1, none⟩ = some (.slice A0 n0 c0) ∧ w'.cell? ⟨w.heap.size, 2, none⟩ = some (.slice B0 m0 d0) ∧ w'.cell? ⟨w.heap.size, 3, none⟩ = some (.bool p0) ∧ w'.cell? ⟨w.heap.size, 4, none⟩ = some (.slice V0 r0 k0) ∧ w'.cell? ⟨w.heap.size, 5, none⟩ = some (.slice U0 o0 q0) ∧ w'.cell? ⟨w2.heap.size, 0, none⟩ = some (.bool be) ∧ w'.cell? ⟨w2.heap.size, 1, none⟩ = some (.slice Ae ne ce) ∧ w'.cell? ⟨w2.heap.size, 2, none⟩ = some (.slice Be me de)) (by kernel_rfl) ?_ (fun hHeld => ?_)
  · exact ⟨ka0, ka1, ka2, ka3, ka4, ka5, wd0, wd1, wd2⟩
  refine wpAnyH_take (i := 0) (v := ?_) rfl (by kernel_rfl) (by kernel_rfl) (by kernel_rfl) (fun _ _ _ h => h) (Or.inl ⟨by rfl, ?_⟩) hHeld ?_
  rotate_left
  · (intro w hSw; (try dsimp only at hSw); go_simp; (try with_reducible rfl))
  try simp only [Act.put, pT]
  refine wpAnyH_take (i := 1) (v := ?_) rfl (by kernel_rfl) (by kernel_rfl) (by kernel_rfl) (fun _ _ _ h => h) (Or.inl ⟨by rfl, ?_⟩) hHeld ?_
  rotate_left
  · (intro w hSw; (try dsimp only at hSw); go_simp; (try with_reducible rfl))
  try simp only [Act.put, pT]
  refine wpAnyH_take (i := 2) (v := ?_) rfl (by kernel_rfl) (by kernel_rfl) (by kernel_rfl) (fun _ _ _ h => h) (Or.inl ⟨by rfl, ?_⟩) hHeld ?_
  rotate_left
  · (intro w hSw; (try dsimp only at hSw); go_simp; (try with_reducible rfl))
  try simp only [Act.put, pT]
  refine wpAnyH_take (i := 3) (v := ?_) rfl (by kernel_rfl) (by kernel_rfl) (by kernel_rfl) (fun _ _ _ h => h) (Or.inl ⟨by rfl, ?_⟩) hHeld ?_
  rotate_left
  · (intro w hSw; (try dsimp only at hSw); go_simp; (try with_reducible rfl))
  try simp only [Act.put, pT]
  refine wpAnyH_take (i := 4) (v := ?_) rfl (by kernel_rfl) (by kernel_rfl) (by kernel_rfl) (fun _ _ _ h => h) (Or.inl ⟨by rfl, ?_⟩) hHeld ?_
  rotate_left
  · (intro w hSw; (try dsimp only at hSw); go_simp; (try with_reducible rfl))
  try simp only [Act.put, pT]
  refine wpAnyH_ready (rs := [5]) (by kernel_rfl) (by simp) ?_
  refine AllReadyH.cons rfl (fun K hK => ?_) AllReadyH.nil
  (try simp only [pT])
  rw [if_pos (by rfl)]
  go_simp
  go_at_call 41
  refine (CF _).mono ?_
  rintro e w4 ⟨bf, Af, nf, cf, Bf, mf, df, rfl, hf, b⟩
  rewrite [fR b g_l] at f0 f1 f2
  replace h0 := h0.on b
  replace g0 := g0.on b
  replace he := he.on b
  rewrite [cR b kal] at ka0 ka1 ka2 ka3 ka4 ka5
  replace kal := lK b kal
  rewrite [cR b g_l] at g_0 g_1 g_2
  replace g_l := lK b g_l
  rewrite [cR b wdl] at wd0 wd1 wd2
  replace wdl := lK b wdl
  replace cc := bK cc b
  clear b
  refine hK.out _ _ ?_ (fun hHeld => ?_)
  · exact ⟨ka0, ka1, ka2, ka3, ka4, ka5, wd0, wd1, wd2⟩
  clear hK K
  try simp only [Act.put, pT]
  refine wpAnyH_ready (rs := [6]) (by kernel_rfl) (by simp) ?_
  refine AllReadyH.cons rfl (fun K hK => ?_) AllReadyH.nil
  (try simp only [pT])
  rw [if_pos (by rfl)]
  go_simp
  go_at_call 34
  refine (rtmul_N he (sw_.le (by omega)) hf (st_.le (by omega))).mono ?_
  rintro e w5 ⟨bj, Aj, nj, cj, Bj, mj, dj, rfl, hj, b⟩
  rewrite [fR b g_l] at f0 f1 f2
  replace h0 := h0.on b
  replace g0 := g0.on b
  replace he := he.on b
  replace hf := hf.on b
  rewrite [cR b kal] at ka0 ka1 ka2 ka3 ka4 ka5
  replace kal := lK b kal
  rewrite [cR b g_l] at g_0 g_1 g_2
  replace g_l := lK b g_l
  rewrite [cR b wdl] at wd0 wd1 wd2
  replace wdl := lK b wdl
  replace cc := bK cc b
  clear b
  refine hK.out _ _ ?_ (fun hHeld => ?_)
  · exact ⟨ka0, ka1, ka2, ka3, ka4, ka5, wd0, wd1, wd2⟩
  clear hK K
  try simp only [Act.put, pT]
  refine wpAnyH_ready (rs := [7]) (by kernel_rfl) (by simp) ?_
  refine AllReadyH.cons rfl (fun K hK => ?_) AllReadyH.nil
  (try simp only [pT])
  rw [if_pos (by rfl)]
  go_simp
  go_at_call 33
  refine (rtadd_N h0 (s0.le (by omega)) hj (sm_.le (by omega))).mono ?_
  rintro e w6 ⟨bz, Az, nz, cz, Bz, mz, dz, rfl, hz, b⟩
  rewrite [fR b g_l] at f0 f1 f2
  replace h0 := h0.on b
  replace g0 := g0.on b
  replace he := he.on b
  replace hf := hf.on b
  replace hj := hj.on b
  rewrite [cR b kal] at ka0 ka1 ka2 ka3 ka4 ka5
  replace kal := lK b kal
  rewrite [cR b g_l] at g_0 g_1 g_2
  replace g_l := lK b g_l
  rewrite [cR b wdl] at wd0 wd1 wd2
  replace wdl := lK b wdl
  replace cc := bK cc b
  clear b
  refine hK.out _ _ ?_ (fun hHeld => ?_)
  · exact ⟨ka0, ka1, ka2, ka3, ka4, ka5, wd0, wd1, wd2⟩
  clear hK K
  try simp only [Act.put, pT]
  refine wpAnyH_ready (rs := [8]) (by kernel_rfl) (by simp) ?_
  refine AllReadyH.cons rfl (fun K hK => ?_) AllReadyH.nil
  (try simp only [pT])
  rw [if_pos (by rfl)]
  go_simp
  refine hK.out _ _ ?_ (fun hHeld => ?_)
  · exact ⟨(cell_putR (by omega)).trans ka0, (cell_putR (by omega)).trans ka1, (cell_putR (by omega)).trans ka2, (cell_putR (by omega)).trans ka3, (cell_putR (by omega)).trans ka4, (cell_putR (by omega)).trans ka5, (cell_putR (by omega)).trans wd0, (cell_putR (by omega)).trans wd1, (cell_putR (by omega)).trans wd2⟩
  clear hK K
  try simp only [Act.put, pT]
  refine wpAnyH_done (by kernel_rfl) ?_ _
  clear hHeld
  have hn : Rt w6 bz Az nz cz Bz mz dz (x0 + (y0 - x0) * t_) := hz
  have eb : BoxR w6 (w.heap.size + 1) false none 0 0 none 0 0 := ⟨g_0, g_1, g_2⟩
  have HZ : Hid (Rt (putR w6 (w.heap.size + 1) (.bool bz) (.slice Az nz cz) (.slice Bz mz dz)) bz Az nz cz Bz mz dz (x0 + (y0 - x0) * t_)) := Lib.hid (Rt.putR hn eb _ _ _)
  clear hn
  go_wp2_with fail
  refine bodyPost_ret (v := .agg #[.bool bz, .slice Az nz cz, .slice Bz mz dz]) (by simp [results, Tryz.results32, go_sem, g_0, g_1, g_2]) rfl ⟨_, _, _, _, _, _, _, rfl, HZ.out, below_putR cc (by omega) _ _ _⟩

theorem rtdiv_any {w : World} {b0 b1 : Bool} {A0 B0 A1 B1 : Option Addr} {n0 c0 m0 d0 n1 c1 m1 d1 : Nat} {x0 x1 : Rat} (h0 : Rt w b0 A0 n0 c0 B0 m0 d0 x0) (s0 : Sz x0 40) (h1 : Rt w b1 A1 n1 c1 B1 m1 d1 x1) (s1 : Sz x1 40) :
    Calls Tryz.prog 35 #[.agg #[.bool b0, .slice A0 n0 c0, .slice B0 m0 d0], .agg #[.bool b1, .slice A1 n1 c1, .slice B1 m1 d1]] w (GotRw w) := by
  by_cases hn : x1.num = 0
  · have := rt_zero h1 hn
    subst this
    exact rtdiv_zero.mono (fun e w9 k => ⟨_, _, _, _, _, _, _, _, k.1, k.2⟩)
  · exact (rtdiv_N h0 s0 h1 s1 hn).mono (fun e w9 k => by obtain ⟨b, A, n, c, B, m, d, e1, _, e2⟩ := k; exact ⟨b, A, n, c, B, m, d, 0, e1, e2⟩)

end Go.Proofs.YtanpklbconflmaaGreat
