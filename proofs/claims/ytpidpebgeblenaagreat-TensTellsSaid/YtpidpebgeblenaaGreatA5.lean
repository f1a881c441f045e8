/-
  Several texts in one: E7, E8, E9, QM, MathJ, MathK, MathG, S1, S2, ZA, ZB, S3, S4, S5, S6, S7, S8, D, QR, QS, QT, MathY.
-/
import Derived.Test.YtpidpebgeblenaaGreatA4
import Derived.Test.YtpidpebgeblenaaGreatA3
import Derived.Test.YtpidpebgeblenaaGreatA2
import Derived.Test.YtpidpebgeblenaaGreatA1
import Derived.Deep.RegionHeld3
import Derived.Lib.SliceRun
import Derived.Lib.AppendZerosOnto
import Derived.Deep.QuietTactic
import Derived.BigQuiet
import Derived.Deep.DeepCutAuto
import Derived.Deep.CutBlock
import Derived.WalkMore

/-
  The contracts of the fifth reference: Neg, Sub, Div and the rest.
-/
namespace Go.Proofs.YtpidpebgeblenaaGreat
set_option maxRecDepth 100000
set_option maxHeartbeats 8000000
open Go.RowKit
set_option linter.unusedVariables false

theorem rtneg_N {w : World} {b0 : Bool} {A0 B0 : Option Addr} {n0 c0 m0 d0 : Nat} {x0 : Rat} (h0 : Rt w b0 A0 n0 c0 B0 m0 d0 x0) (s0 : Sz x0 100) :
    Calls Tryz.prog 94 #[.agg #[.bool b0, .slice A0 n0 c0, .slice B0 m0 d0]] w (GotRt w (-x0)) := by
  have p0 := h0.1
  have q0 := h0.2
  have lp0 := s0.1
  have lq0 := s0.2
  clear h0
  have cc := Below.refl w.heap.size w
  go_enter Tryz.func94, Tryz.ntmps94
  go_wp2_with fail
  generalize hv_ : (w.alloc (.cells #[.bool b0, .slice A0 n0 c0, .slice B0 m0 d0] 83)).alloc (.cells #[.bool false, .slice none 0 0, .slice none 0 0] 83) = v1
  obtain ⟨f0, f1, f2⟩ : Fz3 v1 (w.heap.size + 1) := by simp [Fz3, ← hv_, go_sem]
  have bA : Below w.heap.size w v1 := by rw [← hv_]; exact (((Below.refl _ w).alloc (by simp) _).alloc (by simp) _)
  replace p0 := p0.on bA
  replace q0 := q0.on bA
  replace cc := bK cc bA
  clear bA
  obtain ⟨k0, k1, k2⟩ : Cs3 v1 w.heap.size (.bool b0) (.slice A0 n0 c0) (.slice B0 m0 d0) := by simp [Cs3, ← hv_, go_sem]
  have kl : w.heap.size < v1.heap.size := by simp [← hv_] <;> omega
  obtain ⟨g0, g1, g2⟩ : Cs3 v1 (w.heap.size + 1) (.bool false) (.slice none 0 0) (.slice none 0 0) := by simp [Cs3, ← hv_, go_sem]
  have gl : w.heap.size + 1 < v1.heap.size := by simp [← hv_] <;> omega
  clear hv_
  have qq : Below v1.heap.size v1 v1.drew := below_drewN (Below.refl _ v1) 1
  have p0' := p0.on qq
  have q0' := q0.on qq
  go_region_held3 (fun w' => w'.cell? ⟨w.heap.size, 0, none⟩ = some (.bool b0) ∧ w'.cell? ⟨w.heap.size, 1, none⟩ = some (.slice A0 n0 c0) ∧ w'.cell? ⟨w.heap.size, 2, none⟩ = some (.slice B0 m0 d0))
    (first | with_reducible exact ⟨cK qq k0 kl, cK qq k1 kl, cK qq k2 kl⟩ | with_reducible exact ⟨(cell_putR (by omega)).trans (cK qq k0 kl), (cell_putR (by omega)).trans (cK qq k1 kl), (cell_putR (by omega)).trans (cK qq k2 kl)⟩)
    (first
      | (go_at_call 87; (with_reducible refine (rzneg_N p0' (Nat.le_trans lp0 (by omega))).mono ?_); rintro e wz ⟨bm, Am, nm, cm, rfl, pm, q⟩; replace qq := bK qq q; (try replace p0' := p0'.on q); (try replace q0' := q0'.on q); clear q; have xa0 := cK qq g0 gl; have ya0 := fK qq f0 gl; have xa1 := cK qq g1 gl; have ya1 := fK qq f1 gl; have xa2 := cK qq g2 gl; have ya2 := fK qq f2 gl))
  have hn : Rt wz bm Am nm cm B0 m0 d0 (-x0) := ⟨pm, q0'⟩
  replace cc := bK cc qq
  have eb : BoxR wz (w.heap.size + 1) false none 0 0 none 0 0 := ⟨xa0, xa1, xa2⟩
  have HZ : Hid (Rt (putR wz (w.heap.size + 1) (.bool bm) (.slice Am nm cm) (.slice B0 m0 d0)) bm Am nm cm B0 m0 d0 (-x0)) := Lib.hid (Rt.putR hn eb _ _ _)
  go_wp2_with fail
  refine bodyPost_ret (v := .agg #[.bool bm, .slice Am nm cm, .slice B0 m0 d0]) (by simp [results, Tryz.results94, go_sem, xa0, xa1, xa2]) rfl ⟨_, _, _, _, _, _, _, rfl, HZ.out, below_putR cc (by omega) _ _ _⟩

theorem rtsub_N {w : World} {b0 b1 : Bool} {A0 B0 A1 B1 : Option Addr} {n0 c0 m0 d0 n1 c1 m1 d1 : Nat} {x0 x1 : Rat} (h0 : Rt w b0 A0 n0 c0 B0 m0 d0 x0) (s0 : Sz x0 40) (h1 : Rt w b1 A1 n1 c1 B1 m1 d1 x1) (s1 : Sz x1 40) :
    Calls Tryz.prog 82 #[.agg #[.bool b0, .slice A0 n0 c0, .slice B0 m0 d0], .agg #[.bool b1, .slice A1 n1 c1, .slice B1 m1 d1]] w (GotRt w (x0 - x1)) := by
  have cc := Below.refl w.heap.size w
  go_enter Tryz.func82, Tryz.ntmps82
  go_wp2_with fail
  generalize hv_ : ((w.alloc (.cells #[.bool b0, .slice A0 n0 c0, .slice B0 m0 d0] 83)).alloc (.cells #[.bool b1, .slice A1 n1 c1, .slice B1 m1 d1] 83)).alloc (.cells #[.bool false, .slice none 0 0, .slice none 0 0] 83) = v1
  obtain ⟨f0, f1, f2⟩ : Fz3 v1 (w.heap.size + 1 + 1) := by simp [Fz3, ← hv_, go_sem]
  have bA : Below w.heap.size w v1 := by rw [← hv_]; exact ((((Below.refl _ w).alloc (by simp) _).alloc (by simp) _).alloc (by simp <;> omega) _)
  replace h0 := h0.on bA
  replace h1 := h1.on bA
  replace cc := bK cc bA
  clear bA
  obtain ⟨k0, k1, k2⟩ : Cs3 v1 w.heap.size (.bool b0) (.slice A0 n0 c0) (.slice B0 m0 d0) := by simp [Cs3, ← hv_, go_sem]
  have kl : w.heap.size < v1.heap.size := by simp [← hv_] <;> omega
  obtain ⟨r0, r1, r2⟩ : Cs3 v1 (w.heap.size + 1) (.bool b1) (.slice A1 n1 c1) (.slice B1 m1 d1) := by simp [Cs3, ← hv_, go_sem]
  have rl : w.heap.size + 1 < v1.heap.size := by simp [← hv_] <;> omega
  obtain ⟨g0, g1, g2⟩ : Cs3 v1 (w.heap.size + 1 + 1) (.bool false) (.slice none 0 0) (.slice none 0 0) := by simp [Cs3, ← hv_, go_sem]
  have gl : w.heap.size + 1 + 1 < v1.heap.size := by simp [← hv_] <;> omega
  clear hv_
  have qq : Below v1.heap.size v1 v1.drew := below_drewN (Below.refl _ v1) 1
  have h0' := h0.on qq
  have h1' := h1.on qq
  go_region_held3 (fun w' => w'.cell? ⟨w.heap.size, 0, none⟩ = some (.bool b0) ∧ w'.cell? ⟨w.heap.size, 1, none⟩ = some (.slice A0 n0 c0) ∧ w'.cell? ⟨w.heap.size, 2, none⟩ = some (.slice B0 m0 d0) ∧ w'.cell? ⟨w.heap.size + 1, 0, none⟩ = some (.bool b1) ∧ w'.cell? ⟨w.heap.size + 1, 1, none⟩ = some (.slice A1 n1 c1) ∧ w'.cell? ⟨w.heap.size + 1, 2, none⟩ = some (.slice B1 m1 d1))
    (first | with_reducible exact ⟨cK qq k0 kl, cK qq k1 kl, cK qq k2 kl, cK qq r0 rl, cK qq r1 rl, cK qq r2 rl⟩ | with_reducible exact ⟨(cell_putR (by omega)).trans (cK qq k0 kl), (cell_putR (by omega)).trans (cK qq k1 kl), (cell_putR (by omega)).trans (cK qq k2 kl), (cell_putR (by omega)).trans (cK qq r0 rl), (cell_putR (by omega)).trans (cK qq r1 rl), (cell_putR (by omega)).trans (cK qq r2 rl)⟩)
    (first
      | (go_at_call 94; (with_reducible refine (rtneg_N h1' (s1.le (by omega))).mono ?_); rintro e wz ⟨bv, Av, nv, cv, Bv, mv, dv, rfl, v, q⟩; replace qq := bK qq q; (try replace h0' := h0'.on q); (try replace h1' := h1'.on q); (try replace hm := hm.on q); clear q; have xa0 := cK qq g0 gl; have ya0 := fK qq f0 gl; have xa1 := cK qq g1 gl; have ya1 := fK qq f1 gl; have xa2 := cK qq g2 gl; have ya2 := fK qq f2 gl)
      | (go_at_call 95; (with_reducible refine (rtadd_N h0' s0 v s1.neg).mono ?_); rintro e wz ⟨bm, Am, nm, cm, Bm, mm, dm, rfl, hm, q⟩; replace qq := bK qq q; (try replace h0' := h0'.on q); (try replace h1' := h1'.on q); (try replace v := v.on q); clear q; have xa0 := cK qq g0 gl; have ya0 := fK qq f0 gl; have xa1 := cK qq g1 gl; have ya1 := fK qq f1 gl; have xa2 := cK qq g2 gl; have ya2 := fK qq f2 gl))
  replace cc := bK cc qq
  have eb : BoxR wz (w.heap.size + 1 + 1) false none 0 0 none 0 0 := ⟨xa0, xa1, xa2⟩
  have HZ : Hid (Rt (putR wz (w.heap.size + 1 + 1) (.bool bm) (.slice Am nm cm) (.slice Bm mm dm)) bm Am nm cm Bm mm dm (x0 - x1)) := Lib.hid (by rw [Rat.sub_eq_add_neg]; exact Rt.putR hm eb _ _ _)
  go_wp2_with fail
  refine bodyPost_ret (v := .agg #[.bool bm, .slice Am nm cm, .slice Bm mm dm]) (by simp [results, Tryz.results82, go_sem, xa0, xa1, xa2]) rfl ⟨_, _, _, _, _, _, _, rfl, HZ.out, below_putR cc (by omega) _ _ _⟩

theorem zn_side {w : World} {b : Bool} {A B : Option Addr} {n c m d q : Nat} {p : Int} (h : Zn w b A n c p) (hB : Num w B m d q) (hq : q ≠ 0) : Zn w b B m d (sgn (decide (p < 0)) q) := by
  refine ⟨by rw [sgn_abs]; exact hB, ?_⟩
  rw [h.2]; unfold sgn
  by_cases h1 : p < 0
  · simp [h1]; omega
  · simp [h1]

theorem rtdiv_N {w : World} {b0 b1 : Bool} {A0 B0 A1 B1 : Option Addr} {n0 c0 m0 d0 n1 c1 m1 d1 : Nat} {x0 x1 : Rat} (h0 : Rt w b0 A0 n0 c0 B0 m0 d0 x0) (s0 : Sz x0 40) (h1 : Rt w b1 A1 n1 c1 B1 m1 d1 x1) (s1 : Sz x1 40) (hne : x1.num ≠ 0) :
    Calls Tryz.prog 51 #[.agg #[.bool b0, .slice A0 n0 c0, .slice B0 m0 d0], .agg #[.bool b1, .slice A1 n1 c1, .slice B1 m1 d1]] w (GotRp w (x0 / x1) 0) := by
  have p0 := h0.1
  have q0 := h0.2
  have lp0 := s0.1
  have lq0 := s0.2
  have p1 := h1.1
  have q1 := h1.2
  have lp1 := s1.1
  have lq1 := s1.2
  clear h0
  clear h1
  have hn : 0 < n1 := p1.1.some_len (by omega)
  have hn0 : ((n1 : Int) == 0) = false := beq_eq_false_iff_ne.2 (by omega)
  have zs := zn_side p1 q1 x1.den_nz
  have hD : x0.den * x1.num.natAbs ≠ 0 := Nat.mul_ne_zero x0.den_nz (by omega)
  have lD : (limbs (x0.den * x1.num.natAbs)).length ≤ 100 := Nat.le_trans (limbs_length_mul lq0 lp1) (by omega)
  have lS : (limbs (sgn (decide (x1.num < 0)) x1.den).natAbs).length ≤ 40 := by rw [sgn_abs]; exact lq1
  have lC : (limbs (x0.num * sgn (decide (x1.num < 0)) x1.den).natAbs).length ≤ 100 := Nat.le_trans (zlen_mul lp0 lS) (by omega)
  have t1 := p1.1
  have cc := Below.refl w.heap.size w
  go_enter Tryz.func51, Tryz.ntmps51
  go_wp2_with fail
  generalize hv_ : ((w.alloc (.cells #[.bool b0, .slice A0 n0 c0, .slice B0 m0 d0] 83)).alloc (.cells #[.bool b1, .slice A1 n1 c1, .slice B1 m1 d1] 83)).alloc (.cells #[.bool false, .slice none 0 0, .slice none 0 0] 83) = v1
  obtain ⟨f0, f1, f2⟩ : Fz3 v1 (w.heap.size + 1 + 1) := by simp [Fz3, ← hv_, go_sem]
  have bA : Below w.heap.size w v1 := by rw [← hv_]; exact ((((Below.refl _ w).alloc (by simp) _).alloc (by simp) _).alloc (by simp <;> omega) _)
  replace p0 := p0.on bA
  replace q0 := q0.on bA
  replace p1 := p1.on bA
  replace q1 := q1.on bA
  replace zs := zs.on bA
  replace t1 := t1.on bA
  replace cc := bK cc bA
  clear bA
  obtain ⟨k0, k1, k2⟩ : Cs3 v1 w.heap.size (.bool b0) (.slice A0 n0 c0) (.slice B0 m0 d0) := by simp [Cs3, ← hv_, go_sem]
  have kl : w.heap.size < v1.heap.size := by simp [← hv_] <;> omega
  obtain ⟨r0, r1, r2⟩ : Cs3 v1 (w.heap.size + 1) (.bool b1) (.slice A1 n1 c1) (.slice B1 m1 d1) := by simp [Cs3, ← hv_, go_sem]
  have rl : w.heap.size + 1 < v1.heap.size := by simp [← hv_] <;> omega
  obtain ⟨g0, g1, g2⟩ : Cs3 v1 (w.heap.size + 1 + 1) (.bool false) (.slice none 0 0) (.slice none 0 0) := by simp [Cs3, ← hv_, go_sem]
  have gl : w.heap.size + 1 + 1 < v1.heap.size := by simp [← hv_] <;> omega
  clear hv_
  have qq : Below v1.heap.size v1 v1.drew := below_drewN (Below.refl _ v1) 1
  have p0' := p0.on qq
  have q0' := q0.on qq
  have p1' := p1.on qq
  have q1' := q1.on qq
  have zs' := zs.on qq
  have t1' := t1.on qq
  go_region_held3 (fun w' => w'.cell? ⟨w.heap.size, 0, none⟩ = some (.bool b0) ∧ w'.cell? ⟨w.heap.size, 1, none⟩ = some (.slice A0 n0 c0) ∧ w'.cell? ⟨w.heap.size, 2, none⟩ = some (.slice B0 m0 d0) ∧ w'.cell? ⟨w.heap.size + 1, 0, none⟩ = some (.bool b1) ∧ w'.cell? ⟨w.heap.size + 1, 1, none⟩ = some (.slice A1 n1 c1) ∧ w'.cell? ⟨w.heap.size + 1, 2, none⟩ = some (.slice B1 m1 d1))
    (first | with_reducible exact ⟨cK qq k0 kl, cK qq k1 kl, cK qq k2 kl, cK qq r0 rl, cK qq r1 rl, cK qq r2 rl⟩ | with_reducible exact ⟨(cell_putR (by omega)).trans (cK qq k0 kl), (cell_putR (by omega)).trans (cK qq k1 kl), (cell_putR (by omega)).trans (cK qq k2 kl), (cell_putR (by omega)).trans (cK qq r0 rl), (cell_putR (by omega)).trans (cK qq r1 rl), (cell_putR (by omega)).trans (cK qq r2 rl)⟩)
    (first
      | (go_at_call 63; (with_reducible refine (rzmul_N p0' zs' (Nat.le_trans lp0 (by omega)) (Nat.le_trans lS (by omega))).mono ?_); rintro e wz ⟨bs, As, ns, cs, rfl, s, q⟩; replace qq := bK qq q; (try replace p0' := p0'.on q); (try replace q0' := q0'.on q); (try replace p1' := p1'.on q); (try replace q1' := q1'.on q); (try replace zs' := zs'.on q); (try replace t1' := t1'.on q); (try replace t := t.on q); (try replace hm := hm.on q); clear q; have xa0 := cK qq g0 gl; have ya0 := fK qq f0 gl; have xa1 := cK qq g1 gl; have ya1 := fK qq f1 gl; have xa2 := cK qq g2 gl; have ya2 := fK qq f2 gl)
      | (go_at_call 64; (with_reducible refine (rmul_N q0' t1' (Nat.le_trans lq0 (by omega)) (Nat.le_trans lp1 (by omega))).mono ?_); rintro e wz ⟨At, nt, ct, rfl, t, q⟩; replace qq := bK qq q; (try replace p0' := p0'.on q); (try replace q0' := q0'.on q); (try replace p1' := p1'.on q); (try replace q1' := q1'.on q); (try replace zs' := zs'.on q); (try replace t1' := t1'.on q); (try replace s := s.on q); (try replace hm := hm.on q); clear q; have xa0 := cK qq g0 gl; have ya0 := fK qq f0 gl; have xa1 := cK qq g1 gl; have ya1 := fK qq f1 gl; have xa2 := cK qq g2 gl; have ya2 := fK qq f2 gl)
      | (go_at_call 62; (with_reducible refine (rtmake_N s t hD lC lD).mono ?_); rintro e wz ⟨bm, Am, nm, cm, Bm, mm, dm, rfl, hm, q⟩; replace qq := bK qq q; (try replace p0' := p0'.on q); (try replace q0' := q0'.on q); (try replace p1' := p1'.on q); (try replace q1' := q1'.on q); (try replace zs' := zs'.on q); (try replace t1' := t1'.on q); (try replace s := s.on q); (try replace t := t.on q); clear q; have xa0 := cK qq g0 gl; have ya0 := fK qq f0 gl; have xa1 := cK qq g1 gl; have ya1 := fK qq f1 gl; have xa2 := cK qq g2 gl; have ya2 := fK qq f2 gl))
  replace cc := bK cc qq
  have eb : BoxR wz (w.heap.size + 1 + 1) false none 0 0 none 0 0 := ⟨xa0, xa1, xa2⟩
  have HZ : Hid (Rt (putR wz (w.heap.size + 1 + 1) (.bool bm) (.slice Am nm cm) (.slice Bm mm dm)) bm Am nm cm Bm mm dm (x0 / x1)) := Lib.hid (by rw [div_mk x0 x1 hne]; exact Rt.putR hm eb _ _ _)
  go_wp2_with fail
  refine bodyPost_ret (v := .tuple #[.agg #[.bool bm, .slice Am nm cm, .slice Bm mm dm], .int .i64 0]) (by simp [results, Tryz.results51, go_sem, xa0, xa1, xa2]) rfl ⟨_, _, _, _, _, _, _, rfl, HZ.out, below_putR cc (by omega) _ _ _⟩

end Go.Proofs.YtpidpebgeblenaaGreat

/-
  The contracts of the fifth reference: Of, Same, Right, Few.
-/
namespace Go.Proofs.YtpidpebgeblenaaGreat
set_option maxRecDepth 100000
open Go.RowKit
set_option linter.unusedVariables false


set_option maxHeartbeats 8000000 in
theorem rtof_N (w : World) (n : Int) (h : I64 n) :
    Calls Tryz.prog 53 #[.int .i64 n] w (GotRt w ((n : Int) : Rat)) := by
  have hl := h.abs
  have cc := Below.refl w.heap.size w
  go_enter Tryz.func53, Tryz.ntmps53
  go_wp2_with fail
  generalize hv_ : w.alloc (.cells #[.bool false, .slice none 0 0, .slice none 0 0] 83) = v1
  obtain ⟨f0, f1, f2⟩ : Fz3 v1 w.heap.size := by simp [Fz3, ← hv_, go_sem]
  have bA : Below w.heap.size w v1 := by rw [← hv_]; exact ((Below.refl _ w).alloc (by simp) _)
  replace cc := bK cc bA
  clear bA
  obtain ⟨g0, g1, g2⟩ : Cs3 v1 w.heap.size (.bool false) (.slice none 0 0) (.slice none 0 0) := by simp [Cs3, ← hv_, go_sem]
  have gl : w.heap.size < v1.heap.size := by simp [← hv_] <;> omega
  clear hv_
  refine (rzof_N v1 n h).mono ?_
  rintro e w2 ⟨bm, Am, nm, cm, rfl, pm, b⟩
  rewrite [fR b gl] at f0 f1 f2
  rewrite [cR b gl] at g0 g1 g2
  replace gl := lK b gl
  replace cc := bK cc b
  clear b
  go_wp2_with fail
  refine (rof_N w2 1 (by decide)).mono ?_
  rintro e w3 ⟨Bm, mm, dm, rfl, qm, b⟩
  rewrite [fR b gl] at f0 f1 f2
  replace pm := pm.on b
  rewrite [cR b gl] at g0 g1 g2
  replace gl := lK b gl
  replace cc := bK cc b
  clear b
  have hn : Rt w3 bm Am nm cm Bm mm dm ((n : Int) : Rat) := ⟨pm, qm⟩
  have eb : BoxR w3 (w.heap.size) false none 0 0 none 0 0 := ⟨g0, g1, g2⟩
  have HZ : Hid (Rt (putR w3 (w.heap.size) (.bool bm) (.slice Am nm cm) (.slice Bm mm dm)) bm Am nm cm Bm mm dm (((n : Int) : Rat))) := Lib.hid (Rt.putR (r := ((n : Int) : Rat)) hn eb _ _ _)
  go_wp2_with fail
  refine bodyPost_ret (v := .agg #[.bool bm, .slice Am nm cm, .slice Bm mm dm]) (by simp [results, Tryz.results53, go_sem, g0, g1, g2]) rfl ⟨_, _, _, _, _, _, _, rfl, HZ.out, below_putR cc (by omega) _ _ _⟩





/-- A rational's form is right. -/
def okR (b : Bool) (n : Nat) (l : List Nat) (m : Nat) (l2 : List Nat) : Bool := okZ b n l && (canon l2 && (decide (0 < m) && decide (Nat.gcd (val l) (val l2) = 1)))


theorem num_ne {w : World} {A : Option Addr} {n c x : Nat} (h : Num w A n c x) (h0 : 0 < n) : x ≠ 0 := by
  intro e
  have hl := h.len
  rw [e, limbs_zero] at hl
  simp at hl
  omega









end Go.Proofs.YtpidpebgeblenaaGreat

/-
  The contracts of the fifth reference: Frac.
-/
namespace Go.Proofs.YtpidpebgeblenaaGreat
set_option maxRecDepth 100000
open Go.RowKit
set_option linter.unusedVariables false

/-- The parts of a struct that is no variable. -/
theorem field_N (b : Bool) (A : Option Addr) (n c : Nat) (w : World) : Sem.run Tryz.prog (Instr.field 81 (.agg #[.bool b, .slice A n c]) 1) w = .ok (.slice A n c) w := by rfl
theorem field_P (b : Bool) (A B : Option Addr) (n c m d : Nat) (w : World) : Sem.run Tryz.prog (Instr.field 83 (.agg #[.bool b, .slice A n c, .slice B m d]) 0) w = .ok (.agg #[.bool b, .slice A n c]) w := by rfl
theorem field_Q (b : Bool) (A B : Option Addr) (n c m d : Nat) (w : World) : Sem.run Tryz.prog (Instr.field 83 (.agg #[.bool b, .slice A n c, .slice B m d]) 1) w = .ok (.slice B m d) w := by rfl
attribute [local go_sem] field_N field_P field_Q


end Go.Proofs.YtpidpebgeblenaaGreat

/-
  Rationals over the fifth reference: which is greater, few limbs, the same.
-/
namespace Go.Proofs.YtpidpebgeblenaaGreat
set_option maxRecDepth 100000
open Go.RowKit
set_option linter.unusedVariables false
set_option linter.unusedSimpArgs false

theorem q1 (a b : Rat) : a + b - b = a := by grind
theorem q2 (a : Rat) : a - ((0 : Int) : Rat) = a := by rw [show ((0 : Int) : Rat) = 0 from rfl]; grind
theorem q3 (a : Rat) : a * ((1 : Int) : Rat) = a := by rw [show ((1 : Int) : Rat) = 1 from rfl]; grind
theorem q4 (a b : Rat) (h : b ≠ 0) : a * b / b = a := by grind
theorem q5 (a b : Rat) : b + (a - b) = a := by grind
/-- Behind 'x, e := f(..)': a box, and what it holds; the box is new. -/
def LoneR (V U : World) (g : Nat) (b : Bool) (A : Option Addr) (n k : Nat) (B : Option Addr) (m d : Nat) (r : Rat) : Prop := BoxR U g b A n k B m d ∧ Rt U b A n k B m d r ∧ Below V.heap.size V U ∧ V.heap.size ≤ g
section
variable {V wz : World} {g : Nat} {b : Bool} {A B : Option Addr} {n k m d : Nat} {r : Rat}
end
/-- Behind 'x, e := f(..)' that was refused: a new box of noughts. -/
def LoneO (V U : World) (g : Nat) : Prop := BoxR U g false none 0 0 none 0 0 ∧ Below V.heap.size V U ∧ V.heap.size ≤ g
section
variable {V wz : World} {g : Nat}
end
/-- Behind 'x, y := f(..), g(..)': two boxes, and what they hold. -/
def BothR (V U : World) (gx gy : Nat) (bx : Bool) (Ax : Option Addr) (nx kx : Nat) (Cx : Option Addr) (mx dx : Nat) (bY : Bool) (Ay : Option Addr) (ny ky : Nat) (Cy : Option Addr) (my dy : Nat) (rx ry : Rat) : Prop :=
  BoxR U gx bx Ax nx kx Cx mx dx ∧ BoxR U gy bY Ay ny ky Cy my dy ∧ Rt U bx Ax nx kx Cx mx dx rx ∧ Rt U bY Ay ny ky Cy my dy ry ∧ Below V.heap.size V U ∧ V.heap.size ≤ gx ∧ V.heap.size ≤ gy ∧ gx ≠ gy
section
variable {V wz : World} {gx gy : Nat} {bx bY : Bool} {Ax Ay Cx Cy : Option Addr} {nx kx ny ky mx dx my dy : Nat} {rx ry : Rat}
end

theorem rtcmp_v {w : World} {b0 b1 : Bool} {A0 B0 A1 B1 : Option Addr} {n0 c0 m0 d0 n1 c1 m1 d1 : Nat} {x0 x1 : Rat} (r : Int) (h0 : Rt w b0 A0 n0 c0 B0 m0 d0 x0) (s0 : Sz x0 100) (h1 : Rt w b1 A1 n1 c1 B1 m1 d1 x1) (s1 : Sz x1 100) (h : cmpQ x0 x1 = r) : Calls Tryz.prog 83 #[.agg #[.bool b0, .slice A0 n0 c0, .slice B0 m0 d0], .agg #[.bool b1, .slice A1 n1 c1, .slice B1 m1 d1]] w (GotV w (.int .i64 r)) := by
  subst h
  exact rtcmp_N h0 s0 h1 s1

end Go.Proofs.YtpidpebgeblenaaGreat

/-
  Rationals: a product whose sides are reduced crosswise, and a sum over the least number that both divide, as they are.
-/
namespace Go.Proofs.YtpidpebgeblenaaGreat

end Go.Proofs.YtpidpebgeblenaaGreat

/-
  Plain arithmetic of long division: digits shifted within rows, products taken off rows, guesses.
-/
namespace Go.Proofs.YtpidpebgeblenaaGreat

/-- A digit shifted up, what stays and what goes over. -/
def shlD (x s : Nat) : Nat := x * 2 ^ s % B64
def shrD (x s : Nat) : Nat := x / 2 ^ (64 - s)
theorem B64_parts {s : Nat} (hs : s ≤ 64) : 2 ^ s * 2 ^ (64 - s) = B64 := by
  rw [B64_two, ← Nat.pow_add]
  congr 1
  omega
theorem shlD_mul (x : Nat) {s : Nat} (hs : s ≤ 64) : shlD x s = 2 ^ s * (x % 2 ^ (64 - s)) := by
  unfold shlD
  rw [← B64_parts hs, Nat.mul_comm x, Nat.mul_mod_mul_left]
theorem sh_split (x : Nat) {s : Nat} (hs : s ≤ 64) : shlD x s + B64 * shrD x s = x * 2 ^ s := by
  rw [shlD_mul x hs, ← B64_parts hs, Nat.mul_assoc, ← Nat.mul_add]
  unfold shrD
  rw [Nat.mod_add_div, Nat.mul_comm]
theorem shlD_add_lt (x : Nat) {s c : Nat} (hs : s ≤ 64) (hc : c < 2 ^ s) : shlD x s + c < B64 := by
  rw [shlD_mul x hs, ← B64_parts hs]
  have h1 : x % 2 ^ (64 - s) + 1 ≤ 2 ^ (64 - s) := Nat.mod_lt _ (Nat.pow_pos (by omega))
  have h2 : 2 ^ s * (x % 2 ^ (64 - s) + 1) ≤ 2 ^ s * 2 ^ (64 - s) := Nat.mul_le_mul_left _ h1
  rw [Nat.mul_add, Nat.mul_one] at h2
  omega
theorem shrD_lt {x s : Nat} (hx : x < B64) (hs : s ≤ 64) : shrD x s < 2 ^ s := by
  unfold shrD
  rw [Nat.div_lt_iff_lt_mul (Nat.pow_pos (by omega)), B64_parts hs]
  exact hx

/-- What has been reckoned of a row shifted up when k digits are done. -/
def RaisedAt (l R : List Nat) (k s c : Nat) : Prop := Dig R ∧ R.length = k ∧ c < 2 ^ s ∧ val R + B64 ^ k * c = val (l.take k) * 2 ^ s
theorem RaisedAt.start (l : List Nat) (s : Nat) : RaisedAt l [] 0 s 0 := ⟨Dig.nil, rfl, Nat.pow_pos (by omega), by simp [val_nil]⟩
theorem RaisedAt.step {l R : List Nat} {k s c : Nat} (h : RaisedAt l R k s c) (hl : Dig l) (hs : s ≤ 64) : RaisedAt l (R ++ [shlD (l[k]?.getD 0) s + c]) (k + 1) s (shrD (l[k]?.getD 0) s) := by
  obtain ⟨h1, h2, h3, h4⟩ := h
  refine ⟨h1.snoc (shlD_add_lt _ hs h3), by simp [h2], shrD_lt (hl.get k) hs, ?_⟩
  rw [val_snoc, h2, val_take_succ, Nat.add_mul, ← h4, Nat.pow_succ]
  have h5 := sh_split (l[k]?.getD 0) hs
  generalize l[k]?.getD 0 = x at *
  have h6 : B64 ^ k * (shlD x s + B64 * shrD x s) = B64 ^ k * (x * 2 ^ s) := by rw [h5]
  rw [Nat.mul_add, ← Nat.mul_assoc, ← Nat.mul_assoc] at h6
  rw [Nat.mul_add]
  omega
theorem RaisedAt.done {l R : List Nat} {k s c : Nat} (h : RaisedAt l R k s c) (hk : k = l.length) (hs : s ≤ 64) : Dig (R ++ [c]) ∧ (R ++ [c]).length = l.length + 1 ∧ val (R ++ [c]) = val l * 2 ^ s := by
  obtain ⟨h1, h2, h3, h4⟩ := h
  have h5 : c < B64 := Nat.lt_of_lt_of_le h3 (by rw [B64_two]; exact Nat.pow_le_pow_right (by omega) hs)
  refine ⟨h1.snoc h5, by simp [h2, hk], ?_⟩
  rw [val_snoc, h2, h4, List.take_of_length_le (by omega)]

/-- What has been reckoned when x times the first k digits of l is taken off P. -/
def LessAt (P Q : List Nat) (k x : Nat) (l : List Nat) (c : Nat) : Prop :=
  Dig Q ∧ Q.length = P.length ∧ c < B64 ∧ (∀ j, k ≤ j → Q[j]?.getD 0 = P[j]?.getD 0) ∧ val Q + x * val (l.take k) = val P + B64 ^ k * c
theorem LessAt.start {P : List Nat} (h : Dig P) (x : Nat) (l : List Nat) : LessAt P P 0 x l 0 :=
  ⟨h, rfl, B64_pos, fun _ _ => rfl, by simp [val_nil]⟩
/-- What is owed to the next digit. -/
def owed (x y q c : Nat) : Nat := mulHi y x + sumHi (mulLo y x) c 0 + subHi q (sumLo (mulLo y x) c 0) 0
/-- The digit that is left. -/
def lessD (x y q c : Nat) : Nat := subLo q (sumLo (mulLo y x) c 0) 0
theorem lessD_lt (x y q c : Nat) : lessD x y q c < B64 := subLo_lt _ _ _
theorem owed_split {x y q c : Nat} (hq : q < B64) : lessD x y q c + (y * x + c) = q + B64 * owed x y q c := by
  have h1 := sum_split (mulLo y x) c 0
  have h2 : mulLo y x + B64 * mulHi y x = y * x := Nat.mod_add_div _ _
  have h3 := sub_split hq (sumLo_lt (mulLo y x) c 0) (Nat.zero_le 1)
  unfold lessD owed
  rw [Nat.mul_add, Nat.mul_add]
  omega
theorem owed_lt {x y q c : Nat} (hx : x < B64) (hy : y < B64) (hc : c < B64) : mulHi y x + sumHi (mulLo y x) c 0 < B64 ∧ owed x y q c < B64 := by
  have h1 := sum_split (mulLo y x) c 0
  have h2 : mulLo y x + B64 * mulHi y x = y * x := Nat.mod_add_div _ _
  have h4 : y * x ≤ (B64 - 1) * (B64 - 1) := Nat.mul_le_mul (by omega) (by omega)
  have h5 : B64 * (mulHi y x + sumHi (mulLo y x) c 0) + sumLo (mulLo y x) c 0 ≤ B64 * (B64 - 1) := by
    have e : (B64 - 1) * (B64 - 1) + (B64 - 1) = B64 * (B64 - 1) := by unfold B64; omega
    rw [Nat.mul_add]
    omega
  unfold owed
  have hb := subHi_le q (sumLo (mulLo y x) c 0) 0
  have hz : sumLo (mulLo y x) c 0 = 0 → subHi q (sumLo (mulLo y x) c 0) 0 = 0 := fun h => by unfold subHi; rw [h]; simp
  generalize mulHi y x + sumHi (mulLo y x) c 0 = a at *
  generalize subHi q (sumLo (mulLo y x) c 0) 0 = b at *
  generalize sumLo (mulLo y x) c 0 = d at *
  unfold B64 at *
  omega
theorem LessAt.step {P Q l : List Nat} {k x c : Nat} (h : LessAt P Q k x l c) (hx : x < B64) (hl : Dig l) (hk : k < P.length) :
    LessAt P (Q.set k (lessD x (l[k]?.getD 0) (Q[k]?.getD 0) c)) (k + 1) x l (owed x (l[k]?.getD 0) (Q[k]?.getD 0) c) := by
  obtain ⟨hd, hlen, hc, hsame, hv⟩ := h
  refine ⟨hd.set _ (lessD_lt _ _ _ _), by rw [List.length_set, hlen], (owed_lt hx (hl.get k) hc).2, fun j hj => ?_, ?_⟩
  · rw [List.getElem?_set_ne (by omega)]; exact hsame j (by omega)
  · have hs := val_set (l := Q) (k := k) (by omega) (lessD x (l[k]?.getD 0) (Q[k]?.getD 0) c)
    have hm := owed_split (x := x) (y := l[k]?.getD 0) (c := c) (hd.get k)
    rw [val_take_succ, Nat.pow_succ, Nat.mul_assoc]
    generalize lessD x (l[k]?.getD 0) (Q[k]?.getD 0) c = d at *
    generalize owed x (l[k]?.getD 0) (Q[k]?.getD 0) c = o at *
    generalize Q[k]?.getD 0 = q at *
    generalize l[k]?.getD 0 = y at *
    have h1 : B64 ^ k * d + (B64 ^ k * (y * x) + B64 ^ k * c) = B64 ^ k * q + B64 ^ k * (B64 * o) := by
      rw [← Nat.mul_add, ← Nat.mul_add, hm, Nat.mul_add]
    have h2 : x * (val (l.take k) + B64 ^ k * y) = x * val (l.take k) + B64 ^ k * (y * x) := by
      rw [Nat.mul_add]
      have : x * (B64 ^ k * y) = B64 ^ k * (y * x) := by ac_rfl
      rw [this]
    rw [h2]
    omega
theorem LessAt.done {P Q l : List Nat} {x c : Nat} (h : LessAt P Q l.length x l c) (hk : P.length = l.length + 1) :
    Dig (Q.set l.length (subLo (Q[l.length]?.getD 0) c 0)) ∧ (Q.set l.length (subLo (Q[l.length]?.getD 0) c 0)).length = l.length + 1 ∧ val (Q.set l.length (subLo (Q[l.length]?.getD 0) c 0)) + x * val l = val P + B64 ^ (l.length + 1) * subHi (Q[l.length]?.getD 0) c 0 := by
  obtain ⟨hd, hlen, hc, hsame, hv⟩ := h
  refine ⟨hd.set _ (subLo_lt _ _ _), by rw [List.length_set, hlen, hk], ?_⟩
  have hs := val_set (l := Q) (k := l.length) (by omega) (subLo (Q[l.length]?.getD 0) c 0)
  have hm := sub_split (hd.get l.length) hc (Nat.zero_le 1)
  rw [List.take_of_length_le (Nat.le_refl _)] at hv
  generalize subLo (Q[l.length]?.getD 0) c 0 = d at *
  generalize subHi (Q[l.length]?.getD 0) c 0 = b at *
  generalize Q[l.length]?.getD 0 = q at *
  rw [Nat.pow_succ, Nat.mul_assoc]
  have h1 : B64 ^ l.length * d + B64 ^ l.length * c = B64 ^ l.length * q + B64 ^ l.length * (B64 * b) := by
    rw [← Nat.mul_add, ← Nat.mul_add]; congr 1
  omega

/-- What has been reckoned when the first k digits of l are added to P. -/
def BackAt (P Q : List Nat) (k : Nat) (l : List Nat) (c : Nat) : Prop :=
  Dig Q ∧ Q.length = P.length ∧ c ≤ 1 ∧ val Q + B64 ^ k * c = val P + val (l.take k)
theorem BackAt.start {P : List Nat} (h : Dig P) (l : List Nat) : BackAt P P 0 l 0 := ⟨h, rfl, by omega, by simp [val_nil]⟩
theorem BackAt.step {P Q l : List Nat} {k c : Nat} (h : BackAt P Q k l c) (hl : Dig l) (hk : k < P.length) :
    BackAt P (Q.set k (sumLo (Q[k]?.getD 0) (l[k]?.getD 0) c)) (k + 1) l (sumHi (Q[k]?.getD 0) (l[k]?.getD 0) c) := by
  obtain ⟨hd, hlen, hc, hv⟩ := h
  refine ⟨hd.set _ (sumLo_lt _ _ _), by rw [List.length_set, hlen], sumHi_le (hd.get k) (hl.get k) hc, ?_⟩
  have hs := val_set (l := Q) (k := k) (by omega) (sumLo (Q[k]?.getD 0) (l[k]?.getD 0) c)
  have hm := sum_split (Q[k]?.getD 0) (l[k]?.getD 0) c
  rw [val_take_succ, Nat.pow_succ, Nat.mul_assoc]
  generalize sumLo (Q[k]?.getD 0) (l[k]?.getD 0) c = d at *
  generalize sumHi (Q[k]?.getD 0) (l[k]?.getD 0) c = o at *
  generalize Q[k]?.getD 0 = q at *
  generalize l[k]?.getD 0 = y at *
  have h1 : B64 ^ k * d + B64 ^ k * (B64 * o) = B64 ^ k * q + B64 ^ k * y + B64 ^ k * c := by
    rw [← Nat.mul_add, hm, Nat.mul_add, Nat.mul_add]
  omega
theorem BackAt.done {P Q l : List Nat} {c : Nat} (h : BackAt P Q l.length l c) (hk : P.length = l.length + 1) :
    Dig (Q.set l.length (sumLo (Q[l.length]?.getD 0) c 0)) ∧ (Q.set l.length (sumLo (Q[l.length]?.getD 0) c 0)).length = l.length + 1 ∧ ∃ b, val (Q.set l.length (sumLo (Q[l.length]?.getD 0) c 0)) + B64 ^ (l.length + 1) * b = val P + val l := by
  obtain ⟨hd, hlen, hc, hv⟩ := h
  refine ⟨hd.set _ (sumLo_lt _ _ _), by rw [List.length_set, hlen, hk], sumHi (Q[l.length]?.getD 0) c 0, ?_⟩
  have hs := val_set (l := Q) (k := l.length) (by omega) (sumLo (Q[l.length]?.getD 0) c 0)
  have hm := sum_split (Q[l.length]?.getD 0) c 0
  rw [List.take_of_length_le (Nat.le_refl _)] at hv
  generalize sumLo (Q[l.length]?.getD 0) c 0 = d at *
  generalize sumHi (Q[l.length]?.getD 0) c 0 = b at *
  generalize Q[l.length]?.getD 0 = q at *
  rw [Nat.pow_succ, Nat.mul_assoc]
  have h1 : B64 ^ l.length * d + B64 ^ l.length * (B64 * b) = B64 ^ l.length * q + B64 ^ l.length * c := by
    rw [← Nat.mul_add, ← Nat.mul_add]; congr 1
  omega

/-- A guess is good: it is how often D goes into R, or one more. -/
def Good (R D t : Nat) : Prop := R < (t + 1) * D ∧ t * D ≤ R + D ∧ t < B64

end Go.Proofs.YtpidpebgeblenaaGreat

/-
  Plain arithmetic of a division's guesses: of digits (the program's), and of halves of a digit (the library's).
-/
namespace Go.Proofs.YtpidpebgeblenaaGreat

/-- What a guess sees: the two top digits of R and of D; P: what the places below the top one hold. -/
structure Seen (R D P u v1 v2 d1 r : Nat) : Prop where
  hD : D = v1 * P + d1
  hR : R = u * P + r
  hd : d1 < P
  hr : r < P
  lo : v2 * P ≤ B64 * d1
  hi : B64 * d1 < (v2 + 1) * P
  top : B64 ≤ 2 * v1
  v1lt : v1 < B64
  v2lt : v2 < B64

theorem Seen.first {R D P u v1 v2 d1 r t h : Nat} (S : Seen R D P u v1 v2 d1 r) (e : t * v1 + h = u) (hh : h < v1) : R < (t + 1) * D := by
  have h1 : R < (u + 1) * P := by rw [S.hR, Nat.add_mul]; have := S.hr; omega
  have h2 : (u + 1) * P ≤ (t + 1) * v1 * P := Nat.mul_le_mul_right _ (by rw [Nat.add_mul]; omega)
  have h3 : (t + 1) * (v1 * P) ≤ (t + 1) * D := Nat.mul_le_mul_left _ (by rw [S.hD]; omega)
  rw [← Nat.mul_assoc] at h3
  omega
theorem Seen.less {R D P u v1 v2 d1 r t h : Nat} (S : Seen R D P u v1 v2 d1 r) (e : t * v1 + h = u) (hc : (h + 1) * B64 ≤ t * v2) : R < t * D := by
  have h1 : R < (u + 1) * P := by rw [S.hR, Nat.add_mul]; have := S.hr; omega
  have h2 : t * (v2 * P) ≤ t * (B64 * d1) := Nat.mul_le_mul_left _ S.lo
  have h3 : (h + 1) * B64 * P ≤ t * v2 * P := Nat.mul_le_mul_right _ hc
  have h4 : (h + 1) * P ≤ t * d1 := by
    refine Nat.le_of_mul_le_mul_left (c := B64) ?_ B64_pos
    calc B64 * ((h + 1) * P) = (h + 1) * B64 * P := by ac_rfl
      _ ≤ t * v2 * P := h3
      _ = t * (v2 * P) := by ac_rfl
      _ ≤ t * (B64 * d1) := h2
      _ = B64 * (t * d1) := by ac_rfl
  have h5 : t * D = t * v1 * P + t * d1 := by rw [S.hD, Nat.mul_add, Nat.mul_assoc]
  have h6 : (u + 1) * P = t * v1 * P + (h + 1) * P := by rw [← Nat.add_mul]; congr 1; omega
  omega
theorem Seen.done {R D P u v1 v2 d1 r t h : Nat} (S : Seen R D P u v1 v2 d1 r) (e : t * v1 + h = u) (ht : t < B64) (hc : t * v2 < (h + 1) * B64) : t * D ≤ R + D := by
  have h5 : t * D = t * v1 * P + t * d1 := by rw [S.hD, Nat.mul_add, Nat.mul_assoc]
  have h1 : t * (B64 * d1) ≤ t * ((v2 + 1) * P) := Nat.mul_le_mul_left _ (Nat.le_of_lt S.hi)
  have h2 : t * v2 + t ≤ (h + 2) * B64 := by rw [Nat.add_mul] at hc ⊢; omega
  have h3 : t * d1 ≤ (h + 2) * P := by
    refine Nat.le_of_mul_le_mul_left (c := B64) ?_ B64_pos
    calc B64 * (t * d1) = t * (B64 * d1) := by ac_rfl
      _ ≤ t * ((v2 + 1) * P) := h1
      _ = (t * v2 + t) * P := by rw [← Nat.mul_assoc, Nat.mul_add, Nat.mul_one]
      _ ≤ (h + 2) * B64 * P := Nat.mul_le_mul_right _ h2
      _ = B64 * ((h + 2) * P) := by ac_rfl
  have h6 : u * P = t * v1 * P + h * P := by rw [← Nat.add_mul]; congr 1; omega
  have h7 : 2 * P ≤ v1 * P := Nat.mul_le_mul_right _ (by have := S.top; have := B64_gt; unfold B64 at *; omega)
  have h8 : (h + 2) * P = h * P + 2 * P := Nat.add_mul ..
  have h9 := S.hR
  have h10 := S.hD
  omega
theorem Seen.great {R D P u v1 v2 d1 r : Nat} (S : Seen R D P u v1 v2 d1 r) (hu : v1 * B64 ≤ u) (hlt : R < B64 * D) : Good R D (B64 - 1) := by
  have e : B64 - 1 + 1 = B64 := by have := B64_pos; omega
  refine ⟨by rw [e]; exact hlt, ?_, by have := B64_pos; omega⟩
  obtain ⟨b, hb⟩ : ∃ b, B64 = b + 2 := ⟨B64 - 2, by unfold B64; omega⟩
  have h1 : b * D ≤ R := by
    have h2 : b * D ≤ b * ((v1 + 1) * P) := Nat.mul_le_mul_left _ (by rw [S.hD, Nat.add_mul]; have := S.hd; omega)
    have h3 : b * (v1 + 1) ≤ v1 * B64 := by
      have := S.top
      rw [hb] at this ⊢
      rw [Nat.mul_add, Nat.mul_add, Nat.mul_comm v1 b]
      omega
    have h4 : b * (v1 + 1) * P ≤ u * P := Nat.mul_le_mul_right _ (Nat.le_trans h3 hu)
    rw [← Nat.mul_assoc] at h2
    have := S.hR
    omega
  rw [hb, show b + 2 - 1 = b + 1 by omega, Nat.add_mul, Nat.one_mul]
  omega

/-- One half of the library's division: u is less than y, d is a half. -/
structure Half (u y y1 y0 d q r : Nat) : Prop where
  hy : y = y1 * H32 + y0
  h0 : y0 < H32
  h1 : y1 < H32
  top : H32 ≤ 2 * y1
  hu : u < y
  hd : d < H32
  hq : q * y1 + r = u
  hlt : u * H32 + d < (q + 1) * y

theorem Half.start {u y y1 y0 d : Nat} (hy : y = y1 * H32 + y0) (h0 : y0 < H32) (h1 : y1 < H32) (top : H32 ≤ 2 * y1) (hu : u < y) (hd : d < H32) : Half u y y1 y0 d (u / y1) (u % y1) := by
  have hy1 : 0 < y1 := by unfold H32 at top; omega
  have e : u / y1 * y1 + u % y1 = u := by rw [Nat.mul_comm]; exact Nat.div_add_mod u y1
  refine ⟨hy, h0, h1, top, hu, hd, e, ?_⟩
  have h2 := Nat.mod_lt u hy1
  have h3 : u + 1 ≤ (u / y1 + 1) * y1 := by rw [Nat.add_mul]; omega
  have h4 : (u + 1) * H32 ≤ (u / y1 + 1) * y1 * H32 := Nat.mul_le_mul_right _ h3
  have h5 : (u / y1 + 1) * (y1 * H32) ≤ (u / y1 + 1) * y := Nat.mul_le_mul_left _ (by omega)
  rw [← Nat.mul_assoc] at h5
  rw [Nat.add_mul, Nat.one_mul] at h4
  omega
theorem Half.r_lt {u y1 : Nat} (top : H32 ≤ 2 * y1) : u % y1 < y1 := Nat.mod_lt _ (by unfold H32 at top; omega)
/-- The test of the library's loop, read as numbers. -/
def tooBig (q y0 r d : Nat) : Prop := H32 ≤ q ∨ H32 * r + d < q * y0
theorem Half.pos {u y y1 y0 d q r : Nat} (h : Half u y y1 y0 d q r) (ht : tooBig q y0 r d) : u * H32 + d < q * y ∧ 0 < q := by
  have e : q * y = q * y1 * H32 + q * y0 := by rw [h.hy, Nat.mul_add, Nat.mul_assoc]
  have h2 : u * H32 = q * y1 * H32 + r * H32 := by rw [← Nat.add_mul, h.hq]
  have hlt : u * H32 + d < q * y := by
    rcases ht with ht | ht
    · have h3 : H32 * y ≤ q * y := Nat.mul_le_mul_right _ ht
      have h4 : (u + 1) * H32 ≤ y * H32 := Nat.mul_le_mul_right _ h.hu
      rw [Nat.add_mul, Nat.one_mul] at h4
      have := h.hd
      rw [Nat.mul_comm] at h3
      omega
    · rw [Nat.mul_comm H32] at ht
      omega
  refine ⟨hlt, ?_⟩
  rcases Nat.eq_zero_or_pos q with h3 | h3
  · subst h3; omega
  · exact h3
theorem Half.step {u y y1 y0 d q r : Nat} (h : Half u y y1 y0 d q r) (ht : tooBig q y0 r d) : Half u y y1 y0 d (q - 1) (r + y1) := by
  obtain ⟨h1, h2⟩ := h.pos ht
  refine ⟨h.hy, h.h0, h.h1, h.top, h.hu, h.hd, ?_, by rw [Nat.sub_add_cancel h2]; exact h1⟩
  have := h.hq
  obtain ⟨p, rfl⟩ : ∃ p, q = p + 1 := ⟨q - 1, by omega⟩
  rw [Nat.add_sub_cancel]
  rw [Nat.add_mul] at this
  omega
/-- It ends either way with the quotient. -/
theorem Half.fin {u y y1 y0 d q r : Nat} (h : Half u y y1 y0 d q r) (ht : H32 ≤ r ∨ ¬ tooBig q y0 r d) : q = (u * H32 + d) / y ∧ q < H32 := by
  have e : q * y = q * y1 * H32 + q * y0 := by rw [h.hy, Nat.mul_add, Nat.mul_assoc]
  have h2 : u * H32 = q * y1 * H32 + r * H32 := by rw [← Nat.add_mul, h.hq]
  have h0 := h.h0
  have key : q * y ≤ u * H32 + d ∧ q < H32 := by
    rcases ht with ht | ht
    · have hq : q < H32 := by
        rcases Nat.lt_or_ge q H32 with h3 | h3
        · exact h3
        · have h4 : H32 * y1 ≤ q * y1 := Nat.mul_le_mul_right _ h3
          have := h.hq
          have := h.hu
          have h5 := h.hy
          rw [Nat.mul_comm] at h5
          omega
      refine ⟨?_, hq⟩
      have h3 : q * y0 ≤ H32 * H32 := Nat.mul_le_mul (by omega) (by omega)
      have h4 : H32 * H32 ≤ r * H32 := Nat.mul_le_mul_right _ ht
      omega
    · unfold tooBig at ht
      have h3 : ¬ H32 ≤ q := fun k => ht (.inl k)
      have h4 : ¬ H32 * r + d < q * y0 := fun k => ht (.inr k)
      rw [Nat.mul_comm H32] at h4
      omega
  refine ⟨?_, key.2⟩
  have hlt := h.hlt
  have hy0 : 0 < y := by have := h.hu; omega
  refine (Nat.div_eq_of_lt_le ?_ ?_).symm
  · exact key.1
  · exact hlt
theorem Half.q_le {u y y1 y0 d q r : Nat} (h : Half u y y1 y0 d q r) : q ≤ 2 * H32 := by
  rcases Nat.lt_or_ge (2 * H32) q with h3 | h3
  · have h4 : 2 * H32 * y1 ≤ q * y1 := Nat.mul_le_mul_right _ (by omega)
    have := h.hq
    have := h.hu
    have h5 := h.hy
    have h6 : y1 * H32 * 2 = 2 * H32 * y1 := by ac_rfl
    have := h.h0
    have h7 : H32 ≤ y1 * H32 := Nat.le_mul_of_pos_left _ (by have := h.top; unfold H32 at this; omega)
    omega
  · exact h3

/-- Both halves together. -/
theorem both_halves {hi l1 l0 y q1 u q0 : Nat} (hy : 0 < y) (e1 : q1 = (hi * H32 + l1) / y) (eu : u = (hi * H32 + l1) % y) (e0 : q0 = (u * H32 + l0) / y) :
    q1 * H32 + q0 = (hi * B64 + (l1 * H32 + l0)) / y ∧ (u * H32 + l0) % y = (hi * B64 + (l1 * H32 + l0)) % y := by
  have h1 : hi * H32 + l1 = u + y * q1 := by rw [e1, eu]; exact (Nat.mod_add_div _ _).symm
  have h2 : hi * B64 + (l1 * H32 + l0) = (u * H32 + l0) + y * (q1 * H32) := by
    have : (hi * H32 + l1) * H32 = (u + y * q1) * H32 := by rw [h1]
    rw [Nat.add_mul, Nat.add_mul, Nat.mul_assoc, Nat.mul_assoc, H32_sq] at this
    omega
  rw [h2, Nat.add_mul_div_left _ _ hy, Nat.add_mul_mod_self_left, e0]
  exact ⟨by omega, rfl⟩

end Go.Proofs.YtpidpebgeblenaaGreat

/-
  The contracts of div's trim, limb, raised, isShift, and of the library's Clone.
-/
namespace Go.Proofs.YtpidpebgeblenaaGreat
open Go.RowKit
/-- Two digits' figures that do not meet, joined by an or. -/
theorem or_shl (x : Nat) {s c : Nat} (hs : s ≤ 64) (hc : c < 2 ^ s) : bits .or .u64 (IntKind.u64.wrap ((x : Int) * 2 ^ s)) (c : Int) = ((shlD x s + c : Nat) : Int) := by
  have hlt := shlD_add_lt x hs hc
  have e1 : IntKind.u64.wrap ((x : Int) * 2 ^ s) = ((shlD x s : Nat) : Int) := by
    rw [IntKind.wrap_u64, show (18446744073709551616 : Int) = (B64 : Int) from rfl]
    unfold shlD
    simp
  rw [e1]
  have key : (BitVec.ofInt 64 ((shlD x s : Nat) : Int) ||| BitVec.ofInt 64 (c : Int)).toNat = shlD x s + c := by
    have h1 : ((shlD x s : Nat) : Int) % ((2 ^ 64 : Nat) : Int) = ((shlD x s : Nat) : Int) := Int.emod_eq_of_lt (by omega) (by rw [← B64_two]; omega)
    have h2 : (c : Int) % ((2 ^ 64 : Nat) : Int) = (c : Int) := Int.emod_eq_of_lt (by omega) (by rw [← B64_two]; omega)
    rw [BitVec.toNat_or, BitVec.toNat_ofInt, BitVec.toNat_ofInt, h1, h2, Int.toNat_natCast, Int.toNat_natCast, shlD_mul x hs]
    exact (Nat.two_pow_add_eq_or_of_lt hc _).symm
  show IntKind.u64.wrap ((BitVec.ofInt 64 ((shlD x s : Nat) : Int) ||| BitVec.ofInt 64 (c : Int)).toNat : Nat) = _
  rw [key, IntKind.wrap_u64]
  unfold B64 at hlt
  omega

theorem shr_eq (x s : Nat) : (x : Int) / 2 ^ (64 - s) = ((shrD x s : Nat) : Int) := by
  unfold shrD
  simp

end Go.Proofs.YtpidpebgeblenaaGreat

/-
  The contracts of div's lowered, and of the library's Clone and LeadingZeros64.
-/
namespace Go.Proofs.YtpidpebgeblenaaGreat
set_option maxRecDepth 100000
open Go.RowKit

set_option maxHeartbeats 400000 in
theorem lead_any (x : Nat) (w : World) (hx : x < B64) : Calls Tryz.prog 158 #[.int .u64 (x : Int)] w fun e w' => e = .returned (.int .i64 ((64 - blen x : Nat) : Int)) ∧ w = w' := by
  have hb : blen x ≤ 64 := blen_le (by rw [← B64_two]; exact hx)
  go_enter Tryz.func158, Tryz.ntmps158
  go_wp2_with (go_at_call 164; refine (len64_any _ _ hx).mono ?_; rintro e w' ⟨rfl, rfl⟩)
  go_ret
  exact ⟨ret_i64 (by omega), rfl⟩

end Go.Proofs.YtpidpebgeblenaaGreat

/-
  The contracts of zed: signed, Right, Of, Int, Neg, Cmp.
-/
namespace Go.Proofs.YtpidpebgeblenaaGreat
set_option maxRecDepth 100000
set_option maxHeartbeats 2000000
open Go.RowKit
set_option linter.unusedVariables false

theorem signed_N {w : World} {A : Option Addr} {n c x : Nat} (b : Bool) (ha : Num w A n c x) (hn : n ≤ 1000000) : Calls Tryz.prog 160 #[.bool b, .slice A n c] w (GotZ w (sgn b x)) := by
  have hl := ha.len
  by_cases h0 : n = 0
  · subst h0
    have hx : x = 0 := by
      have h2 := val_limbs x
      rw [List.eq_nil_of_length_eq_zero hl.symm] at h2
      exact h2.symm
    subst hx
    have hz : Zn w false A 0 c (sgn b 0) := by
      refine ⟨by rw [sgn_abs]; exact ha, ?_⟩
      unfold sgn; split <;> rfl
    clear hl
    cases b
    all_goals
      go_enter Tryz.func160, Tryz.ntmps160
      go_wp2_with fail
      refine bodyPost_ret (v := .agg #[.bool false, .slice A 0 c]) (by simp [results, Tryz.results160, go_sem]) rfl ⟨_, _, _, _, rfl, hz.on ?_, ?_⟩
      all_goals exact (Below.refl _ w).alloc (Nat.le_refl _) _
  · have hx : x ≠ 0 := fun h => by rw [h, limbs_zero] at hl; simp at hl; omega
    have hn0 : (0 : Int) < (n : Int) := by omega
    have hz : Zn w b A n c (sgn b x) := by
      refine ⟨by rw [sgn_abs]; exact ha, ?_⟩
      unfold sgn
      cases b
      · simp
      · simp; omega
    clear hl
    cases b
    all_goals
      go_enter Tryz.func160, Tryz.ntmps160
      go_wp2_with fail
    · refine bodyPost_ret (v := .agg #[.bool false, .slice A n c]) (by simp [results, Tryz.results160, go_sem]) rfl ⟨_, _, _, _, rfl, hz.on ?_, ?_⟩
      all_goals exact (Below.refl _ w).alloc (Nat.le_refl _) _
    · refine bodyPost_ret (v := .agg #[.bool true, .slice A n c]) (by simp [results, Tryz.results160, go_sem]; omega) rfl ⟨_, _, _, _, rfl, hz.on ?_, ?_⟩
      all_goals exact (Below.refl _ w).alloc (Nat.le_refl _) _

theorem zof_N (w : World) (z : Int) (h : I64 z) : Calls Tryz.prog 149 #[.int .i64 z] w (GotZ w z) := by
  have hx := h.abs
  obtain ⟨x, hxe⟩ : ∃ x, z.natAbs = x := ⟨_, rfl⟩
  rw [hxe] at hx
  obtain ⟨W, hW⟩ : ∃ W, w.alloc (.cells #[.bool false, .slice none 0 0] 81) = W := ⟨_, rfl⟩
  have hB : Below w.heap.size w W := by rw [← hW]; exact below_one w _
  have hsz : W.heap.size = w.heap.size + 1 := by rw [← hW]; simp
  have c1 : W.cell? ⟨w.heap.size, 0, none⟩ = some (.bool false) := by rw [← hW]; simp [go_sem]
  have c2 : W.cell? ⟨w.heap.size, 1, none⟩ = some (.slice none 0 0) := by rw [← hW]; simp [go_sem]
  have c3 : W.frozen? ⟨w.heap.size, 0, none⟩ = false := by rw [← hW]; simp [go_sem]
  have c4 : W.frozen? ⟨w.heap.size, 1, none⟩ = false := by rw [← hW]; simp [go_sem]
  have HSZ := Lib.hid hsz
  clear hsz
  have hl := len_one hx
  by_cases hz : z < 0
  · have hs : sgn true x = z := by rw [← hxe]; exact sgn_of (by simp [hz])
    have e1 : IntKind.u64.wrap (-IntKind.u64.wrap z) = (x : Int) := by
      unfold I64 at h; rw [IntKind.wrap_u64, IntKind.wrap_u64]; omega
    have HS := Lib.hid hs
    clear hs hxe
    go_enter Tryz.func149, Tryz.ntmps149
    go_wp2_with fail
    clear hW e1
    refine (of_N W x hx).mono ?_
    rintro e w1 ⟨A1, n1, k1, rfl, hm, b1⟩
    go_wp2_with fail
    refine (signed_N _ hm (by rw [hm.len]; omega)).mono ?_
    rintro e w2 ⟨b2, A2, n2, k2, rfl, hz2, b2'⟩
    have b12 := b1.trans (b2'.mono b1.size)
    have hsz := HSZ.out
    have g1 := (b12.cell (p := ⟨w.heap.size, 0, none⟩) (by simp; omega)).trans c1
    have g2 := (b12.cell (p := ⟨w.heap.size, 1, none⟩) (by simp; omega)).trans c2
    have g3 := (b12.frozen (p := ⟨w.heap.size, 0, none⟩) (by simp; omega)).trans c3
    have g4 := (b12.frozen (p := ⟨w.heap.size, 1, none⟩) (by simp; omega)).trans c4
    rw [HS.out] at hz2
    have HZ := Lib.hid (hz2.stored g1 g2)
    have HB := hB.trans (b12.mono hB.size)
    clear hsz b12 b1 b2' hz2 hm
    go_wp2_with fail
    refine bodyPost_ret (v := .agg #[.bool b2, .slice A2 n2 k2]) (by simp [results, Tryz.results149, go_sem, g1, g2]) rfl ⟨_, _, _, _, rfl, HZ.out, ?_⟩
    exact (HB.setCell (p := ⟨w.heap.size, 0, none⟩) (Nat.le_refl _) _).setCell (p := ⟨w.heap.size, 1, none⟩) (Nat.le_refl _) _
  · have hs : sgn false x = z := by rw [← hxe]; exact sgn_of (by simp [hz])
    have e1 : IntKind.u64.wrap z = (x : Int) := by
      unfold I64 at h; rw [IntKind.wrap_u64]; omega
    have HS := Lib.hid hs
    clear hs hxe
    go_enter Tryz.func149, Tryz.ntmps149
    go_wp2_with fail
    clear hW e1
    refine (of_N W x hx).mono ?_
    rintro e w1 ⟨A1, n1, k1, rfl, hm, b1⟩
    go_wp2_with fail
    refine (signed_N _ hm (by rw [hm.len]; omega)).mono ?_
    rintro e w2 ⟨b2, A2, n2, k2, rfl, hz2, b2'⟩
    have b12 := b1.trans (b2'.mono b1.size)
    have hsz := HSZ.out
    have g1 := (b12.cell (p := ⟨w.heap.size, 0, none⟩) (by simp; omega)).trans c1
    have g2 := (b12.cell (p := ⟨w.heap.size, 1, none⟩) (by simp; omega)).trans c2
    have g3 := (b12.frozen (p := ⟨w.heap.size, 0, none⟩) (by simp; omega)).trans c3
    have g4 := (b12.frozen (p := ⟨w.heap.size, 1, none⟩) (by simp; omega)).trans c4
    rw [HS.out] at hz2
    have HZ := Lib.hid (hz2.stored g1 g2)
    have HB := hB.trans (b12.mono hB.size)
    clear hsz b12 b1 b2' hz2 hm
    go_wp2_with fail
    refine bodyPost_ret (v := .agg #[.bool b2, .slice A2 n2 k2]) (by simp [results, Tryz.results149, go_sem, g1, g2]) rfl ⟨_, _, _, _, rfl, HZ.out, ?_⟩
    exact (HB.setCell (p := ⟨w.heap.size, 0, none⟩) (Nat.le_refl _) _).setCell (p := ⟨w.heap.size, 1, none⟩) (Nat.le_refl _) _

theorem zint_yes {w : World} {b : Bool} {A : Option Addr} {n c : Nat} {z : Int} (ha : Zn w b A n c z) (h : I64 z) :
    Calls Tryz.prog 159 #[.agg #[.bool b, .slice A n c]] w (GotV w (.tuple #[.int .i64 z, .bool true])) := by
  have hx := h.abs
  obtain ⟨x, hxe⟩ : ∃ x, z.natAbs = x := ⟨_, rfl⟩
  rw [hxe] at hx
  have hB := below_one w (.cells #[.bool b, .slice A n c] 81)
  have ha' := ha.1.on hB
  rw [hxe] at ha'
  have hl := len_one hx
  have hn : n ≤ 9223372036854775807 := by rw [ha'.len]; omega
  have HC := Lib.hid (small_any A n c x _ ha' hn hx)
  have hs := ha.2
  by_cases hz : z < 0
  · have hbt := abs_sgn hs hz
    subst hbt
    have e2 : (x : Int) ≤ 9223372036854775808 := by unfold I64 at h; omega
    have e3 : IntKind.i64.wrap (IntKind.u64.wrap (-(x : Int))) = z := by
      rw [IntKind.wrap_u64, IntKind.wrap_i64]; omega
    have E3 := Lib.hid e3
    clear hxe hs ha hz
    go_enter Tryz.func159, Tryz.ntmps159
    go_wp2_with fail
    refine HC.out.mono ?_
    rintro e w' ⟨rfl, rfl⟩
    go_wp2_with fail
    go_ret2
    exact ⟨rfl, hB⟩
  · have hbt := abs_sgn' hs hz
    subst hbt
    have e2 : (x : Int) < 9223372036854775808 := by unfold I64 at h; omega
    have e3 : IntKind.i64.wrap (x : Int) = z := by rw [IntWalk.i64_in _ (by omega)]; omega
    clear hxe hs ha hz
    go_enter Tryz.func159, Tryz.ntmps159
    go_wp2_with fail
    refine HC.out.mono ?_
    rintro e w' ⟨rfl, rfl⟩
    go_wp2_with fail
    go_ret2
    exact ⟨rfl, hB⟩

theorem zint_no {w : World} {b : Bool} {A : Option Addr} {n c : Nat} {z : Int} (ha : Zn w b A n c z) (hx : (limbs z.natAbs).length ≤ 300) (h : ¬ I64 z) :
    Calls Tryz.prog 159 #[.agg #[.bool b, .slice A n c]] w (GotV w (.tuple #[.int .i64 0, .bool false])) := by
  obtain ⟨x, hxe⟩ : ∃ x, z.natAbs = x := ⟨_, rfl⟩
  rw [hxe] at hx
  have hB := below_one w (.cells #[.bool b, .slice A n c] 81)
  have ha' := ha.1.on hB
  rw [hxe] at ha'
  have hn : n ≤ 9223372036854775807 := by rw [ha'.len]; omega
  have hs := ha.2
  rcases Nat.lt_or_ge x B64 with hlt | hge
  · have HC := Lib.hid (small_any A n c x _ ha' hn hlt)
    by_cases hz : z < 0
    · have hbt := abs_sgn hs hz
      subst hbt
      have e2 : ¬ (x : Int) ≤ 9223372036854775808 := by unfold I64 at h; omega
      clear hxe hs ha hz
      go_enter Tryz.func159, Tryz.ntmps159
      go_wp2_with fail
      refine HC.out.mono ?_
      rintro e w' ⟨rfl, rfl⟩
      go_wp2_with fail
      go_ret2
      exact ⟨rfl, hB⟩
    · have hbt := abs_sgn' hs hz
      subst hbt
      have e2 : decide ((x : Int) < 9223372036854775808) = false := by simp; unfold I64 at h; omega
      clear hxe hs ha hz hn hlt
      go_enter Tryz.func159, Tryz.ntmps159
      go_wp2_with fail
      refine HC.out.mono ?_
      rintro e w' ⟨rfl, rfl⟩
      go_wp2_with fail
      go_ret2
      exact ⟨rfl, hB⟩
  · have HC := Lib.hid (small_great A n c x _ ha' hn hge)
    clear hxe hs ha
    go_enter Tryz.func159, Tryz.ntmps159
    go_wp2_with fail
    refine HC.out.mono ?_
    rintro e w' ⟨rfl, rfl⟩
    go_wp2_with fail
    go_ret2
    exact ⟨rfl, hB⟩

theorem zcmp_N {w : World} {b b' : Bool} {A B : Option Addr} {n c m d : Nat} {z z' : Int} (ha : Zn w b A n c z) (hb : Zn w b' B m d z') (hx : (limbs z.natAbs).length ≤ 300) (hy : (limbs z'.natAbs).length ≤ 300) :
    Calls Tryz.prog 151 #[.agg #[.bool b, .slice A n c], .agg #[.bool b', .slice B m d]] w (GotV w (.int .i64 (cmpZ z z'))) := by
  have hB := below_two w (.cells #[.bool b, .slice A n c] 81) (.cells #[.bool b', .slice B m d] 81)
  have ha' := ha.1.on hB
  have hb' := hb.1.on hB
  have s1 := ha.2
  have s2 := hb.2
  cases b with
  | true =>
    have hz : z < 0 := by simpa using s1.symm
    cases b' with
    | true =>
      have hz' : z' < 0 := by simpa using s2.symm
      have he : cmpZ z z' = cmpN z'.natAbs z.natAbs := by
        have h1 := cmpZ_neg hz hz'
        rw [h1]
        unfold cmpN
        by_cases h2 : z.natAbs < z'.natAbs
        · rw [if_pos h2, if_neg (by omega), if_pos (by omega)]; rfl
        · rw [if_neg h2]
          by_cases h3 : z'.natAbs < z.natAbs
          · rw [if_pos h3, if_pos (by omega)]
          · rw [if_neg h3, if_neg (by omega), if_neg (by omega)]; rfl
      have HE := Lib.hid he
      clear s1 s2 hz hz' ha hb he
      go_enter Tryz.func151, Tryz.ntmps151
      go_wp2_with fail
      refine (cmp_N hb' ha' (by omega) (by omega)).mono ?_
      rintro e w1 ⟨rfl, b1⟩
      go_wp2_with fail
      go_ret
      refine ⟨ret_i64 HE.out.symm, hB.trans (b1.mono hB.size)⟩
    | false =>
      have hz' : ¬ z' < 0 := by simpa using s2.symm
      have HE := Lib.hid (cmpZ_np hz hz')
      clear s1 s2 hz hz' ha hb
      go_enter Tryz.func151, Tryz.ntmps151
      go_wp2_with fail
      go_ret
      rw [HE.out]
      exact ⟨rfl, hB⟩
  | false =>
    have hz : ¬ z < 0 := by simpa using s1.symm
    cases b' with
    | true =>
      have hz' : z' < 0 := by simpa using s2.symm
      have HE := Lib.hid (cmpZ_pn hz hz')
      clear s1 s2 hz hz' ha hb
      go_enter Tryz.func151, Tryz.ntmps151
      go_wp2_with fail
      go_ret
      rw [HE.out]
      exact ⟨rfl, hB⟩
    | false =>
      have hz' : ¬ z' < 0 := by simpa using s2.symm
      have HE := Lib.hid (cmpZ_pos hz hz')
      clear s1 s2 hz hz' ha hb
      go_enter Tryz.func151, Tryz.ntmps151
      go_wp2_with fail
      refine (cmp_N ha' hb' (by omega) (by omega)).mono ?_
      rintro e w1 ⟨rfl, b1⟩
      go_wp2_with fail
      go_ret
      refine ⟨ret_i64 HE.out.symm, hB.trans (b1.mono hB.size)⟩

end Go.Proofs.YtpidpebgeblenaaGreat

/-
  The contracts of zed: Mul, Add.
-/
namespace Go.Proofs.YtpidpebgeblenaaGreat
set_option maxRecDepth 100000
open Go.RowKit
set_option linter.unusedVariables false

set_option maxHeartbeats 2000000 in
theorem zmul_N {w : World} {b b' : Bool} {A B : Option Addr} {n c m d : Nat} {z z' : Int} (ha : Zn w b A n c z) (hb : Zn w b' B m d z') (hx : (limbs z.natAbs).length ≤ 1000) (hy : (limbs z'.natAbs).length ≤ 1000) :
    Calls Tryz.prog 148 #[.agg #[.bool b, .slice A n c], .agg #[.bool b', .slice B m d]] w (GotZ w (z * z')) := by
  obtain ⟨W, hW⟩ : ∃ W, ((w.alloc (.cells #[.bool b, .slice A n c] 81)).alloc (.cells #[.bool b', .slice B m d] 81)).alloc (.cells #[.bool false, .slice none 0 0] 81) = W := ⟨_, rfl⟩
  have hB : Below w.heap.size w W := by rw [← hW]; exact (below_two w (.cells #[.bool b, .slice A n c] 81) (.cells #[.bool b', .slice B m d] 81)).alloc (by simp; omega) (.cells #[.bool false, .slice none 0 0] 81)
  have hsz : W.heap.size = w.heap.size + 3 := by rw [← hW]; simp
  have hBd : Below w.heap.size w W.drew := below_drewN hB 1
  have ha' : Num W.drew A n c z.natAbs := ha.1.on hBd
  have hb' : Num W.drew B m d z'.natAbs := hb.1.on hBd
  have c1 : W.cell? ⟨w.heap.size, 0, none⟩ = some (.bool b) := by rw [← hW]; simp [go_sem]
  have c2 : W.cell? ⟨w.heap.size, 1, none⟩ = some (.slice A n c) := by rw [← hW]; simp [go_sem]
  have c3 : W.cell? ⟨w.heap.size + 1, 0, none⟩ = some (.bool b') := by rw [← hW]; simp [go_sem]
  have c4 : W.cell? ⟨w.heap.size + 1, 1, none⟩ = some (.slice B m d) := by rw [← hW]; simp [go_sem]
  have c5 : W.cell? ⟨w.heap.size + 1 + 1, 0, none⟩ = some (.bool false) := by rw [← hW]; simp [go_sem]
  have c6 : W.cell? ⟨w.heap.size + 1 + 1, 1, none⟩ = some (.slice none 0 0) := by rw [← hW]; simp [go_sem]
  have c7 : W.frozen? ⟨w.heap.size + 1 + 1, 0, none⟩ = false := by rw [← hW]; simp [go_sem]
  have c8 : W.frozen? ⟨w.heap.size + 1 + 1, 1, none⟩ = false := by rw [← hW]; simp [go_sem]
  have HS : Hid (sgn (!(b == b')) (z.natAbs * z'.natAbs) = z * z') := Lib.hid (sgn_mul ha.2 hb.2)
  have hl := limbs_length_mul hx hy
  have hcall : Calls Tryz.prog 161 #[.slice A n c, .slice B m d] W.drew fun e w' => ∃ A1 n1 c1, e = .returned (.slice A1 n1 c1) ∧ Num w' A1 n1 c1 (z.natAbs * z'.natAbs) ∧ Below W.heap.size W w' := (mul_N ha' hb' (by omega) (by omega)).mono fun _ _ ⟨A1, n1, c1, he, hm, hb⟩ => ⟨A1, n1, c1, he, hm, ⟨hb.os, hb.tape, hb.output, hb.size, hb.block⟩⟩
  have HC := Lib.hid hcall
  have HW := Lib.hid hW
  clear hcall
  go_enter Tryz.func148, Tryz.ntmps148
  go_wp2_with fail
  clear hW HW
  go_region_held3 (fun w' => w'.cell? ⟨w.heap.size, 0, none⟩ = some (.bool b) ∧ w'.cell? ⟨w.heap.size, 1, none⟩ = some (.slice A n c) ∧ w'.cell? ⟨w.heap.size + 1, 0, none⟩ = some (.bool b') ∧ w'.cell? ⟨w.heap.size + 1, 1, none⟩ = some (.slice B m d))
    (first | exact ⟨(cell_store (by omega)).trans ((hb1.cell (p := ⟨w.heap.size, 0, none⟩) (by simp; omega)).trans c1), (cell_store (by omega)).trans ((hb1.cell (p := ⟨w.heap.size, 1, none⟩) (by simp; omega)).trans c2), (cell_store (by omega)).trans ((hb1.cell (p := ⟨w.heap.size + 1, 0, none⟩) (by simp; omega)).trans c3), (cell_store (by omega)).trans ((hb1.cell (p := ⟨w.heap.size + 1, 1, none⟩) (by simp; omega)).trans c4)⟩ | go_keep | exact ⟨(hb1.cell (p := ⟨w.heap.size, 0, none⟩) (by simp; omega)).trans c1, (hb1.cell (p := ⟨w.heap.size, 1, none⟩) (by simp; omega)).trans c2, (hb1.cell (p := ⟨w.heap.size + 1, 0, none⟩) (by simp; omega)).trans c3, (hb1.cell (p := ⟨w.heap.size + 1, 1, none⟩) (by simp; omega)).trans c4⟩)
    (first
      | (go_at_call 161; (with_reducible refine HC.out.mono ?_); rintro e w1 ⟨A1, n1, k1, rfl, hm, hb1⟩)
      | (go_at_call 160; (with_reducible refine (signed_N _ hm (by rw [hm.len]; omega)).mono ?_); rintro e w2 ⟨b2, A2, n2, k2, rfl, hz2, hb2⟩; replace hb1 := bK hb1 hb2; have e5 := (hb1.cell (p := ⟨w.heap.size + 1 + 1, 0, none⟩) (by simp; omega)).trans c5; have e6 := (hb1.cell (p := ⟨w.heap.size + 1 + 1, 1, none⟩) (by simp; omega)).trans c6; have e7 := (hb1.frozen (p := ⟨w.heap.size + 1 + 1, 0, none⟩) (by simp; omega)).trans c7; have e8 := (hb1.frozen (p := ⟨w.heap.size + 1 + 1, 1, none⟩) (by simp; omega)).trans c8))
  rw [HS.out] at hz2
  have HZ := Lib.hid (hz2.stored e5 e6)
  have HB : Below w.heap.size w w2 := hB.trans (hb1.mono hB.size)
  go_wp2_with fail
  refine bodyPost_ret (v := .agg #[.bool b2, .slice A2 n2 k2]) (by simp [results, Tryz.results148, go_sem, e5, e6]) rfl ⟨_, _, _, _, rfl, HZ.out, ?_⟩
  exact (HB.setCell (p := ⟨w.heap.size + 1 + 1, 0, none⟩) (show w.heap.size ≤ w.heap.size + 1 + 1 by omega) _).setCell (p := ⟨w.heap.size + 1 + 1, 1, none⟩) (show w.heap.size ≤ w.heap.size + 1 + 1 by omega) _

end Go.Proofs.YtpidpebgeblenaaGreat

/-
  The contracts of the library's Grow and Concat.
-/
namespace Go.Proofs.YtpidpebgeblenaaGreat
open Go.RowKit
end Go.Proofs.YtpidpebgeblenaaGreat

/-
  The contracts of div's Shl and Shr.
-/
namespace Go.Proofs.YtpidpebgeblenaaGreat
open Go.RowKit

theorem Dig.drop {l : List Nat} (h : Dig l) (k : Nat) : Dig (l.drop k) := fun x hx => h x (List.mem_of_mem_drop hx)
theorem GotNF.from {w w1 : World} {x : Nat} {e : Ending} {w' : World} (h : GotNF w1 x e w') (hb : Below w.heap.size w w1) : GotNF w x e w' := by
  obtain ⟨A, n, c, he, hl, hb', hf⟩ := h
  exact ⟨A, n, c, he, hl, hb.trans (hb'.mono hb.size), hf.mono hb.size⟩

/-- A row of noughts. -/
def zrow (q : Nat) : Obj := .cells (madeCells #[.int .u64 0] q) 101
theorem Lim.alloc {w : World} {A : Option Addr} {n c : Nat} {l : List Nat} (h : Lim w.heap.size w A n c l) (o : Obj) : Lim (w.alloc o).heap.size (w.alloc o) A n c l :=
  (h.below ((Below.refl _ w).alloc (Nat.le_refl _) o)).more (by simp)

end Go.Proofs.YtpidpebgeblenaaGreat

/-
  The contract of the library's Div64, for a divisor whose top bit is set.
-/
namespace Go.Proofs.YtpidpebgeblenaaGreat
set_option maxRecDepth 100000
open Go.RowKit

theorem wrap_nat {n : Nat} (h : n < B64) : IntKind.u64.wrap (n : Int) = (n : Int) := by
  rw [IntKind.wrap_u64]
  unfold B64 at h
  omega
theorem wrap_mul {a b : Nat} (h : a * b < B64) : IntKind.u64.wrap ((a : Int) * (b : Int)) = ((a * b : Nat) : Int) := by
  rw [← wrap_nat h]
  simp
theorem wrap_fit {r d : Nat} (hr : r < H32) (hd : d < H32) : IntKind.u64.wrap (IntKind.u64.wrap (4294967296 * (r : Int)) + (d : Int)) = ((H32 * r + d : Nat) : Int) := by
  rw [IntKind.wrap_u64, IntKind.wrap_u64]
  unfold H32 at *
  omega
/-- What the library's loop asks, said in its own spelling. -/
theorem Half.ask {u y y1 y0 d q r m1 m2 : Nat} (h : Half u y y1 y0 d q r) (hb : tooBig q y0 r d) (hm1 : m1 = q * y0) (hm2 : m2 = H32 * r + d) :
    (4294967296 : Int) ≤ (q : Int) ∨ (¬ (4294967296 : Int) ≤ (q : Int) ∧ IntKind.u64.wrap ((q : Int) * (y0 : Int)) = (m1 : Int) ∧ m2 < m1) := by
  rcases Nat.lt_or_ge q H32 with h1 | h1
  · refine .inr ⟨by unfold H32 at h1; omega, ?_, ?_⟩
    · rw [hm1]
      refine wrap_mul ?_
      rw [← H32_sq]
      exact Nat.mul_lt_mul_of_lt_of_le h1 (Nat.le_of_lt h.h0) H32_pos
    · rcases hb with h2 | h2
      · omega
      · omega
  · exact .inl (by unfold H32 at h1; omega)
theorem Half.ask_no {u y y1 y0 d q r m1 m2 : Nat} (h : Half u y y1 y0 d q r) (hb : ¬ tooBig q y0 r d) (hm1 : m1 = q * y0) (hm2 : m2 = H32 * r + d) :
    ¬ (4294967296 : Int) ≤ (q : Int) ∧ IntKind.u64.wrap ((q : Int) * (y0 : Int)) = (m1 : Int) ∧ ¬ m2 < m1 := by
  unfold tooBig at hb
  have h1 : q < H32 := by
    rcases Nat.lt_or_ge q H32 with h1 | h1
    · exact h1
    · exact absurd (.inl h1) hb
  refine ⟨by unfold H32 at h1; omega, ?_, fun h2 => hb (.inr (by omega))⟩
  rw [hm1]
  refine wrap_mul ?_
  rw [← H32_sq]
  exact Nat.mul_lt_mul_of_lt_of_le h1 (Nat.le_of_lt h.h0) H32_pos

set_option maxHeartbeats 1000000 in
theorem div64_zero (lo y : Nat) (w : World) (hlo : lo < B64) (hy0 : 0 < y) :
    Calls Tryz.prog 143 #[.int .u64 0, .int .u64 (lo : Int), .int .u64 (y : Int)] w fun e w' => e = .returned (.tuple #[.int .u64 (lo / y : Nat), .int .u64 (lo % y : Nat)]) ∧ ∃ n, w' = w.drewN n := by
  have h1 : ((y : Int) == 0) = false := by simp; omega
  have h2 : ¬ (y : Int) ≤ 0 := by omega
  have h3 : ¬ y = 0 := by omega
  have h4 : IntKind.u64.wrap ((lo : Int) / (y : Int)) = ((lo / y : Nat) : Int) := by
    have h5 : lo / y ≤ lo := Nat.div_le_self _ _
    have h6 : ((lo / y : Nat) : Int) = (lo : Int) / (y : Int) := by simp
    rw [← h6]
    exact wrap_nat (by omega)
  have h5 : ((lo : Int)).tmod (y : Int) = ((lo % y : Nat) : Int) := by
    rw [Int.tmod_eq_emod_of_nonneg (by omega)]
    simp
  have H4 := Lib.hid h4
  have H5 := Lib.hid h5
  clear h4 h5
  go_enter Tryz.func143, Tryz.ntmps143
  go_wp2_with fail
  go_quiet (fail)
  go_wp2_with fail
  go_ret2
  exact ⟨ret_two H4.out H5.out, _, rfl⟩

end Go.Proofs.YtpidpebgeblenaaGreat

/-
  The contract of div's guess.
-/
namespace Go.Proofs.YtpidpebgeblenaaGreat
open Go.RowKit

/-- A call has answered a guess. -/
def GotG (w : World) (R D : Nat) (e : Ending) (w' : World) : Prop := ∃ t : Nat, e = .returned (.int .u64 (t : Int)) ∧ Good R D t ∧ Below w.heap.size w w'

end Go.Proofs.YtpidpebgeblenaaGreat

/-
  The contracts of div's lessTimes, addBack and takeOff: a window of a row of digits is changed in place.
-/
namespace Go.Proofs.YtpidpebgeblenaaGreat
open Go.RowKit
/-- A slice of digits in another block than the one that is written is kept. -/
theorem Lim.apart {B : Nat} {w w' : World} {b o n c g : Nat} {l : List Nat} (h : Lim B w (some ⟨b, o, none⟩) n c l) (hg : w.grownBy w' (some g)) (hne : b ≠ g) (hB : B ≤ w.heap.size) : Lim B w' (some ⟨b, o, none⟩) n c l :=
  ⟨h.1, h.2.1, h.2.2.1, fun hn => by
    obtain ⟨b', o', e, hlt, hc⟩ := h.2.2.2 hn
    injection e with e
    injection e with e1 e2
    subst e1; subst e2
    exact ⟨b, o, rfl, hlt, fun j hj => (World.cell?_of_block (a := ⟨b, o + j, none⟩) (hg.block b (by omega) (by simp; omega))).trans (hc j hj)⟩⟩

/-- A row of the caller's, with a window. -/
def Win (w : World) (base g N cap : Nat) (pre Q post : List Nat) : Prop := w.ownsRow base 101 1 (.slice (some ⟨g, 0, none⟩) N cap) N ((pre ++ (Q ++ post)).map encD)

end Go.Proofs.YtpidpebgeblenaaGreat

/-
  The contract of div's takeOff, and the arithmetic of a round of the long division.
-/
namespace Go.Proofs.YtpidpebgeblenaaGreat
open Go.RowKit

end Go.Proofs.YtpidpebgeblenaaGreat

/-
  The contracts of package div in one style, over numbers.
-/
namespace Go.Proofs.YtpidpebgeblenaaGreat
open Go.RowKit
end Go.Proofs.YtpidpebgeblenaaGreat

/-
  The contracts of rat: quotient, isNought, times, less, reduced.
-/
namespace Go.Proofs.YtpidpebgeblenaaGreat
open Go.RowKit
set_option linter.unusedVariables false
set_option linter.unusedSimpArgs false






end Go.Proofs.YtpidpebgeblenaaGreat

/-
  The contracts of rat: join, Add, Sub, Mul.
-/
namespace Go.Proofs.YtpidpebgeblenaaGreat
open Go.RowKit
set_option linter.unusedVariables false
set_option linter.unusedSimpArgs false






end Go.Proofs.YtpidpebgeblenaaGreat

/-
  The contracts of rat: Make, Of, Cmp, Div, Right.
-/
namespace Go.Proofs.YtpidpebgeblenaaGreat
open Go.RowKit
set_option linter.unusedVariables false
set_option linter.unusedSimpArgs false





end Go.Proofs.YtpidpebgeblenaaGreat

/-
  Rationals on a grid: rounded down, up, to the nearest; a multiple's number.
-/
namespace Go.Proofs.YtpidpebgeblenaaGreat
set_option linter.unusedSimpArgs false

theorem cmpQ_scale (a b c : Rat) (h : 0 < c) : cmpQ (a * c) (b * c) = cmpQ a b := by
  have e1 : (a * c < b * c) ↔ a < b := by
    constructor
    · intro h1; exact Rat.lt_of_mul_lt_mul_right h1 (Rat.le_of_lt h)
    · intro h1; exact Rat.mul_lt_mul_of_pos_right h1 h
  have e2 : (b * c < a * c) ↔ b < a := by
    constructor
    · intro h1; exact Rat.lt_of_mul_lt_mul_right h1 (Rat.le_of_lt h)
    · intro h1; exact Rat.mul_lt_mul_of_pos_right h1 h
  unfold cmpQ; simp only [e1, e2]
/-- To the nearest whole number, of two as near the even one. -/
def nr (A : Rat) : Int := if A - (A.floor : Rat) < ((-(-A).floor : Int) : Rat) - A ∨ (A - (A.floor : Rat) = ((-(-A).floor : Int) : Rat) - A ∧ A.floor % 2 = 0) then A.floor else -(-A).floor
theorem fl_le (A : Rat) : (A.floor : Rat) ≤ A := Rat.floor_le A
theorem fl_lt (A : Rat) : A < (A.floor : Rat) + 1 := by
  have := Rat.lt_floor_add_one A
  rw [Rat.intCast_add] at this; exact this
theorem fl_eq {A : Rat} {n : Int} (h1 : (n : Rat) ≤ A) (h2 : A < (n : Rat) + 1) : A.floor = n := by
  have a1 := Rat.le_floor_iff.2 h1
  have a2 : A.floor < n + 1 := Rat.floor_lt_iff.2 (by rw [Rat.intCast_add]; exact h2)
  omega
theorem up_ge (A : Rat) : A ≤ ((-(-A).floor : Int) : Rat) := by
  have := fl_le (-A); rw [Rat.intCast_neg]; grind
theorem up_lt (A : Rat) : ((-(-A).floor : Int) : Rat) < A + 1 := by
  have := fl_lt (-A); rw [Rat.intCast_neg]; grind
theorem up_cases (A : Rat) : (-(-A).floor = A.floor ∧ A = (A.floor : Rat)) ∨ (-(-A).floor = A.floor + 1 ∧ (A.floor : Rat) < A) := by
  have h1 := fl_le A
  have h2 := fl_lt A
  have h3 := up_ge A
  have h4 := up_lt A
  rcases Classical.em ((A.floor : Rat) < A) with h | h
  · right
    refine ⟨?_, h⟩
    have : (-A).floor = -(A.floor + 1) := by
      apply fl_eq
      · rw [Rat.intCast_neg, Rat.intCast_add]; grind
      · rw [Rat.intCast_neg, Rat.intCast_add]; grind
    omega
  · left
    have h' : A = (A.floor : Rat) := by grind
    refine ⟨?_, h'⟩
    have : (-A).floor = -A.floor := by
      apply fl_eq
      · rw [Rat.intCast_neg]; grind
      · rw [Rat.intCast_neg]; grind
    omega
/-- n is at most half a step away, and even, if it is just that. -/
def NrHalf (A : Rat) (n : Int) : Prop := (n : Rat) - A + ((n : Rat) - A) ≤ 1 ∧ A - (n : Rat) + (A - (n : Rat)) ≤ 1 ∧ (((n : Rat) - A + ((n : Rat) - A) = 1 ∨ A - (n : Rat) + (A - (n : Rat)) = 1) → n % 2 = 0)
theorem nr_half (A : Rat) : NrHalf A (nr A) := by
  have f1 := fl_le A
  have f2 := fl_lt A
  unfold nr NrHalf
  rcases up_cases A with ⟨h1, h2⟩ | ⟨h1, h2⟩
  · have e : (if A - (A.floor : Rat) < ((-(-A).floor : Int) : Rat) - A ∨ (A - (A.floor : Rat) = ((-(-A).floor : Int) : Rat) - A ∧ A.floor % 2 = 0) then A.floor else -(-A).floor) = A.floor := by rw [h1]; split <;> rfl
    rw [e]
    refine ⟨by grind, by grind, ?_⟩
    intro h; exfalso; grind
  · rw [h1, Rat.intCast_add]
    have e : ((1 : Int) : Rat) = 1 := rfl
    rw [e]
    by_cases hc : A - (A.floor : Rat) < (A.floor : Rat) + 1 - A ∨ (A - (A.floor : Rat) = (A.floor : Rat) + 1 - A ∧ A.floor % 2 = 0)
    · rw [if_pos hc]
      refine ⟨by grind, by grind, ?_⟩
      intro h
      rcases hc with hc | ⟨_, hc⟩
      · exfalso; grind
      · exact hc
    · rw [if_neg hc, Rat.intCast_add, e]
      have hn : ¬ A - (A.floor : Rat) < (A.floor : Rat) + 1 - A := fun x => hc (.inl x)
      refine ⟨by grind, by grind, ?_⟩
      intro h
      have h4 : A.floor % 2 ≠ 0 := fun x => by
        rcases h with h | h
        · exact hc (.inr ⟨by grind, x⟩)
        · grind
      omega
theorem half_unique {A : Rat} {n m : Int} (h : NrHalf A n) (g : NrHalf A m) : n = m := by
  obtain ⟨h1, h2, h3⟩ := h
  obtain ⟨g1, g2, g3⟩ := g
  have o : ((1 : Int) : Rat) = 1 := rfl
  have k1 : ((m : Int) : Rat) ≤ ((n + 1 : Int) : Rat) := by rw [Rat.intCast_add, o]; grind
  have k2 : ((n : Int) : Rat) ≤ ((m + 1 : Int) : Rat) := by rw [Rat.intCast_add, o]; grind
  rw [Rat.intCast_le_intCast] at k1 k2
  have : n = m ∨ m = n + 1 ∨ n = m + 1 := by omega
  rcases this with h | h | h
  · exact h
  · exfalso
    have e : ((m : Int) : Rat) = (n : Rat) + 1 := by rw [h, Rat.intCast_add, o]
    have b1 := g3 (.inl (by grind))
    have b2 := h3 (.inr (by grind))
    omega
  · exfalso
    have e : ((n : Int) : Rat) = (m : Rat) + 1 := by rw [h, Rat.intCast_add, o]
    have b1 := g3 (.inr (by grind))
    have b2 := h3 (.inl (by grind))
    omega
theorem nr_unique {A : Rat} {n : Int} (h : NrHalf A n) : nr A = n := half_unique (nr_half A) h
theorem nr_neg (A : Rat) : nr (-A) = -nr A := by
  obtain ⟨g1, g2, g3⟩ := nr_half A
  apply nr_unique
  unfold NrHalf
  rw [Rat.intCast_neg]
  refine ⟨by grind, by grind, ?_⟩
  intro h
  have : nr A % 2 = 0 := g3 (by grind)
  omega
theorem nr_int (n : Int) : nr (n : Rat) = n := by
  apply nr_unique
  unfold NrHalf
  refine ⟨by grind, by grind, ?_⟩
  intro h; exfalso; grind
theorem nr_mono {A B : Rat} (h : A ≤ B) : nr A ≤ nr B := by
  obtain ⟨g1, g2, g3⟩ := nr_half A
  obtain ⟨f1, f2, f3⟩ := nr_half B
  rcases Int.lt_or_le (nr B) (nr A) with h1 | h1
  · exfalso
    have k : ((nr B + 1 : Int) : Rat) ≤ ((nr A : Int) : Rat) := Rat.intCast_le_intCast.2 (by omega)
    rw [Rat.intCast_add] at k
    have e1 : ((1 : Int) : Rat) = 1 := rfl
    rw [e1] at k
    have b1 := g3 (.inl (by grind))
    have b2 := f3 (.inr (by grind))
    have k2 : ((nr A : Int) : Rat) = ((nr B + 1 : Int) : Rat) := by rw [Rat.intCast_add, e1]; grind
    have := Rat.intCast_inj.1 k2
    omega
  · exact h1
theorem nr_one (A : Rat) : nr A = A.floor ∨ nr A = -(-A).floor := by unfold nr; split <;> simp
/-- 2 to the power of k. -/
def dw (k : Nat) : Rat := ((2 ^ k : Nat) : Rat)
theorem dw_pos (k : Nat) : 0 < dw k := by
  unfold dw
  have : 0 < 2 ^ k := Nat.pow_pos (by omega)
  exact Rat.natCast_pos.2 this
def flo (a : Rat) (k : Nat) : Int := (a * dw k).floor
def cei (a : Rat) (k : Nat) : Int := -flo (-a) k
def nea (a : Rat) (k : Nat) : Int := nr (a * dw k)
def bak (n : Int) (k : Nat) : Rat := mkRat n (2 ^ k)
theorem bak_mul (n : Int) (k : Nat) : bak n k * dw k = (n : Rat) := by
  unfold bak dw
  have h : (2 ^ k : Nat) ≠ 0 := Nat.ne_of_gt (Nat.pow_pos (by omega))
  have h2 : ((2 ^ k : Nat) : Rat) = mkRat ((2 ^ k : Nat) : Int) 1 := by rw [Rat.mkRat_one]; rfl
  have h3 : (n : Rat) = mkRat n 1 := by rw [Rat.mkRat_one]
  rw [h2, h3, Rat.mkRat_mul_mkRat, Rat.mkRat_eq_iff (by omega) (by omega)]
  simp
theorem floor_mk (p : Int) (q : Nat) (hq : q ≠ 0) : (mkRat p q).floor = p / (q : Int) := by
  have h0 : (0 : Int) < q := by omega
  have hm : mkRat p q * (q : Rat) = (p : Rat) := by
    have h2 : ((q : Nat) : Rat) = mkRat ((q : Nat) : Int) 1 := by rw [Rat.mkRat_one]; rfl
    have h3 : (p : Rat) = mkRat p 1 := by rw [Rat.mkRat_one]
    rw [h2, h3, Rat.mkRat_mul_mkRat, Rat.mkRat_eq_iff (by omega) (by omega)]
    simp
  have hqp : (0 : Rat) < (q : Rat) := Rat.natCast_pos.2 (by omega)
  have e : ((q : Int) : Rat) = (q : Rat) := rfl
  apply fl_eq
  · have h1 : p / (q : Int) * (q : Int) ≤ p := Int.ediv_mul_le _ (by omega)
    have h2 : ((p / (q : Int) * (q : Int) : Int) : Rat) ≤ (p : Rat) := Rat.intCast_le_intCast.2 h1
    rw [Rat.intCast_mul, e, ← hm] at h2
    exact Rat.le_of_mul_le_mul_right h2 hqp
  · have h1 : p < (p / (q : Int) + 1) * (q : Int) := Int.lt_ediv_add_one_mul_self _ h0
    have h2 : (p : Rat) < (((p / (q : Int) + 1) * (q : Int) : Int) : Rat) := Rat.intCast_lt_intCast.2 h1
    rw [Rat.intCast_mul, Rat.intCast_add, e, ← hm] at h2
    exact Rat.lt_of_mul_lt_mul_right h2 (Rat.le_of_lt hqp)
theorem flo_ediv (a : Rat) (k : Nat) : flo a k = a.num * ((2 ^ k : Nat) : Int) / (a.den : Int) := by
  unfold flo dw
  have h2 : ((2 ^ k : Nat) : Rat) = mkRat ((2 ^ k : Nat) : Int) 1 := by rw [Rat.mkRat_one]; rfl
  have h3 : a * mkRat ((2 ^ k : Nat) : Int) 1 = mkRat (a.num * ((2 ^ k : Nat) : Int)) a.den := by
    conv => lhs; rw [← Rat.mkRat_self a]
    rw [Rat.mkRat_mul_mkRat, Nat.mul_one]
  rw [h2, h3, floor_mk _ _ a.den_nz]
/-- As the document's answer reckons it: of the size, and the side put on. -/
theorem flo_pos (a : Rat) (k : Nat) (h : ¬ a.num < 0) : flo a k = ((a.num.natAbs * 2 ^ k / a.den : Nat) : Int) := by
  rw [flo_ediv]
  have e : a.num = (a.num.natAbs : Int) := by omega
  conv => lhs; rw [e]
  rw [← Int.natCast_mul, ← Int.natCast_ediv]
theorem flo_neg (a : Rat) (k : Nat) (h : a.num < 0) : flo a k = -((a.num.natAbs * 2 ^ k / a.den + (if a.num.natAbs * 2 ^ k % a.den = 0 then 0 else 1) : Nat) : Int) := by
  rw [flo_ediv]
  have e : a.num = -(a.num.natAbs : Int) := by omega
  conv => lhs; rw [e]
  have hd : 0 < a.den := Nat.pos_of_ne_zero a.den_nz
  generalize a.den = d at hd ⊢
  rw [Int.neg_mul, ← Int.natCast_mul]
  generalize a.num.natAbs * 2 ^ k = x
  have h1 := Nat.div_add_mod x d
  have h2 := Nat.mod_lt x hd
  generalize x / d = q at h1 ⊢
  generalize x % d = r at h1 h2 ⊢
  subst h1
  split
  · next h0 =>
    subst h0
    simp only [Nat.add_zero]
    rw [Int.natCast_mul, show -((d : Int) * (q : Int)) = (d : Int) * (-(q : Int)) by rw [Int.mul_neg], Int.mul_ediv_cancel_left _ (by omega)]
  · next h0 =>
    have : -((d * q + r : Nat) : Int) = ((d : Int) - (r : Int)) + (d : Int) * (-((q + 1 : Nat) : Int)) := by
      simp only [Int.natCast_add, Int.natCast_mul, Int.mul_neg, Int.mul_add]; omega
    rw [this, Int.add_mul_ediv_left _ _ (by omega), Int.ediv_eq_zero_of_lt (by omega) (by omega)]
    omega
theorem cei_up (a : Rat) (k : Nat) : cei a k = -(-(a * dw k)).floor := by
  unfold cei flo; rw [Rat.neg_mul]
/-- How the document's answer takes the nearest: by which of both is nearer. -/
theorem nea_by (a : Rat) (k : Nat) : nea a k = if cmpQ (a - bak (flo a k) k) (bak (cei a k) k - a) < 0 ∨ (cmpQ (a - bak (flo a k) k) (bak (cei a k) k - a) = 0 ∧ flo a k % 2 = 0) then flo a k else cei a k := by
  have hp := dw_pos k
  rw [← cmpQ_scale _ _ _ hp]
  have e1 : (a - bak (flo a k) k) * dw k = a * dw k - (flo a k : Rat) := by rw [← bak_mul (flo a k) k]; grind
  have e2 : (bak (cei a k) k - a) * dw k = (cei a k : Rat) - a * dw k := by rw [← bak_mul (cei a k) k]; grind
  rw [e1, e2, cei_up]
  unfold nea nr flo cmpQ
  generalize a * dw k = A
  generalize -(-A).floor = hi
  generalize A.floor = lo
  by_cases h1 : A - (lo : Rat) < (hi : Rat) - A
  · simp [h1]
  · by_cases h2 : (hi : Rat) - A < A - (lo : Rat)
    · have h3 : ¬ (A - (lo : Rat) = (hi : Rat) - A) := by grind
      simp [h1, h2, h3]
    · have h3 : A - (lo : Rat) = (hi : Rat) - A := by grind
      simp [h1, h2, h3]
theorem nea_one (a : Rat) (k : Nat) : nea a k = flo a k ∨ nea a k = cei a k := by rw [cei_up]; exact nr_one _
def absQ (x : Rat) : Rat := if x < 0 then -x else x
end Go.Proofs.YtpidpebgeblenaaGreat
