/-
  Several texts in one: E6, E7, E8, E9, QM, MathY, F6, F7, F8.
-/
import Derived.Test.YtanpklbconflmaaGreatA3
import Derived.Test.YtanpklbconflmaaGreatA2

/-
  The contracts of the fifth reference: over, Cmp.
-/
namespace Go.Proofs.YtanpklbconflmaaGreat
set_option maxRecDepth 100000
set_option maxHeartbeats 8000000
open Go.RowKit
set_option linter.unusedVariables false

theorem zn_nat {w : World} {B : Option Addr} {m d q : Nat} (h : Num w B m d q) : Zn w false B m d (q : Int) := ⟨by rw [Int.natAbs_natCast]; exact h, by simp⟩

theorem over_N {w : World} {b : Bool} {A B : Option Addr} {n c m d q : Nat} {p : Int} (ha : Zn w b A n c p) (hb : Num w B m d q) (hx : (limbs p.natAbs).length ≤ 1000) (hy : (limbs q).length ≤ 1000) :
    Calls Tryz.prog 64 #[.agg #[.bool b, .slice A n c], .slice B m d] w (GotZ w (p * (q : Int))) := by
  have hz := zn_nat hb
  have hl : (limbs (q : Int).natAbs).length ≤ 1000 := by rw [Int.natAbs_natCast]; exact hy
  have cc := Below.refl w.heap.size w
  go_enter Tryz.func64, Tryz.ntmps64
  go_wp2_with fail
  generalize hv_ : (w.alloc (.cells #[.bool b, .slice A n c] 25)).alloc (.cells #[.bool false, .slice none 0 0] 25) = v1
  obtain ⟨f0, f1⟩ : Fz2 v1 (w.heap.size + 1) := by simp [Fz2, ← hv_, go_sem]
  have bA : Below w.heap.size w v1 := by rw [← hv_]; exact (((Below.refl _ w).alloc (by simp) _).alloc (by simp) _)
  replace ha := ha.on bA
  replace hz := hz.on bA
  replace cc := bK cc bA
  clear bA
  obtain ⟨k0, k1⟩ : Cs2 v1 w.heap.size (.bool b) (.slice A n c) := by simp [Cs2, ← hv_, go_sem]
  have kl : w.heap.size < v1.heap.size := by simp [← hv_] <;> omega
  obtain ⟨g0, g1⟩ : Cs2 v1 (w.heap.size + 1) (.bool false) (.slice none 0 0) := by simp [Cs2, ← hv_, go_sem]
  have gl : w.heap.size + 1 < v1.heap.size := by simp [← hv_] <;> omega
  clear hv_
  refine (rzmul_N ha hz hx hl).mono ?_
  rintro e w2 ⟨bm, Am, nm, cm, rfl, hm, b⟩
  rewrite [fR b gl] at f0 f1
  replace ha := ha.on b
  replace hz := hz.on b
  rewrite [cR b kl] at k0 k1
  replace kl := lK b kl
  rewrite [cR b gl] at g0 g1
  replace gl := lK b gl
  replace cc := bK cc b
  clear b
  go_wp2_with fail
  have eb : Box w2 (w.heap.size + 1) false none 0 0 := ⟨g0, g1⟩
  refine bodyPost_ret (v := .agg #[.bool bm, .slice Am nm cm]) (by simp [results, Tryz.results64, go_sem, g0, g1]) rfl ⟨_, _, _, _, rfl, hm.put eb _ _, below_put cc (by omega) _ _⟩

theorem rtcmp_N {w : World} {b0 b1 : Bool} {A0 B0 A1 B1 : Option Addr} {n0 c0 m0 d0 n1 c1 m1 d1 : Nat} {x0 x1 : Rat} (h0 : Rt w b0 A0 n0 c0 B0 m0 d0 x0) (s0 : Sz x0 100) (h1 : Rt w b1 A1 n1 c1 B1 m1 d1 x1) (s1 : Sz x1 100) :
    Calls Tryz.prog 39 #[.agg #[.bool b0, .slice A0 n0 c0, .slice B0 m0 d0], .agg #[.bool b1, .slice A1 n1 c1, .slice B1 m1 d1]] w (GotV w (.int .i64 (cmpQ x0 x1))) := by
  have p0 := h0.1
  have q0 := h0.2
  have lp0 := s0.1
  have lq0 := s0.2
  have p1 := h1.1
  have q1 := h1.2
  have lp1 := s1.1
  have lq1 := s1.2
  clear h0
  clear h1
  have lA : (limbs (x0.num * (x1.den : Int)).natAbs).length ≤ 200 := by rw [natAbs_over]; exact limbs_length_mul lp0 lq1
  have lB : (limbs (x1.num * (x0.den : Int)).natAbs).length ≤ 200 := by rw [natAbs_over]; exact limbs_length_mul lp1 lq0
  have cc := Below.refl w.heap.size w
  go_enter Tryz.func39, Tryz.ntmps39
  go_wp2_with fail
  generalize hv_ : (w.alloc (.cells #[.bool b0, .slice A0 n0 c0, .slice B0 m0 d0] 27)).alloc (.cells #[.bool b1, .slice A1 n1 c1, .slice B1 m1 d1] 27) = v1
  have bA : Below w.heap.size w v1 := by rw [← hv_]; exact (((Below.refl _ w).alloc (by simp) _).alloc (by simp) _)
  replace p0 := p0.on bA
  replace q0 := q0.on bA
  replace p1 := p1.on bA
  replace q1 := q1.on bA
  replace cc := bK cc bA
  clear bA
  obtain ⟨k0, k1, k2⟩ : Cs3 v1 w.heap.size (.bool b0) (.slice A0 n0 c0) (.slice B0 m0 d0) := by simp [Cs3, ← hv_, go_sem]
  have kl : w.heap.size < v1.heap.size := by simp [← hv_] <;> omega
  obtain ⟨g0, g1, g2⟩ : Cs3 v1 (w.heap.size + 1) (.bool b1) (.slice A1 n1 c1) (.slice B1 m1 d1) := by simp [Cs3, ← hv_, go_sem]
  have gl : w.heap.size + 1 < v1.heap.size := by simp [← hv_] <;> omega
  clear hv_
  have qq : Below v1.heap.size v1 v1.drew := below_drewN (Below.refl _ v1) 1
  have p0' := p0.on qq
  have q0' := q0.on qq
  have p1' := p1.on qq
  have q1' := q1.on qq
  go_region_held3 (fun w' => w'.cell? ⟨w.heap.size, 0, none⟩ = some (.bool b0) ∧ w'.cell? ⟨w.heap.size, 1, none⟩ = some (.slice A0 n0 c0) ∧ w'.cell? ⟨w.heap.size, 2, none⟩ = some (.slice B0 m0 d0) ∧ w'.cell? ⟨w.heap.size + 1, 0, none⟩ = some (.bool b1) ∧ w'.cell? ⟨w.heap.size + 1, 1, none⟩ = some (.slice A1 n1 c1) ∧ w'.cell? ⟨w.heap.size + 1, 2, none⟩ = some (.slice B1 m1 d1))
    (first | with_reducible exact ⟨cK qq k0 kl, cK qq k1 kl, cK qq k2 kl, cK qq g0 gl, cK qq g1 gl, cK qq g2 gl⟩)
    (first
      | (go_at_call 64; (with_reducible refine (over_N p0' q1' (Nat.le_trans lp0 (by omega)) (Nat.le_trans lq1 (by omega))).mono ?_); rintro e wz ⟨bu, Au, nu, cu, rfl, u, q⟩; replace qq := bK qq q; (try replace p0' := p0'.on q); (try replace q0' := q0'.on q); (try replace p1' := p1'.on q); (try replace q1' := q1'.on q); (try replace v := v.on q); clear q)
      | (go_at_call 64; (with_reducible refine (over_N p1' q0' (Nat.le_trans lp1 (by omega)) (Nat.le_trans lq0 (by omega))).mono ?_); rintro e wz ⟨bv, Av, nv, cv, rfl, v, q⟩; replace qq := bK qq q; (try replace p0' := p0'.on q); (try replace q0' := q0'.on q); (try replace p1' := p1'.on q); (try replace q1' := q1'.on q); (try replace u := u.on q); clear q)
      | (go_at_call 70; (with_reducible refine (rzcmp_N u v (Nat.le_trans lA (by omega)) (Nat.le_trans lB (by omega))).mono ?_); rintro e wz ⟨rfl, q⟩; replace qq := bK qq q; (try replace p0' := p0'.on q); (try replace q0' := q0'.on q); (try replace p1' := p1'.on q); (try replace q1' := q1'.on q); (try replace u := u.on q); (try replace v := v.on q); clear q))
  clear p0
  have p0 := p0'
  clear p0'
  clear q0
  have q0 := q0'
  clear q0'
  clear p1
  have p1 := p1'
  clear p1'
  clear q1
  have q1 := q1'
  clear q1'
  rewrite [cR qq kl] at k0 k1 k2
  replace kl := lK qq kl
  rewrite [cR qq gl] at g0 g1 g2
  replace gl := lK qq gl
  replace cc := bK cc qq
  clear qq
  go_wp2_with fail
  go_ret
  refine ⟨?_, cc⟩
  rw [cmpQ_eq]
  rfl

theorem rtadd_N {w : World} {b0 b1 : Bool} {A0 B0 A1 B1 : Option Addr} {n0 c0 m0 d0 n1 c1 m1 d1 : Nat} {x0 x1 : Rat} (h0 : Rt w b0 A0 n0 c0 B0 m0 d0 x0) (s0 : Sz x0 40) (h1 : Rt w b1 A1 n1 c1 B1 m1 d1 x1) (s1 : Sz x1 40) :
    Calls Tryz.prog 33 #[.agg #[.bool b0, .slice A0 n0 c0, .slice B0 m0 d0], .agg #[.bool b1, .slice A1 n1 c1, .slice B1 m1 d1]] w (GotRt w (x0 + x1)) := by
  have p0 := h0.1
  have q0 := h0.2
  have lp0 := s0.1
  have lq0 := s0.2
  have p1 := h1.1
  have q1 := h1.2
  have lp1 := s1.1
  have lq1 := s1.2
  clear h0
  clear h1
  have hq := den_mul_ne x0 x1
  have lD : (limbs (x0.den * x1.den)).length ≤ 100 := Nat.le_trans (limbs_length_mul lq0 lq1) (by omega)
  have lA : (limbs (x0.num * (x1.den : Int)).natAbs).length ≤ 80 := by rw [natAbs_over]; exact limbs_length_mul lp0 lq1
  have lB : (limbs (x1.num * (x0.den : Int)).natAbs).length ≤ 80 := by rw [natAbs_over]; exact limbs_length_mul lp1 lq0
  have lC : (limbs (x0.num * (x1.den : Int) + x1.num * (x0.den : Int)).natAbs).length ≤ 100 := Nat.le_trans (zlen_add (k := 80) lA lB) (by omega)
  have HE : Hid (x0 + x1 = mkRat (x0.num * (x1.den : Int) + x1.num * (x0.den : Int)) (x0.den * x1.den)) := Lib.hid (Rat.add_def' x0 x1)
  have cc := Below.refl w.heap.size w
  go_enter Tryz.func33, Tryz.ntmps33
  go_wp2_with fail
  generalize hv_ : ((w.alloc (.cells #[.bool b0, .slice A0 n0 c0, .slice B0 m0 d0] 27)).alloc (.cells #[.bool b1, .slice A1 n1 c1, .slice B1 m1 d1] 27)).alloc (.cells #[.bool false, .slice none 0 0, .slice none 0 0] 27) = v1
  obtain ⟨f0, f1, f2⟩ : Fz3 v1 (w.heap.size + 1 + 1) := by simp [Fz3, ← hv_, go_sem]
  have bA : Below w.heap.size w v1 := by rw [← hv_]; exact ((((Below.refl _ w).alloc (by simp) _).alloc (by simp) _).alloc (by simp <;> omega) _)
  replace p0 := p0.on bA
  replace q0 := q0.on bA
  replace p1 := p1.on bA
  replace q1 := q1.on bA
  replace cc := bK cc bA
  clear bA
  obtain ⟨k0, k1, k2⟩ : Cs3 v1 w.heap.size (.bool b0) (.slice A0 n0 c0) (.slice B0 m0 d0) := by simp [Cs3, ← hv_, go_sem]
  have kl : w.heap.size < v1.heap.size := by simp [← hv_] <;> omega
  obtain ⟨h0, h1, h2⟩ : Cs3 v1 (w.heap.size + 1) (.bool b1) (.slice A1 n1 c1) (.slice B1 m1 d1) := by simp [Cs3, ← hv_, go_sem]
  have hl : w.heap.size + 1 < v1.heap.size := by simp [← hv_] <;> omega
  obtain ⟨g0, g1, g2⟩ : Cs3 v1 (w.heap.size + 1 + 1) (.bool false) (.slice none 0 0) (.slice none 0 0) := by simp [Cs3, ← hv_, go_sem]
  have gl : w.heap.size + 1 + 1 < v1.heap.size := by simp [← hv_] <;> omega
  clear hv_
  go_upto_region 1 with fail
  go_cut [5] (fun u wx => ∃ (g : Nat) (b : Bool) (A : Option Addr) (n c : Nat) (B : Option Addr) (m d : Nat), u = .pointer (some ⟨g, 0, none⟩) ∧ Lone v1 wx g b A n c B m d (mkRat (x0.num * (x1.den : Int) + x1.num * (x0.den : Int)) (x0.den * x1.den)))
  case first =>
    have BB0 : Below v1.heap.size v1 v1.drew := below_drewN (Below.refl _ v1) 1
    have BB1 : Below v1.heap.size v1 (v1.alloc (.cells #[.bool false, .slice none 0 0, .slice none 0 0] 27)).drew := below_drewN (below_one _ _) 1
    go_region_held3 (fun w' => w'.cell? ⟨w.heap.size, 0, none⟩ = some (.bool b0) ∧ w'.cell? ⟨w.heap.size, 1, none⟩ = some (.slice A0 n0 c0) ∧ w'.cell? ⟨w.heap.size, 2, none⟩ = some (.slice B0 m0 d0) ∧ w'.cell? ⟨w.heap.size + 1, 0, none⟩ = some (.bool b1) ∧ w'.cell? ⟨w.heap.size + 1, 1, none⟩ = some (.slice A1 n1 c1) ∧ w'.cell? ⟨w.heap.size + 1, 2, none⟩ = some (.slice B1 m1 d1) ∧ w'.cell? ⟨w.heap.size + 1 + 1, 0, none⟩ = some (.bool false) ∧ w'.cell? ⟨w.heap.size + 1 + 1, 1, none⟩ = some (.slice none 0 0) ∧ w'.cell? ⟨w.heap.size + 1 + 1, 2, none⟩ = some (.slice none 0 0))
      (first | with_reducible exact ⟨(cK qq k0 kl), (cK qq k1 kl), (cK qq k2 kl), (cK qq h0 hl), (cK qq h1 hl), (cK qq h2 hl), (cK qq g0 gl), (cK qq g1 gl), (cK qq g2 gl)⟩ | with_reducible exact ⟨keep_alloc ((cK qq k0 kl)), keep_alloc ((cK qq k1 kl)), keep_alloc ((cK qq k2 kl)), keep_alloc ((cK qq h0 hl)), keep_alloc ((cK qq h1 hl)), keep_alloc ((cK qq h2 hl)), keep_alloc ((cK qq g0 gl)), keep_alloc ((cK qq g1 gl)), keep_alloc ((cK qq g2 gl))⟩ | with_reducible exact ⟨((cell_putR (by omega)).trans (cK qq k0 kl)), ((cell_putR (by omega)).trans (cK qq k1 kl)), ((cell_putR (by omega)).trans (cK qq k2 kl)), ((cell_putR (by omega)).trans (cK qq h0 hl)), ((cell_putR (by omega)).trans (cK qq h1 hl)), ((cell_putR (by omega)).trans (cK qq h2 hl)), ((cell_putR (by omega)).trans (cK qq g0 gl)), ((cell_putR (by omega)).trans (cK qq g1 gl)), ((cell_putR (by omega)).trans (cK qq g2 gl))⟩ | go_keep)
      (first
        | (go_at_call 64; (with_reducible refine (over_N (p0.on BB0) (q1.on BB0) (Nat.le_trans lp0 (by omega)) (Nat.le_trans lq1 (by omega))).mono ?_); rintro e y1 ⟨bu, Au, nu, cu, rfl, u, q⟩; have qq := BB0.trans (q.mono BB0.size); have p0' := (p0.on BB0).on q; have q0' := (q0.on BB0).on q; have p1' := (p1.on BB0).on q; have q1' := (q1.on BB0).on q; have qs1 := qq.size; clear q)
        | (go_at_call 64; (with_reducible refine (over_N (p0.on BB1) (q1.on BB1) (Nat.le_trans lp0 (by omega)) (Nat.le_trans lq1 (by omega))).mono ?_); rintro e y1 ⟨bu, Au, nu, cu, rfl, u, q⟩; have qq := BB1.trans (q.mono BB1.size); have p0' := (p0.on BB1).on q; have q0' := (q0.on BB1).on q; have p1' := (p1.on BB1).on q; have q1' := (q1.on BB1).on q; have qs1 := qq.size; obtain ⟨bo_0, fo_0, bo_1, fo_1, bo_2, fo_2, ol⟩ := zb3 (g := v1.heap.size) q (by simp) (by simp [Cs3, go_sem]) (by simp [Fz3, go_sem]); clear q)
        | (go_at_call 64; have up := Below.refl y1.heap.size y1; (with_reducible refine (over_N (p1'.on up) (q0'.on up) (Nat.le_trans lp1 (by omega)) (Nat.le_trans lq0 (by omega))).mono ?_); rintro e y2 ⟨bv, Av, nv, cv, rfl, v, q⟩; replace qq := uK qq up q; replace p0' := (p0'.on up).on q; replace q0' := (q0'.on up).on q; replace p1' := (p1'.on up).on q; replace q1' := (q1'.on up).on q; replace u := (u.on up).on q; (try (rewrite [cR up ol, cR q (lK up ol)] at bo_0 bo_1 bo_2; rewrite [fR up ol, fR q (lK up ol)] at fo_0 fo_1 fo_2; replace ol := lK q (lK up ol))); have qs2 := qq.size; clear q up)
        | (go_at_call 64; have up := below_one y1 (.cells #[.bool false, .slice none 0 0, .slice none 0 0] 27); (with_reducible refine (over_N (p1'.on up) (q0'.on up) (Nat.le_trans lp1 (by omega)) (Nat.le_trans lq0 (by omega))).mono ?_); rintro e y2 ⟨bv, Av, nv, cv, rfl, v, q⟩; replace qq := uK qq up q; replace p0' := (p0'.on up).on q; replace q0' := (q0'.on up).on q; replace p1' := (p1'.on up).on q; replace q1' := (q1'.on up).on q; replace u := (u.on up).on q; (try (rewrite [cR up ol, cR q (lK up ol)] at bo_0 bo_1 bo_2; rewrite [fR up ol, fR q (lK up ol)] at fo_0 fo_1 fo_2; replace ol := lK q (lK up ol))); have qs2 := qq.size; obtain ⟨bo_0, fo_0, bo_1, fo_1, bo_2, fo_2, ol⟩ := zb3 (g := y1.heap.size) q (by simp) (by simp [Cs3, go_sem]) (by simp [Fz3, go_sem]); clear q up)
        | (go_at_call 63; have up := Below.refl y2.heap.size y2; (with_reducible refine (rzadd_N (u.on up) (v.on up) (Nat.le_trans lA (by omega)) (Nat.le_trans lB (by omega))).mono ?_); rintro e y3 ⟨bs, As, ns, cs, rfl, s, q⟩; replace qq := uK qq up q; replace p0' := (p0'.on up).on q; replace q0' := (q0'.on up).on q; replace p1' := (p1'.on up).on q; replace q1' := (q1'.on up).on q; replace u := (u.on up).on q; replace v := (v.on up).on q; (try (rewrite [cR up ol, cR q (lK up ol)] at bo_0 bo_1 bo_2; rewrite [fR up ol, fR q (lK up ol)] at fo_0 fo_1 fo_2; replace ol := lK q (lK up ol))); have qs3 := qq.size; clear q up)
        | (go_at_call 63; have up := below_one y2 (.cells #[.bool false, .slice none 0 0, .slice none 0 0] 27); (with_reducible refine (rzadd_N (u.on up) (v.on up) (Nat.le_trans lA (by omega)) (Nat.le_trans lB (by omega))).mono ?_); rintro e y3 ⟨bs, As, ns, cs, rfl, s, q⟩; replace qq := uK qq up q; replace p0' := (p0'.on up).on q; replace q0' := (q0'.on up).on q; replace p1' := (p1'.on up).on q; replace q1' := (q1'.on up).on q; replace u := (u.on up).on q; replace v := (v.on up).on q; (try (rewrite [cR up ol, cR q (lK up ol)] at bo_0 bo_1 bo_2; rewrite [fR up ol, fR q (lK up ol)] at fo_0 fo_1 fo_2; replace ol := lK q (lK up ol))); have qs3 := qq.size; obtain ⟨bo_0, fo_0, bo_1, fo_1, bo_2, fo_2, ol⟩ := zb3 (g := y2.heap.size) q (by simp) (by simp [Cs3, go_sem]) (by simp [Fz3, go_sem]); clear q up)
        | (go_at_call 65; have up := Below.refl y3.heap.size y3; (with_reducible refine (rmul_N (q0'.on up) (q1'.on up) (Nat.le_trans lq0 (by omega)) (Nat.le_trans lq1 (by omega))).mono ?_); rintro e y4 ⟨At, nt, ct, rfl, t, q⟩; replace qq := uK qq up q; replace p0' := (p0'.on up).on q; replace q0' := (q0'.on up).on q; replace p1' := (p1'.on up).on q; replace q1' := (q1'.on up).on q; replace u := (u.on up).on q; replace v := (v.on up).on q; replace s := (s.on up).on q; (try (rewrite [cR up ol, cR q (lK up ol)] at bo_0 bo_1 bo_2; rewrite [fR up ol, fR q (lK up ol)] at fo_0 fo_1 fo_2; replace ol := lK q (lK up ol))); have qs4 := qq.size; clear q up)
        | (go_at_call 65; have up := below_one y3 (.cells #[.bool false, .slice none 0 0, .slice none 0 0] 27); (with_reducible refine (rmul_N (q0'.on up) (q1'.on up) (Nat.le_trans lq0 (by omega)) (Nat.le_trans lq1 (by omega))).mono ?_); rintro e y4 ⟨At, nt, ct, rfl, t, q⟩; replace qq := uK qq up q; replace p0' := (p0'.on up).on q; replace q0' := (q0'.on up).on q; replace p1' := (p1'.on up).on q; replace q1' := (q1'.on up).on q; replace u := (u.on up).on q; replace v := (v.on up).on q; replace s := (s.on up).on q; (try (rewrite [cR up ol, cR q (lK up ol)] at bo_0 bo_1 bo_2; rewrite [fR up ol, fR q (lK up ol)] at fo_0 fo_1 fo_2; replace ol := lK q (lK up ol))); have qs4 := qq.size; obtain ⟨bo_0, fo_0, bo_1, fo_1, bo_2, fo_2, ol⟩ := zb3 (g := y3.heap.size) q (by simp) (by simp [Cs3, go_sem]) (by simp [Fz3, go_sem]); clear q up)
        | (go_at_call 62; have up := Below.refl y4.heap.size y4; (with_reducible refine (rtmake_N (s.on up) (t.on up) hq lC lD).mono ?_); rintro e y5 ⟨bo, Ao, no, co, Bo, mo, do_, rfl, o, q⟩; replace qq := uK qq up q; replace p0' := (p0'.on up).on q; replace q0' := (q0'.on up).on q; replace p1' := (p1'.on up).on q; replace q1' := (q1'.on up).on q; replace u := (u.on up).on q; replace v := (v.on up).on q; replace s := (s.on up).on q; replace t := (t.on up).on q; (try (rewrite [cR up ol, cR q (lK up ol)] at bo_0 bo_1 bo_2; rewrite [fR up ol, fR q (lK up ol)] at fo_0 fo_1 fo_2; replace ol := lK q (lK up ol))); have qs5 := qq.size; clear q up)
        | (go_at_call 62; have up := below_one y4 (.cells #[.bool false, .slice none 0 0, .slice none 0 0] 27); (with_reducible refine (rtmake_N (s.on up) (t.on up) hq lC lD).mono ?_); rintro e y5 ⟨bo, Ao, no, co, Bo, mo, do_, rfl, o, q⟩; replace qq := uK qq up q; replace p0' := (p0'.on up).on q; replace q0' := (q0'.on up).on q; replace p1' := (p1'.on up).on q; replace q1' := (q1'.on up).on q; replace u := (u.on up).on q; replace v := (v.on up).on q; replace s := (s.on up).on q; replace t := (t.on up).on q; (try (rewrite [cR up ol, cR q (lK up ol)] at bo_0 bo_1 bo_2; rewrite [fR up ol, fR q (lK up ol)] at fo_0 fo_1 fo_2; replace ol := lK q (lK up ol))); have qs5 := qq.size; obtain ⟨bo_0, fo_0, bo_1, fo_1, bo_2, fo_2, ol⟩ := zb3 (g := y4.heap.size) q (by simp) (by simp [Cs3, go_sem]) (by simp [Fz3, go_sem]); clear q up))
    all_goals (go_wp2_with fail; go_meet)
    all_goals refine ⟨_, bo, Ao, no, co, Bo, mo, do_, rfl, ?_⟩
    all_goals first
      | with_reducible exact loneA o qq _
      | with_reducible exact loneB bo_0 bo_1 bo_2 o qq (by omega)
  case rest =>
    obtain ⟨gz, bz, Az, nz, cz, Bz, mz, dz, rfl, ⟨z0, z1, z2⟩, ⟨pz, qz⟩, b⟩ := hcut
    have zl := cell_lt z0
    simp only at zl
    rewrite [fR b gl] at f0 f1 f2
    replace p0 := p0.on b
    replace q0 := q0.on b
    replace p1 := p1.on b
    replace q1 := q1.on b
    rewrite [cR b kl] at k0 k1 k2
    replace kl := lK b kl
    rewrite [cR b hl] at h0 h1 h2
    replace hl := lK b hl
    rewrite [cR b gl] at g0 g1 g2
    replace gl := lK b gl
    replace cc := bK cc b
    clear b
    have eb : BoxR wc (w.heap.size + 1 + 1) false none 0 0 none 0 0 := ⟨g0, g1, g2⟩
    have HZ : Hid (Rt (putR wc (w.heap.size + 1 + 1) (.bool bz) (.slice Az nz cz) (.slice Bz mz dz)) bz Az nz cz Bz mz dz (x0 + x1)) := Lib.hid (by rw [HE.out]; exact Rt.putR ⟨pz, qz⟩ eb _ _ _)
    go_wp2_with fail
    refine bodyPost_ret (v := .agg #[.bool bz, .slice Az nz cz, .slice Bz mz dz]) (by simp [results, Tryz.results33, go_sem, g0, g1, g2]) rfl ⟨_, _, _, _, _, _, _, rfl, HZ.out, below_putR cc (by omega) _ _ _⟩

theorem rtmul_N {w : World} {b0 b1 : Bool} {A0 B0 A1 B1 : Option Addr} {n0 c0 m0 d0 n1 c1 m1 d1 : Nat} {x0 x1 : Rat} (h0 : Rt w b0 A0 n0 c0 B0 m0 d0 x0) (s0 : Sz x0 40) (h1 : Rt w b1 A1 n1 c1 B1 m1 d1 x1) (s1 : Sz x1 40) :
    Calls Tryz.prog 34 #[.agg #[.bool b0, .slice A0 n0 c0, .slice B0 m0 d0], .agg #[.bool b1, .slice A1 n1 c1, .slice B1 m1 d1]] w (GotRt w (x0 * x1)) := by
  have p0 := h0.1
  have q0 := h0.2
  have lp0 := s0.1
  have lq0 := s0.2
  have p1 := h1.1
  have q1 := h1.2
  have lp1 := s1.1
  have lq1 := s1.2
  clear h0
  clear h1
  have hq := den_mul_ne x0 x1
  have lD : (limbs (x0.den * x1.den)).length ≤ 100 := Nat.le_trans (limbs_length_mul lq0 lq1) (by omega)
  have lC : (limbs (x0.num * x1.num).natAbs).length ≤ 100 := Nat.le_trans (zlen_mul lp0 lp1) (by omega)
  have HE : Hid (x0 * x1 = mkRat (x0.num * x1.num) (x0.den * x1.den)) := Lib.hid (Rat.mul_def' x0 x1)
  have cc := Below.refl w.heap.size w
  go_enter Tryz.func34, Tryz.ntmps34
  go_wp2_with fail
  generalize hv_ : ((w.alloc (.cells #[.bool b0, .slice A0 n0 c0, .slice B0 m0 d0] 27)).alloc (.cells #[.bool b1, .slice A1 n1 c1, .slice B1 m1 d1] 27)).alloc (.cells #[.bool false, .slice none 0 0, .slice none 0 0] 27) = v1
  obtain ⟨f0, f1, f2⟩ : Fz3 v1 (w.heap.size + 1 + 1) := by simp [Fz3, ← hv_, go_sem]
  have bA : Below w.heap.size w v1 := by rw [← hv_]; exact ((((Below.refl _ w).alloc (by simp) _).alloc (by simp) _).alloc (by simp <;> omega) _)
  replace p0 := p0.on bA
  replace q0 := q0.on bA
  replace p1 := p1.on bA
  replace q1 := q1.on bA
  replace cc := bK cc bA
  clear bA
  obtain ⟨k0, k1, k2⟩ : Cs3 v1 w.heap.size (.bool b0) (.slice A0 n0 c0) (.slice B0 m0 d0) := by simp [Cs3, ← hv_, go_sem]
  have kl : w.heap.size < v1.heap.size := by simp [← hv_] <;> omega
  obtain ⟨h0, h1, h2⟩ : Cs3 v1 (w.heap.size + 1) (.bool b1) (.slice A1 n1 c1) (.slice B1 m1 d1) := by simp [Cs3, ← hv_, go_sem]
  have hl : w.heap.size + 1 < v1.heap.size := by simp [← hv_] <;> omega
  obtain ⟨g0, g1, g2⟩ : Cs3 v1 (w.heap.size + 1 + 1) (.bool false) (.slice none 0 0) (.slice none 0 0) := by simp [Cs3, ← hv_, go_sem]
  have gl : w.heap.size + 1 + 1 < v1.heap.size := by simp [← hv_] <;> omega
  clear hv_
  go_upto_region 1 with fail
  go_cut [5] (fun u wx => ∃ (g : Nat) (b : Bool) (A : Option Addr) (n c : Nat) (B : Option Addr) (m d : Nat), u = .pointer (some ⟨g, 0, none⟩) ∧ Lone v1 wx g b A n c B m d (mkRat (x0.num * x1.num) (x0.den * x1.den)))
  case first =>
    have BB0 : Below v1.heap.size v1 v1.drew := below_drewN (Below.refl _ v1) 1
    have BB1 : Below v1.heap.size v1 (v1.alloc (.cells #[.bool false, .slice none 0 0, .slice none 0 0] 27)).drew := below_drewN (below_one _ _) 1
    go_region_held3 (fun w' => w'.cell? ⟨w.heap.size, 0, none⟩ = some (.bool b0) ∧ w'.cell? ⟨w.heap.size, 1, none⟩ = some (.slice A0 n0 c0) ∧ w'.cell? ⟨w.heap.size, 2, none⟩ = some (.slice B0 m0 d0) ∧ w'.cell? ⟨w.heap.size + 1, 0, none⟩ = some (.bool b1) ∧ w'.cell? ⟨w.heap.size + 1, 1, none⟩ = some (.slice A1 n1 c1) ∧ w'.cell? ⟨w.heap.size + 1, 2, none⟩ = some (.slice B1 m1 d1) ∧ w'.cell? ⟨w.heap.size + 1 + 1, 0, none⟩ = some (.bool false) ∧ w'.cell? ⟨w.heap.size + 1 + 1, 1, none⟩ = some (.slice none 0 0) ∧ w'.cell? ⟨w.heap.size + 1 + 1, 2, none⟩ = some (.slice none 0 0))
      (first | with_reducible exact ⟨(cK qq k0 kl), (cK qq k1 kl), (cK qq k2 kl), (cK qq h0 hl), (cK qq h1 hl), (cK qq h2 hl), (cK qq g0 gl), (cK qq g1 gl), (cK qq g2 gl)⟩ | with_reducible exact ⟨keep_alloc ((cK qq k0 kl)), keep_alloc ((cK qq k1 kl)), keep_alloc ((cK qq k2 kl)), keep_alloc ((cK qq h0 hl)), keep_alloc ((cK qq h1 hl)), keep_alloc ((cK qq h2 hl)), keep_alloc ((cK qq g0 gl)), keep_alloc ((cK qq g1 gl)), keep_alloc ((cK qq g2 gl))⟩ | with_reducible exact ⟨((cell_putR (by omega)).trans (cK qq k0 kl)), ((cell_putR (by omega)).trans (cK qq k1 kl)), ((cell_putR (by omega)).trans (cK qq k2 kl)), ((cell_putR (by omega)).trans (cK qq h0 hl)), ((cell_putR (by omega)).trans (cK qq h1 hl)), ((cell_putR (by omega)).trans (cK qq h2 hl)), ((cell_putR (by omega)).trans (cK qq g0 gl)), ((cell_putR (by omega)).trans (cK qq g1 gl)), ((cell_putR (by omega)).trans (cK qq g2 gl))⟩ | go_keep)
      (first
        | (go_at_call 66; (with_reducible refine (rzmul_N (p0.on BB0) (p1.on BB0) (Nat.le_trans lp0 (by omega)) (Nat.le_trans lp1 (by omega))).mono ?_); rintro e y1 ⟨bs, As, ns, cs, rfl, s, q⟩; have qq := BB0.trans (q.mono BB0.size); have p0' := (p0.on BB0).on q; have q0' := (q0.on BB0).on q; have p1' := (p1.on BB0).on q; have q1' := (q1.on BB0).on q; have qs1 := qq.size; clear q)
        | (go_at_call 66; (with_reducible refine (rzmul_N (p0.on BB1) (p1.on BB1) (Nat.le_trans lp0 (by omega)) (Nat.le_trans lp1 (by omega))).mono ?_); rintro e y1 ⟨bs, As, ns, cs, rfl, s, q⟩; have qq := BB1.trans (q.mono BB1.size); have p0' := (p0.on BB1).on q; have q0' := (q0.on BB1).on q; have p1' := (p1.on BB1).on q; have q1' := (q1.on BB1).on q; have qs1 := qq.size; obtain ⟨bo_0, fo_0, bo_1, fo_1, bo_2, fo_2, ol⟩ := zb3 (g := v1.heap.size) q (by simp) (by simp [Cs3, go_sem]) (by simp [Fz3, go_sem]); clear q)
        | (go_at_call 65; have up := Below.refl y1.heap.size y1; (with_reducible refine (rmul_N (q0'.on up) (q1'.on up) (Nat.le_trans lq0 (by omega)) (Nat.le_trans lq1 (by omega))).mono ?_); rintro e y2 ⟨At, nt, ct, rfl, t, q⟩; replace qq := uK qq up q; replace p0' := (p0'.on up).on q; replace q0' := (q0'.on up).on q; replace p1' := (p1'.on up).on q; replace q1' := (q1'.on up).on q; replace s := (s.on up).on q; (try (rewrite [cR up ol, cR q (lK up ol)] at bo_0 bo_1 bo_2; rewrite [fR up ol, fR q (lK up ol)] at fo_0 fo_1 fo_2; replace ol := lK q (lK up ol))); have qs2 := qq.size; clear q up)
        | (go_at_call 65; have up := below_one y1 (.cells #[.bool false, .slice none 0 0, .slice none 0 0] 27); (with_reducible refine (rmul_N (q0'.on up) (q1'.on up) (Nat.le_trans lq0 (by omega)) (Nat.le_trans lq1 (by omega))).mono ?_); rintro e y2 ⟨At, nt, ct, rfl, t, q⟩; replace qq := uK qq up q; replace p0' := (p0'.on up).on q; replace q0' := (q0'.on up).on q; replace p1' := (p1'.on up).on q; replace q1' := (q1'.on up).on q; replace s := (s.on up).on q; (try (rewrite [cR up ol, cR q (lK up ol)] at bo_0 bo_1 bo_2; rewrite [fR up ol, fR q (lK up ol)] at fo_0 fo_1 fo_2; replace ol := lK q (lK up ol))); have qs2 := qq.size; obtain ⟨bo_0, fo_0, bo_1, fo_1, bo_2, fo_2, ol⟩ := zb3 (g := y1.heap.size) q (by simp) (by simp [Cs3, go_sem]) (by simp [Fz3, go_sem]); clear q up)
        | (go_at_call 62; have up := Below.refl y2.heap.size y2; (with_reducible refine (rtmake_N (s.on up) (t.on up) hq lC lD).mono ?_); rintro e y3 ⟨bo, Ao, no, co, Bo, mo, do_, rfl, o, q⟩; replace qq := uK qq up q; replace p0' := (p0'.on up).on q; replace q0' := (q0'.on up).on q; replace p1' := (p1'.on up).on q; replace q1' := (q1'.on up).on q; replace s := (s.on up).on q; replace t := (t.on up).on q; (try (rewrite [cR up ol, cR q (lK up ol)] at bo_0 bo_1 bo_2; rewrite [fR up ol, fR q (lK up ol)] at fo_0 fo_1 fo_2; replace ol := lK q (lK up ol))); have qs3 := qq.size; clear q up)
        | (go_at_call 62; have up := below_one y2 (.cells #[.bool false, .slice none 0 0, .slice none 0 0] 27); (with_reducible refine (rtmake_N (s.on up) (t.on up) hq lC lD).mono ?_); rintro e y3 ⟨bo, Ao, no, co, Bo, mo, do_, rfl, o, q⟩; replace qq := uK qq up q; replace p0' := (p0'.on up).on q; replace q0' := (q0'.on up).on q; replace p1' := (p1'.on up).on q; replace q1' := (q1'.on up).on q; replace s := (s.on up).on q; replace t := (t.on up).on q; (try (rewrite [cR up ol, cR q (lK up ol)] at bo_0 bo_1 bo_2; rewrite [fR up ol, fR q (lK up ol)] at fo_0 fo_1 fo_2; replace ol := lK q (lK up ol))); have qs3 := qq.size; obtain ⟨bo_0, fo_0, bo_1, fo_1, bo_2, fo_2, ol⟩ := zb3 (g := y2.heap.size) q (by simp) (by simp [Cs3, go_sem]) (by simp [Fz3, go_sem]); clear q up))
    all_goals (go_wp2_with fail; go_meet)
    all_goals refine ⟨_, bo, Ao, no, co, Bo, mo, do_, rfl, ?_⟩
    all_goals first
      | with_reducible exact loneA o qq _
      | with_reducible exact loneB bo_0 bo_1 bo_2 o qq (by omega)
  case rest =>
    obtain ⟨gz, bz, Az, nz, cz, Bz, mz, dz, rfl, ⟨z0, z1, z2⟩, ⟨pz, qz⟩, b⟩ := hcut
    have zl := cell_lt z0
    simp only at zl
    rewrite [fR b gl] at f0 f1 f2
    replace p0 := p0.on b
    replace q0 := q0.on b
    replace p1 := p1.on b
    replace q1 := q1.on b
    rewrite [cR b kl] at k0 k1 k2
    replace kl := lK b kl
    rewrite [cR b hl] at h0 h1 h2
    replace hl := lK b hl
    rewrite [cR b gl] at g0 g1 g2
    replace gl := lK b gl
    replace cc := bK cc b
    clear b
    have eb : BoxR wc (w.heap.size + 1 + 1) false none 0 0 none 0 0 := ⟨g0, g1, g2⟩
    have HZ : Hid (Rt (putR wc (w.heap.size + 1 + 1) (.bool bz) (.slice Az nz cz) (.slice Bz mz dz)) bz Az nz cz Bz mz dz (x0 * x1)) := Lib.hid (by rw [HE.out]; exact Rt.putR ⟨pz, qz⟩ eb _ _ _)
    go_wp2_with fail
    refine bodyPost_ret (v := .agg #[.bool bz, .slice Az nz cz, .slice Bz mz dz]) (by simp [results, Tryz.results34, go_sem, g0, g1, g2]) rfl ⟨_, _, _, _, _, _, _, rfl, HZ.out, below_putR cc (by omega) _ _ _⟩

end Go.Proofs.YtanpklbconflmaaGreat

/-
  The contracts of the fifth reference: Neg, Sub, Div and the rest.
-/
namespace Go.Proofs.YtanpklbconflmaaGreat
set_option maxRecDepth 100000
set_option maxHeartbeats 8000000
open Go.RowKit
set_option linter.unusedVariables false

theorem rtneg_N {w : World} {b0 : Bool} {A0 B0 : Option Addr} {n0 c0 m0 d0 : Nat} {x0 : Rat} (h0 : Rt w b0 A0 n0 c0 B0 m0 d0 x0) (s0 : Sz x0 100) :
    Calls Tryz.prog 69 #[.agg #[.bool b0, .slice A0 n0 c0, .slice B0 m0 d0]] w (GotRt w (-x0)) := by
  have p0 := h0.1
  have q0 := h0.2
  have lp0 := s0.1
  have lq0 := s0.2
  clear h0
  have cc := Below.refl w.heap.size w
  go_enter Tryz.func69, Tryz.ntmps69
  go_wp2_with fail
  generalize hv_ : (w.alloc (.cells #[.bool b0, .slice A0 n0 c0, .slice B0 m0 d0] 27)).alloc (.cells #[.bool false, .slice none 0 0, .slice none 0 0] 27) = v1
  obtain ⟨f0, f1, f2⟩ : Fz3 v1 (w.heap.size + 1) := by simp [Fz3, ← hv_, go_sem]
  have bA : Below w.heap.size w v1 := by rw [← hv_]; exact (((Below.refl _ w).alloc (by simp) _).alloc (by simp) _)
  replace p0 := p0.on bA
  replace q0 := q0.on bA
  replace cc := bK cc bA
  clear bA
  obtain ⟨k0, k1, k2⟩ : Cs3 v1 w.heap.size (.bool b0) (.slice A0 n0 c0) (.slice B0 m0 d0) := by simp [Cs3, ← hv_, go_sem]
  have kl : w.heap.size < v1.heap.size := by simp [← hv_] <;> omega
  obtain ⟨g0, g1, g2⟩ : Cs3 v1 (w.heap.size + 1) (.bool false) (.slice none 0 0) (.slice none 0 0) := by simp [Cs3, ← hv_, go_sem]
  have gl : w.heap.size + 1 < v1.heap.size := by simp [← hv_] <;> omega
  clear hv_
  have qq : Below v1.heap.size v1 v1.drew := below_drewN (Below.refl _ v1) 1
  have p0' := p0.on qq
  have q0' := q0.on qq
  go_region_held3 (fun w' => w'.cell? ⟨w.heap.size, 0, none⟩ = some (.bool b0) ∧ w'.cell? ⟨w.heap.size, 1, none⟩ = some (.slice A0 n0 c0) ∧ w'.cell? ⟨w.heap.size, 2, none⟩ = some (.slice B0 m0 d0))
    (first | with_reducible exact ⟨cK qq k0 kl, cK qq k1 kl, cK qq k2 kl⟩ | with_reducible exact ⟨(cell_putR (by omega)).trans (cK qq k0 kl), (cell_putR (by omega)).trans (cK qq k1 kl), (cell_putR (by omega)).trans (cK qq k2 kl)⟩)
    (first
      | (go_at_call 96; (with_reducible refine (rzneg_N p0' (Nat.le_trans lp0 (by omega))).mono ?_); rintro e wz ⟨bm, Am, nm, cm, rfl, pm, q⟩; replace qq := bK qq q; (try replace p0' := p0'.on q); (try replace q0' := q0'.on q); clear q; have xa0 := cK qq g0 gl; have ya0 := fK qq f0 gl; have xa1 := cK qq g1 gl; have ya1 := fK qq f1 gl; have xa2 := cK qq g2 gl; have ya2 := fK qq f2 gl))
  have hn : Rt wz bm Am nm cm B0 m0 d0 (-x0) := ⟨pm, q0'⟩
  replace cc := bK cc qq
  have eb : BoxR wz (w.heap.size + 1) false none 0 0 none 0 0 := ⟨xa0, xa1, xa2⟩
  have HZ : Hid (Rt (putR wz (w.heap.size + 1) (.bool bm) (.slice Am nm cm) (.slice B0 m0 d0)) bm Am nm cm B0 m0 d0 (-x0)) := Lib.hid (Rt.putR hn eb _ _ _)
  go_wp2_with fail
  refine bodyPost_ret (v := .agg #[.bool bm, .slice Am nm cm, .slice B0 m0 d0]) (by simp [results, Tryz.results69, go_sem, xa0, xa1, xa2]) rfl ⟨_, _, _, _, _, _, _, rfl, HZ.out, below_putR cc (by omega) _ _ _⟩

theorem rtsub_N {w : World} {b0 b1 : Bool} {A0 B0 A1 B1 : Option Addr} {n0 c0 m0 d0 n1 c1 m1 d1 : Nat} {x0 x1 : Rat} (h0 : Rt w b0 A0 n0 c0 B0 m0 d0 x0) (s0 : Sz x0 40) (h1 : Rt w b1 A1 n1 c1 B1 m1 d1 x1) (s1 : Sz x1 40) :
    Calls Tryz.prog 38 #[.agg #[.bool b0, .slice A0 n0 c0, .slice B0 m0 d0], .agg #[.bool b1, .slice A1 n1 c1, .slice B1 m1 d1]] w (GotRt w (x0 - x1)) := by
  have cc := Below.refl w.heap.size w
  go_enter Tryz.func38, Tryz.ntmps38
  go_wp2_with fail
  generalize hv_ : ((w.alloc (.cells #[.bool b0, .slice A0 n0 c0, .slice B0 m0 d0] 27)).alloc (.cells #[.bool b1, .slice A1 n1 c1, .slice B1 m1 d1] 27)).alloc (.cells #[.bool false, .slice none 0 0, .slice none 0 0] 27) = v1
  obtain ⟨f0, f1, f2⟩ : Fz3 v1 (w.heap.size + 1 + 1) := by simp [Fz3, ← hv_, go_sem]
  have bA : Below w.heap.size w v1 := by rw [← hv_]; exact ((((Below.refl _ w).alloc (by simp) _).alloc (by simp) _).alloc (by simp <;> omega) _)
  replace h0 := h0.on bA
  replace h1 := h1.on bA
  replace cc := bK cc bA
  clear bA
  obtain ⟨k0, k1, k2⟩ : Cs3 v1 w.heap.size (.bool b0) (.slice A0 n0 c0) (.slice B0 m0 d0) := by simp [Cs3, ← hv_, go_sem]
  have kl : w.heap.size < v1.heap.size := by simp [← hv_] <;> omega
  obtain ⟨r0, r1, r2⟩ : Cs3 v1 (w.heap.size + 1) (.bool b1) (.slice A1 n1 c1) (.slice B1 m1 d1) := by simp [Cs3, ← hv_, go_sem]
  have rl : w.heap.size + 1 < v1.heap.size := by simp [← hv_] <;> omega
  obtain ⟨g0, g1, g2⟩ : Cs3 v1 (w.heap.size + 1 + 1) (.bool false) (.slice none 0 0) (.slice none 0 0) := by simp [Cs3, ← hv_, go_sem]
  have gl : w.heap.size + 1 + 1 < v1.heap.size := by simp [← hv_] <;> omega
  clear hv_
  have qq : Below v1.heap.size v1 v1.drew := below_drewN (Below.refl _ v1) 1
  have h0' := h0.on qq
  have h1' := h1.on qq
  go_region_held3 (fun w' => w'.cell? ⟨w.heap.size, 0, none⟩ = some (.bool b0) ∧ w'.cell? ⟨w.heap.size, 1, none⟩ = some (.slice A0 n0 c0) ∧ w'.cell? ⟨w.heap.size, 2, none⟩ = some (.slice B0 m0 d0) ∧ w'.cell? ⟨w.heap.size + 1, 0, none⟩ = some (.bool b1) ∧ w'.cell? ⟨w.heap.size + 1, 1, none⟩ = some (.slice A1 n1 c1) ∧ w'.cell? ⟨w.heap.size + 1, 2, none⟩ = some (.slice B1 m1 d1))
    (first | with_reducible exact ⟨cK qq k0 kl, cK qq k1 kl, cK qq k2 kl, cK qq r0 rl, cK qq r1 rl, cK qq r2 rl⟩ | with_reducible exact ⟨(cell_putR (by omega)).trans (cK qq k0 kl), (cell_putR (by omega)).trans (cK qq k1 kl), (cell_putR (by omega)).trans (cK qq k2 kl), (cell_putR (by omega)).trans (cK qq r0 rl), (cell_putR (by omega)).trans (cK qq r1 rl), (cell_putR (by omega)).trans (cK qq r2 rl)⟩)
    (first
      | (go_at_call 69; (with_reducible refine (rtneg_N h1' (s1.le (by omega))).mono ?_); rintro e wz ⟨bv, Av, nv, cv, Bv, mv, dv, rfl, v, q⟩; replace qq := bK qq q; (try replace h0' := h0'.on q); (try replace h1' := h1'.on q); (try replace hm := hm.on q); clear q; have xa0 := cK qq g0 gl; have ya0 := fK qq f0 gl; have xa1 := cK qq g1 gl; have ya1 := fK qq f1 gl; have xa2 := cK qq g2 gl; have ya2 := fK qq f2 gl)
      | (go_at_call 33; (with_reducible refine (rtadd_N h0' s0 v s1.neg).mono ?_); rintro e wz ⟨bm, Am, nm, cm, Bm, mm, dm, rfl, hm, q⟩; replace qq := bK qq q; (try replace h0' := h0'.on q); (try replace h1' := h1'.on q); (try replace v := v.on q); clear q; have xa0 := cK qq g0 gl; have ya0 := fK qq f0 gl; have xa1 := cK qq g1 gl; have ya1 := fK qq f1 gl; have xa2 := cK qq g2 gl; have ya2 := fK qq f2 gl))
  replace cc := bK cc qq
  have eb : BoxR wz (w.heap.size + 1 + 1) false none 0 0 none 0 0 := ⟨xa0, xa1, xa2⟩
  have HZ : Hid (Rt (putR wz (w.heap.size + 1 + 1) (.bool bm) (.slice Am nm cm) (.slice Bm mm dm)) bm Am nm cm Bm mm dm (x0 - x1)) := Lib.hid (by rw [Rat.sub_eq_add_neg]; exact Rt.putR hm eb _ _ _)
  go_wp2_with fail
  refine bodyPost_ret (v := .agg #[.bool bm, .slice Am nm cm, .slice Bm mm dm]) (by simp [results, Tryz.results38, go_sem, xa0, xa1, xa2]) rfl ⟨_, _, _, _, _, _, _, rfl, HZ.out, below_putR cc (by omega) _ _ _⟩

theorem zn_side {w : World} {b : Bool} {A B : Option Addr} {n c m d q : Nat} {p : Int} (h : Zn w b A n c p) (hB : Num w B m d q) (hq : q ≠ 0) : Zn w b B m d (sgn (decide (p < 0)) q) := by
  refine ⟨by rw [sgn_abs]; exact hB, ?_⟩
  rw [h.2]; unfold sgn
  by_cases h1 : p < 0
  · simp [h1]; omega
  · simp [h1]

theorem rtdiv_N {w : World} {b0 b1 : Bool} {A0 B0 A1 B1 : Option Addr} {n0 c0 m0 d0 n1 c1 m1 d1 : Nat} {x0 x1 : Rat} (h0 : Rt w b0 A0 n0 c0 B0 m0 d0 x0) (s0 : Sz x0 40) (h1 : Rt w b1 A1 n1 c1 B1 m1 d1 x1) (s1 : Sz x1 40) (hne : x1.num ≠ 0) :
    Calls Tryz.prog 35 #[.agg #[.bool b0, .slice A0 n0 c0, .slice B0 m0 d0], .agg #[.bool b1, .slice A1 n1 c1, .slice B1 m1 d1]] w (GotRp w (x0 / x1) 0) := by
  have p0 := h0.1
  have q0 := h0.2
  have lp0 := s0.1
  have lq0 := s0.2
  have p1 := h1.1
  have q1 := h1.2
  have lp1 := s1.1
  have lq1 := s1.2
  clear h0
  clear h1
  have hn : 0 < n1 := p1.1.some_len (by omega)
  have hn0 : ((n1 : Int) == 0) = false := beq_eq_false_iff_ne.2 (by omega)
  have zs := zn_side p1 q1 x1.den_nz
  have hD : x0.den * x1.num.natAbs ≠ 0 := Nat.mul_ne_zero x0.den_nz (by omega)
  have lD : (limbs (x0.den * x1.num.natAbs)).length ≤ 100 := Nat.le_trans (limbs_length_mul lq0 lp1) (by omega)
  have lS : (limbs (sgn (decide (x1.num < 0)) x1.den).natAbs).length ≤ 40 := by rw [sgn_abs]; exact lq1
  have lC : (limbs (x0.num * sgn (decide (x1.num < 0)) x1.den).natAbs).length ≤ 100 := Nat.le_trans (zlen_mul lp0 lS) (by omega)
  have t1 := p1.1
  have cc := Below.refl w.heap.size w
  go_enter Tryz.func35, Tryz.ntmps35
  go_wp2_with fail
  generalize hv_ : ((w.alloc (.cells #[.bool b0, .slice A0 n0 c0, .slice B0 m0 d0] 27)).alloc (.cells #[.bool b1, .slice A1 n1 c1, .slice B1 m1 d1] 27)).alloc (.cells #[.bool false, .slice none 0 0, .slice none 0 0] 27) = v1
  obtain ⟨f0, f1, f2⟩ : Fz3 v1 (w.heap.size + 1 + 1) := by simp [Fz3, ← hv_, go_sem]
  have bA : Below w.heap.size w v1 := by rw [← hv_]; exact ((((Below.refl _ w).alloc (by simp) _).alloc (by simp) _).alloc (by simp <;> omega) _)
  replace p0 := p0.on bA
  replace q0 := q0.on bA
  replace p1 := p1.on bA
  replace q1 := q1.on bA
  replace zs := zs.on bA
  replace t1 := t1.on bA
  replace cc := bK cc bA
  clear bA
  obtain ⟨k0, k1, k2⟩ : Cs3 v1 w.heap.size (.bool b0) (.slice A0 n0 c0) (.slice B0 m0 d0) := by simp [Cs3, ← hv_, go_sem]
  have kl : w.heap.size < v1.heap.size := by simp [← hv_] <;> omega
  obtain ⟨r0, r1, r2⟩ : Cs3 v1 (w.heap.size + 1) (.bool b1) (.slice A1 n1 c1) (.slice B1 m1 d1) := by simp [Cs3, ← hv_, go_sem]
  have rl : w.heap.size + 1 < v1.heap.size := by simp [← hv_] <;> omega
  obtain ⟨g0, g1, g2⟩ : Cs3 v1 (w.heap.size + 1 + 1) (.bool false) (.slice none 0 0) (.slice none 0 0) := by simp [Cs3, ← hv_, go_sem]
  have gl : w.heap.size + 1 + 1 < v1.heap.size := by simp [← hv_] <;> omega
  clear hv_
  have qq : Below v1.heap.size v1 v1.drew := below_drewN (Below.refl _ v1) 1
  have p0' := p0.on qq
  have q0' := q0.on qq
  have p1' := p1.on qq
  have q1' := q1.on qq
  have zs' := zs.on qq
  have t1' := t1.on qq
  go_region_held3 (fun w' => w'.cell? ⟨w.heap.size, 0, none⟩ = some (.bool b0) ∧ w'.cell? ⟨w.heap.size, 1, none⟩ = some (.slice A0 n0 c0) ∧ w'.cell? ⟨w.heap.size, 2, none⟩ = some (.slice B0 m0 d0) ∧ w'.cell? ⟨w.heap.size + 1, 0, none⟩ = some (.bool b1) ∧ w'.cell? ⟨w.heap.size + 1, 1, none⟩ = some (.slice A1 n1 c1) ∧ w'.cell? ⟨w.heap.size + 1, 2, none⟩ = some (.slice B1 m1 d1))
    (first | with_reducible exact ⟨cK qq k0 kl, cK qq k1 kl, cK qq k2 kl, cK qq r0 rl, cK qq r1 rl, cK qq r2 rl⟩ | with_reducible exact ⟨(cell_putR (by omega)).trans (cK qq k0 kl), (cell_putR (by omega)).trans (cK qq k1 kl), (cell_putR (by omega)).trans (cK qq k2 kl), (cell_putR (by omega)).trans (cK qq r0 rl), (cell_putR (by omega)).trans (cK qq r1 rl), (cell_putR (by omega)).trans (cK qq r2 rl)⟩)
    (first
      | (go_at_call 66; (with_reducible refine (rzmul_N p0' zs' (Nat.le_trans lp0 (by omega)) (Nat.le_trans lS (by omega))).mono ?_); rintro e wz ⟨bs, As, ns, cs, rfl, s, q⟩; replace qq := bK qq q; (try replace p0' := p0'.on q); (try replace q0' := q0'.on q); (try replace p1' := p1'.on q); (try replace q1' := q1'.on q); (try replace zs' := zs'.on q); (try replace t1' := t1'.on q); (try replace t := t.on q); (try replace hm := hm.on q); clear q; have xa0 := cK qq g0 gl; have ya0 := fK qq f0 gl; have xa1 := cK qq g1 gl; have ya1 := fK qq f1 gl; have xa2 := cK qq g2 gl; have ya2 := fK qq f2 gl)
      | (go_at_call 65; (with_reducible refine (rmul_N q0' t1' (Nat.le_trans lq0 (by omega)) (Nat.le_trans lp1 (by omega))).mono ?_); rintro e wz ⟨At, nt, ct, rfl, t, q⟩; replace qq := bK qq q; (try replace p0' := p0'.on q); (try replace q0' := q0'.on q); (try replace p1' := p1'.on q); (try replace q1' := q1'.on q); (try replace zs' := zs'.on q); (try replace t1' := t1'.on q); (try replace s := s.on q); (try replace hm := hm.on q); clear q; have xa0 := cK qq g0 gl; have ya0 := fK qq f0 gl; have xa1 := cK qq g1 gl; have ya1 := fK qq f1 gl; have xa2 := cK qq g2 gl; have ya2 := fK qq f2 gl)
      | (go_at_call 62; (with_reducible refine (rtmake_N s t hD lC lD).mono ?_); rintro e wz ⟨bm, Am, nm, cm, Bm, mm, dm, rfl, hm, q⟩; replace qq := bK qq q; (try replace p0' := p0'.on q); (try replace q0' := q0'.on q); (try replace p1' := p1'.on q); (try replace q1' := q1'.on q); (try replace zs' := zs'.on q); (try replace t1' := t1'.on q); (try replace s := s.on q); (try replace t := t.on q); clear q; have xa0 := cK qq g0 gl; have ya0 := fK qq f0 gl; have xa1 := cK qq g1 gl; have ya1 := fK qq f1 gl; have xa2 := cK qq g2 gl; have ya2 := fK qq f2 gl))
  replace cc := bK cc qq
  have eb : BoxR wz (w.heap.size + 1 + 1) false none 0 0 none 0 0 := ⟨xa0, xa1, xa2⟩
  have HZ : Hid (Rt (putR wz (w.heap.size + 1 + 1) (.bool bm) (.slice Am nm cm) (.slice Bm mm dm)) bm Am nm cm Bm mm dm (x0 / x1)) := Lib.hid (by rw [div_mk x0 x1 hne]; exact Rt.putR hm eb _ _ _)
  go_wp2_with fail
  refine bodyPost_ret (v := .tuple #[.agg #[.bool bm, .slice Am nm cm, .slice Bm mm dm], .int .i64 0]) (by simp [results, Tryz.results35, go_sem, xa0, xa1, xa2]) rfl ⟨_, _, _, _, _, _, _, rfl, HZ.out, below_putR cc (by omega) _ _ _⟩

theorem rtdiv_zero {w : World} {b0 b1 : Bool} {A0 B0 A1 B1 : Option Addr} {n0 c0 m0 d0 c1 m1 d1 : Nat} :
    Calls Tryz.prog 35 #[.agg #[.bool b0, .slice A0 n0 c0, .slice B0 m0 d0], .agg #[.bool b1, .slice A1 0 c1, .slice B1 m1 d1]] w (GotV w (.tuple #[.agg #[.bool false, .slice none 0 0, .slice none 0 0], .int .i64 4])) := by
  have cc := Below.refl w.heap.size w
  go_enter Tryz.func35, Tryz.ntmps35
  go_wp2_with fail
  generalize hv_ : ((w.alloc (.cells #[.bool b0, .slice A0 n0 c0, .slice B0 m0 d0] 27)).alloc (.cells #[.bool b1, .slice A1 0 c1, .slice B1 m1 d1] 27)).alloc (.cells #[.bool false, .slice none 0 0, .slice none 0 0] 27) = v1
  obtain ⟨f0, f1, f2⟩ : Fz3 v1 (w.heap.size + 1 + 1) := by simp [Fz3, ← hv_, go_sem]
  have bA : Below w.heap.size w v1 := by rw [← hv_]; exact ((((Below.refl _ w).alloc (by simp) _).alloc (by simp) _).alloc (by simp <;> omega) _)
  replace cc := bK cc bA
  clear bA
  obtain ⟨k0, k1, k2⟩ : Cs3 v1 w.heap.size (.bool b0) (.slice A0 n0 c0) (.slice B0 m0 d0) := by simp [Cs3, ← hv_, go_sem]
  have kl : w.heap.size < v1.heap.size := by simp [← hv_] <;> omega
  obtain ⟨r0, r1, r2⟩ : Cs3 v1 (w.heap.size + 1) (.bool b1) (.slice A1 0 c1) (.slice B1 m1 d1) := by simp [Cs3, ← hv_, go_sem]
  have rl : w.heap.size + 1 < v1.heap.size := by simp [← hv_] <;> omega
  obtain ⟨g0, g1, g2⟩ : Cs3 v1 (w.heap.size + 1 + 1) (.bool false) (.slice none 0 0) (.slice none 0 0) := by simp [Cs3, ← hv_, go_sem]
  have gl : w.heap.size + 1 + 1 < v1.heap.size := by simp [← hv_] <;> omega
  clear hv_
  go_wp2_with fail
  exact bodyPost_ret (v := .tuple #[.agg #[.bool false, .slice none 0 0, .slice none 0 0], .int .i64 4]) (by simp [results, Tryz.results35, go_sem, g0, g1, g2]) rfl ⟨rfl, cc⟩

end Go.Proofs.YtanpklbconflmaaGreat

/-
  The contracts of the fifth reference: Of, Same, Right, Few.
-/
namespace Go.Proofs.YtanpklbconflmaaGreat
set_option maxRecDepth 100000
set_option maxHeartbeats 8000000
open Go.RowKit
set_option linter.unusedVariables false

theorem nsame_N {w : World} {A B : Option Addr} {n c m d x y : Nat} (r : Bool) (ha : Num w A n c x) (hb : Num w B m d y) (hx : (limbs x).length ≤ 1000000) (hy : (limbs y).length ≤ 1000000) (hr : decide (x = y) = r) : Calls Tryz.prog 73 #[.slice A n c, .slice B m d] w (GotV w (.bool r)) := by
  cases r with
  | true => exact same_N ha hb (by omega) (by omega) (of_decide_eq_true hr)
  | false => exact same_not_N ha hb (by omega) (by omega) (of_decide_eq_false hr)

theorem rtof_N (w : World) (n : Int) (h : I64 n) :
    Calls Tryz.prog 36 #[.int .i64 n] w (GotRt w ((n : Int) : Rat)) := by
  have hl := h.abs
  have cc := Below.refl w.heap.size w
  go_enter Tryz.func36, Tryz.ntmps36
  go_wp2_with fail
  generalize hv_ : w.alloc (.cells #[.bool false, .slice none 0 0, .slice none 0 0] 27) = v1
  obtain ⟨f0, f1, f2⟩ : Fz3 v1 w.heap.size := by simp [Fz3, ← hv_, go_sem]
  have bA : Below w.heap.size w v1 := by rw [← hv_]; exact ((Below.refl _ w).alloc (by simp) _)
  replace cc := bK cc bA
  clear bA
  obtain ⟨g0, g1, g2⟩ : Cs3 v1 w.heap.size (.bool false) (.slice none 0 0) (.slice none 0 0) := by simp [Cs3, ← hv_, go_sem]
  have gl : w.heap.size < v1.heap.size := by simp [← hv_] <;> omega
  clear hv_
  refine (rzof_N v1 n h).mono ?_
  rintro e w2 ⟨bm, Am, nm, cm, rfl, pm, b⟩
  rewrite [fR b gl] at f0 f1 f2
  rewrite [cR b gl] at g0 g1 g2
  replace gl := lK b gl
  replace cc := bK cc b
  clear b
  go_wp2_with fail
  refine (rof_N w2 1 (by decide)).mono ?_
  rintro e w3 ⟨Bm, mm, dm, rfl, qm, b⟩
  rewrite [fR b gl] at f0 f1 f2
  replace pm := pm.on b
  rewrite [cR b gl] at g0 g1 g2
  replace gl := lK b gl
  replace cc := bK cc b
  clear b
  have hn : Rt w3 bm Am nm cm Bm mm dm ((n : Int) : Rat) := ⟨pm, qm⟩
  have eb : BoxR w3 (w.heap.size) false none 0 0 none 0 0 := ⟨g0, g1, g2⟩
  have HZ : Hid (Rt (putR w3 (w.heap.size) (.bool bm) (.slice Am nm cm) (.slice Bm mm dm)) bm Am nm cm Bm mm dm (((n : Int) : Rat))) := Lib.hid (Rt.putR (r := ((n : Int) : Rat)) hn eb _ _ _)
  go_wp2_with fail
  refine bodyPost_ret (v := .agg #[.bool bm, .slice Am nm cm, .slice Bm mm dm]) (by simp [results, Tryz.results36, go_sem, g0, g1, g2]) rfl ⟨_, _, _, _, _, _, _, rfl, HZ.out, below_putR cc (by omega) _ _ _⟩

theorem rtsame_no {w : World} {b0 b1 : Bool} {A0 B0 A1 B1 : Option Addr} {n0 c0 m0 d0 n1 c1 m1 d1 : Nat} {p0 p1 : Int} {q0 q1 : Nat} (h0 : Rw w b0 A0 n0 c0 B0 m0 d0 p0 q0) (h1 : Rw w b1 A1 n1 c1 B1 m1 d1 p1 q1) (lp0 : (limbs p0.natAbs).length ≤ 1000) (lq0 : (limbs q0).length ≤ 1000) (lp1 : (limbs p1.natAbs).length ≤ 1000) (lq1 : (limbs q1).length ≤ 1000) (hp : decide (p0 = p1) = false) :
    Calls Tryz.prog 44 #[.agg #[.bool b0, .slice A0 n0 c0, .slice B0 m0 d0], .agg #[.bool b1, .slice A1 n1 c1, .slice B1 m1 d1]] w (GotV w (.bool false)) := by
  have u0 := h0.1
  have v0 := h0.2
  have u1 := h1.1
  have v1 := h1.2
  clear h0 h1
  have cc := Below.refl w.heap.size w
  go_enter Tryz.func44, Tryz.ntmps44
  go_wp2_with fail
  generalize hv_ : (w.alloc (.cells #[.bool b0, .slice A0 n0 c0, .slice B0 m0 d0] 27)).alloc (.cells #[.bool b1, .slice A1 n1 c1, .slice B1 m1 d1] 27) = v2
  have bA : Below w.heap.size w v2 := by rw [← hv_]; exact (((Below.refl _ w).alloc (by simp) _).alloc (by simp) _)
  replace u0 := u0.on bA
  replace v0 := v0.on bA
  replace u1 := u1.on bA
  replace v1 := v1.on bA
  replace cc := bK cc bA
  clear bA
  obtain ⟨k0, k1, k2⟩ : Cs3 v2 w.heap.size (.bool b0) (.slice A0 n0 c0) (.slice B0 m0 d0) := by simp [Cs3, ← hv_, go_sem]
  have kl : w.heap.size < v2.heap.size := by simp [← hv_] <;> omega
  obtain ⟨g0, g1, g2⟩ : Cs3 v2 (w.heap.size + 1) (.bool b1) (.slice A1 n1 c1) (.slice B1 m1 d1) := by simp [Cs3, ← hv_, go_sem]
  have gl : w.heap.size + 1 < v2.heap.size := by simp [← hv_] <;> omega
  clear hv_
  refine (zsame_N false u0 u1 (Nat.le_trans lp0 (by omega)) (Nat.le_trans lp1 (by omega)) hp).mono ?_
  rintro e w3 ⟨rfl, b⟩
  replace u0 := u0.on b
  replace v0 := v0.on b
  replace u1 := u1.on b
  replace v1 := v1.on b
  rewrite [cR b kl] at k0 k1 k2
  replace kl := lK b kl
  rewrite [cR b gl] at g0 g1 g2
  replace gl := lK b gl
  replace cc := bK cc b
  clear b
  go_wp2_with fail
  go_ret
  exact ⟨rfl, cc⟩

theorem rtsame_yes {w : World} {b0 b1 : Bool} {A0 B0 A1 B1 : Option Addr} {n0 c0 m0 d0 n1 c1 m1 d1 : Nat} {p0 p1 : Int} {q0 q1 : Nat} (h0 : Rw w b0 A0 n0 c0 B0 m0 d0 p0 q0) (h1 : Rw w b1 A1 n1 c1 B1 m1 d1 p1 q1) (lp0 : (limbs p0.natAbs).length ≤ 1000) (lq0 : (limbs q0).length ≤ 1000) (lp1 : (limbs p1.natAbs).length ≤ 1000) (lq1 : (limbs q1).length ≤ 1000) (r : Bool) (hp : decide (p0 = p1) = true) (hq : decide (q0 = q1) = r) :
    Calls Tryz.prog 44 #[.agg #[.bool b0, .slice A0 n0 c0, .slice B0 m0 d0], .agg #[.bool b1, .slice A1 n1 c1, .slice B1 m1 d1]] w (GotV w (.bool r)) := by
  have u0 := h0.1
  have v0 := h0.2
  have u1 := h1.1
  have v1 := h1.2
  clear h0 h1
  have cc := Below.refl w.heap.size w
  go_enter Tryz.func44, Tryz.ntmps44
  go_wp2_with fail
  generalize hv_ : (w.alloc (.cells #[.bool b0, .slice A0 n0 c0, .slice B0 m0 d0] 27)).alloc (.cells #[.bool b1, .slice A1 n1 c1, .slice B1 m1 d1] 27) = v2
  have bA : Below w.heap.size w v2 := by rw [← hv_]; exact (((Below.refl _ w).alloc (by simp) _).alloc (by simp) _)
  replace u0 := u0.on bA
  replace v0 := v0.on bA
  replace u1 := u1.on bA
  replace v1 := v1.on bA
  replace cc := bK cc bA
  clear bA
  obtain ⟨k0, k1, k2⟩ : Cs3 v2 w.heap.size (.bool b0) (.slice A0 n0 c0) (.slice B0 m0 d0) := by simp [Cs3, ← hv_, go_sem]
  have kl : w.heap.size < v2.heap.size := by simp [← hv_] <;> omega
  obtain ⟨g0, g1, g2⟩ : Cs3 v2 (w.heap.size + 1) (.bool b1) (.slice A1 n1 c1) (.slice B1 m1 d1) := by simp [Cs3, ← hv_, go_sem]
  have gl : w.heap.size + 1 < v2.heap.size := by simp [← hv_] <;> omega
  clear hv_
  refine (zsame_N true u0 u1 (Nat.le_trans lp0 (by omega)) (Nat.le_trans lp1 (by omega)) hp).mono ?_
  rintro e w3 ⟨rfl, b⟩
  replace u0 := u0.on b
  replace v0 := v0.on b
  replace u1 := u1.on b
  replace v1 := v1.on b
  rewrite [cR b kl] at k0 k1 k2
  replace kl := lK b kl
  rewrite [cR b gl] at g0 g1 g2
  replace gl := lK b gl
  replace cc := bK cc b
  clear b
  go_wp2_with fail
  refine (nsame_N r v0 v1 (Nat.le_trans lq0 (by omega)) (Nat.le_trans lq1 (by omega)) hq).mono ?_
  rintro e w4 ⟨rfl, b⟩
  replace u0 := u0.on b
  replace v0 := v0.on b
  replace u1 := u1.on b
  replace v1 := v1.on b
  rewrite [cR b kl] at k0 k1 k2
  replace kl := lK b kl
  rewrite [cR b gl] at g0 g1 g2
  replace gl := lK b gl
  replace cc := bK cc b
  clear b
  go_wp2_with fail
  go_ret
  exact ⟨rfl, cc⟩

theorem rtsame_any {w : World} {b0 b1 : Bool} {A0 B0 A1 B1 : Option Addr} {n0 c0 m0 d0 n1 c1 m1 d1 : Nat} {p0 p1 : Int} {q0 q1 : Nat} (h0 : Rw w b0 A0 n0 c0 B0 m0 d0 p0 q0) (h1 : Rw w b1 A1 n1 c1 B1 m1 d1 p1 q1) (lp0 : (limbs p0.natAbs).length ≤ 1000) (lq0 : (limbs q0).length ≤ 1000) (lp1 : (limbs p1.natAbs).length ≤ 1000) (lq1 : (limbs q1).length ≤ 1000) (r : Bool) (hr : decide (p0 = p1 ∧ q0 = q1) = r) :
    Calls Tryz.prog 44 #[.agg #[.bool b0, .slice A0 n0 c0, .slice B0 m0 d0], .agg #[.bool b1, .slice A1 n1 c1, .slice B1 m1 d1]] w (GotV w (.bool r)) := by
  by_cases hp : p0 = p1
  · exact rtsame_yes h0 h1 lp0 lq0 lp1 lq1 r (decide_eq_true hp) (by rw [← hr]; simp [hp])
  · have : r = false := by rw [← hr]; simp [hp]
    subst this
    exact rtsame_no h0 h1 lp0 lq0 lp1 lq1 (decide_eq_false hp)

theorem rtsame_N {w : World} {b0 b1 : Bool} {A0 B0 A1 B1 : Option Addr} {n0 c0 m0 d0 n1 c1 m1 d1 : Nat} {x0 x1 : Rat} (h0 : Rt w b0 A0 n0 c0 B0 m0 d0 x0) (s0 : Sz x0 1000) (h1 : Rt w b1 A1 n1 c1 B1 m1 d1 x1) (s1 : Sz x1 1000) (r : Bool) (hr : decide (x0 = x1) = r) :
    Calls Tryz.prog 44 #[.agg #[.bool b0, .slice A0 n0 c0, .slice B0 m0 d0], .agg #[.bool b1, .slice A1 n1 c1, .slice B1 m1 d1]] w (GotV w (.bool r)) := by
  exact rtsame_any h0 h1 s0.1 s0.2 s1.1 s1.2 r (by rw [rat_inj]; exact hr)

/-- A rational's form is right. -/
def okR (b : Bool) (n : Nat) (l : List Nat) (m : Nat) (l2 : List Nat) : Bool := okZ b n l && (canon l2 && (decide (0 < m) && decide (Nat.gcd (val l) (val l2) = 1)))

theorem rtright_0 {w : World} {b : Bool} {A B : Option Addr} {n c m d : Nat} {l l2 : List Nat} (h : Lim w.heap.size w A n c l) (h2 : Lim w.heap.size w B m d l2) (hn : n ≤ 100) (hm : m ≤ 100) (h3 : okZ b n l = false) :
    Calls Tryz.prog 40 #[.agg #[.bool b, .slice A n c, .slice B m d]] w (GotV w (.bool false)) := by
  have cc := Below.refl w.heap.size w
  go_enter Tryz.func40, Tryz.ntmps40
  go_wp2_with fail
  generalize hv_ : w.alloc (.cells #[.bool b, .slice A n c, .slice B m d] 27) = v1
  have bA : Below w.heap.size w v1 := by rw [← hv_]; exact ((Below.refl _ w).alloc (by simp) _)
  replace h := h.on bA
  replace h2 := h2.on bA
  replace cc := bK cc bA
  clear bA
  obtain ⟨k0, k1, k2⟩ : Cs3 v1 w.heap.size (.bool b) (.slice A n c) (.slice B m d) := by simp [Cs3, ← hv_, go_sem]
  have kl : w.heap.size < v1.heap.size := by simp [← hv_] <;> omega
  clear hv_
  refine (rzright_any false h (by omega) h3).mono ?_
  rintro e w2 ⟨rfl, b⟩
  replace h := h.on b
  replace h2 := h2.on b
  rewrite [cR b kl] at k0 k1 k2
  replace kl := lK b kl
  replace cc := bK cc b
  clear b
  go_wp2_with fail
  go_ret
  exact ⟨rfl, cc⟩

theorem okZ_canon {b : Bool} {n : Nat} {l : List Nat} (h : okZ b n l = true) : canon l = true := by
  unfold okZ at h
  rw [Bool.and_eq_true] at h
  exact h.1
theorem num_ne {w : World} {A : Option Addr} {n c x : Nat} (h : Num w A n c x) (h0 : 0 < n) : x ≠ 0 := by
  intro e
  have hl := h.len
  rw [e, limbs_zero] at hl
  simp at hl
  omega

theorem rtright_1 {w : World} {b : Bool} {A B : Option Addr} {n c m d : Nat} {l l2 : List Nat} (h : Lim w.heap.size w A n c l) (h2 : Lim w.heap.size w B m d l2) (hn : n ≤ 100) (hm : m ≤ 100) (h3 : okZ b n l = true) (h4 : canon l2 = false) :
    Calls Tryz.prog 40 #[.agg #[.bool b, .slice A n c, .slice B m d]] w (GotV w (.bool false)) := by
  have cc := Below.refl w.heap.size w
  go_enter Tryz.func40, Tryz.ntmps40
  go_wp2_with fail
  generalize hv_ : w.alloc (.cells #[.bool b, .slice A n c, .slice B m d] 27) = v1
  have bA : Below w.heap.size w v1 := by rw [← hv_]; exact ((Below.refl _ w).alloc (by simp) _)
  replace h := h.on bA
  replace h2 := h2.on bA
  replace cc := bK cc bA
  clear bA
  obtain ⟨k0, k1, k2⟩ : Cs3 v1 w.heap.size (.bool b) (.slice A n c) (.slice B m d) := by simp [Cs3, ← hv_, go_sem]
  have kl : w.heap.size < v1.heap.size := by simp [← hv_] <;> omega
  clear hv_
  refine (rzright_any true h (by omega) h3).mono ?_
  rintro e w2 ⟨rfl, b⟩
  replace h := h.on b
  replace h2 := h2.on b
  rewrite [cR b kl] at k0 k1 k2
  replace kl := lK b kl
  replace cc := bK cc b
  clear b
  go_wp2_with fail
  refine (rright_any _ _ _ _ _ false _ h2 (by omega) h4).mono ?_
  rintro e w' ⟨rfl, rfl⟩
  go_wp2_with fail
  go_ret
  exact ⟨rfl, cc⟩

theorem rtright_2 {w : World} {b : Bool} {A B : Option Addr} {n c d : Nat} {l l2 : List Nat} (h : Lim w.heap.size w A n c l) (h2 : Lim w.heap.size w B 0 d l2) (hn : n ≤ 100) (h3 : okZ b n l = true) (h4 : canon l2 = true) :
    Calls Tryz.prog 40 #[.agg #[.bool b, .slice A n c, .slice B 0 d]] w (GotV w (.bool false)) := by
  have cc := Below.refl w.heap.size w
  go_enter Tryz.func40, Tryz.ntmps40
  go_wp2_with fail
  generalize hv_ : w.alloc (.cells #[.bool b, .slice A n c, .slice B 0 d] 27) = v1
  have bA : Below w.heap.size w v1 := by rw [← hv_]; exact ((Below.refl _ w).alloc (by simp) _)
  replace h := h.on bA
  replace h2 := h2.on bA
  replace cc := bK cc bA
  clear bA
  obtain ⟨k0, k1, k2⟩ : Cs3 v1 w.heap.size (.bool b) (.slice A n c) (.slice B 0 d) := by simp [Cs3, ← hv_, go_sem]
  have kl : w.heap.size < v1.heap.size := by simp [← hv_] <;> omega
  clear hv_
  refine (rzright_any true h (by omega) h3).mono ?_
  rintro e w2 ⟨rfl, b⟩
  replace h := h.on b
  replace h2 := h2.on b
  rewrite [cR b kl] at k0 k1 k2
  replace kl := lK b kl
  replace cc := bK cc b
  clear b
  go_wp2_with fail
  refine (rright_any _ _ _ _ _ true _ h2 (by omega) h4).mono ?_
  rintro e w' ⟨rfl, rfl⟩
  go_wp2_with fail
  go_ret
  exact ⟨rfl, cc⟩

theorem rtright_3 {w : World} {b : Bool} {A B : Option Addr} {n c m d : Nat} {l l2 : List Nat} (h : Lim w.heap.size w A n c l) (h2 : Lim w.heap.size w B m d l2) (hn : n ≤ 100) (hm : m ≤ 100) (h3 : okZ b n l = true) (h4 : canon l2 = true) (h5 : 0 < m) (r : Bool) (h6 : decide (Nat.gcd (val l) (val l2) = 1) = r) :
    Calls Tryz.prog 40 #[.agg #[.bool b, .slice A n c, .slice B m d]] w (GotV w (.bool r)) := by
  have h5z : ((m : Int) == 0) = false := beq_eq_false_iff_ne.2 (by omega)
  have hN := h.num (okZ_canon h3)
  have hM := h2.num h4
  have lN : (limbs (val l)).length ≤ 100 := by rw [← hN.len]; exact hn
  have lM : (limbs (val l2)).length ≤ 100 := by rw [← hM.len]; exact hm
  have hv : val l2 ≠ 0 := num_ne hM h5
  have lG := gcd_len (p := val l) hv lM
  have l1 : (limbs 1).length ≤ 1000000 := Nat.le_trans (len_one (by decide)) (by omega)
  clear h5
  have cc := Below.refl w.heap.size w
  go_enter Tryz.func40, Tryz.ntmps40
  go_wp2_with fail
  generalize hv_ : w.alloc (.cells #[.bool b, .slice A n c, .slice B m d] 27) = v1
  have bA : Below w.heap.size w v1 := by rw [← hv_]; exact ((Below.refl _ w).alloc (by simp) _)
  replace h := h.on bA
  replace h2 := h2.on bA
  replace hN := hN.on bA
  replace hM := hM.on bA
  replace cc := bK cc bA
  clear bA
  obtain ⟨k0, k1, k2⟩ : Cs3 v1 w.heap.size (.bool b) (.slice A n c) (.slice B m d) := by simp [Cs3, ← hv_, go_sem]
  have kl : w.heap.size < v1.heap.size := by simp [← hv_] <;> omega
  clear hv_
  refine (rzright_any true h (by omega) h3).mono ?_
  rintro e w2 ⟨rfl, b⟩
  replace h := h.on b
  replace h2 := h2.on b
  replace hN := hN.on b
  replace hM := hM.on b
  rewrite [cR b kl] at k0 k1 k2
  replace kl := lK b kl
  replace cc := bK cc b
  clear b
  go_wp2_with fail
  refine (rright_any _ _ _ _ _ true _ h2 (by omega) h4).mono ?_
  rintro e w' ⟨rfl, rfl⟩
  go_wp2_with fail
  refine (rgcd_N hN hM (Nat.le_trans lN (by omega)) (Nat.le_trans lM (by omega))).mono ?_
  rintro e w3 ⟨Ag, ng, cg, rfl, hg, b⟩
  replace h := h.on b
  replace h2 := h2.on b
  replace hN := hN.on b
  replace hM := hM.on b
  rewrite [cR b kl] at k0 k1 k2
  replace kl := lK b kl
  replace cc := bK cc b
  clear b
  go_wp2_with fail
  refine (rof_N w3 1 (by decide)).mono ?_
  rintro e w4 ⟨Ao, no, co, rfl, ho, b⟩
  replace h := h.on b
  replace h2 := h2.on b
  replace hN := hN.on b
  replace hM := hM.on b
  replace hg := hg.on b
  rewrite [cR b kl] at k0 k1 k2
  replace kl := lK b kl
  replace cc := bK cc b
  clear b
  go_wp2_with fail
  refine (nsame_N r hg ho (Nat.le_trans lG (by omega)) l1 h6).mono ?_
  rintro e w5 ⟨rfl, b⟩
  replace h := h.on b
  replace h2 := h2.on b
  replace hN := hN.on b
  replace hM := hM.on b
  replace hg := hg.on b
  replace ho := ho.on b
  rewrite [cR b kl] at k0 k1 k2
  replace kl := lK b kl
  replace cc := bK cc b
  clear b
  go_wp2_with fail
  go_ret
  exact ⟨rfl, cc⟩

theorem rtright_any {w : World} {b : Bool} {A B : Option Addr} {n c m d : Nat} {l l2 : List Nat} (h : Lim w.heap.size w A n c l) (h2 : Lim w.heap.size w B m d l2) (hn : n ≤ 100) (hm : m ≤ 100) (r : Bool) (hr : okR b n l m l2 = r) :
    Calls Tryz.prog 40 #[.agg #[.bool b, .slice A n c, .slice B m d]] w (GotV w (.bool r)) := by
  unfold okR at hr
  cases h3 : okZ b n l with
  | false => rw [h3] at hr; simp at hr; subst hr; exact rtright_0 h h2 hn hm h3
  | true =>
    cases h4 : canon l2 with
    | false => rw [h3, h4] at hr; simp at hr; subst hr; exact rtright_1 h h2 hn hm h3 h4
    | true =>
      rw [h3, h4, Bool.true_and, Bool.true_and] at hr
      rcases Nat.eq_zero_or_pos m with h5 | h5
      · subst h5; simp at hr; subst hr; exact rtright_2 h h2 hn h3 h4
      · exact rtright_3 h h2 hn hm h3 h4 h5 r (by rw [← hr]; simp [h5])

theorem rtfew_0 {w : World} {b : Bool} {A B : Option Addr} {n c m d : Nat} {l l2 : List Nat} (h : Lim w.heap.size w A n c l) (h2 : Lim w.heap.size w B m d l2) {most : Int} (h3 : ¬ (n : Int) ≤ most) :
    Calls Tryz.prog 10 #[.agg #[.bool b, .slice A n c, .slice B m d], .int .i64 most] w (GotV w (.bool false)) := by
  have cc := Below.refl w.heap.size w
  go_enter Tryz.func10, Tryz.ntmps10
  go_wp2_with fail
  generalize hv_ : w.alloc (.cells #[.bool b, .slice A n c, .slice B m d] 27) = v1
  have bA : Below w.heap.size w v1 := by rw [← hv_]; exact ((Below.refl _ w).alloc (by simp) _)
  replace h := h.on bA
  replace h2 := h2.on bA
  replace cc := bK cc bA
  clear bA
  obtain ⟨k0, k1, k2⟩ : Cs3 v1 w.heap.size (.bool b) (.slice A n c) (.slice B m d) := by simp [Cs3, ← hv_, go_sem]
  have kl : w.heap.size < v1.heap.size := by simp [← hv_] <;> omega
  clear hv_
  go_wp2_with fail
  go_ret
  exact ⟨rfl, cc⟩

theorem rtfew_1 {w : World} {b : Bool} {A B : Option Addr} {n c m d : Nat} {l l2 : List Nat} (h : Lim w.heap.size w A n c l) (h2 : Lim w.heap.size w B m d l2) {most : Int} (h3 : (n : Int) ≤ most) (h4 : ¬ (m : Int) ≤ most) :
    Calls Tryz.prog 10 #[.agg #[.bool b, .slice A n c, .slice B m d], .int .i64 most] w (GotV w (.bool false)) := by
  have cc := Below.refl w.heap.size w
  go_enter Tryz.func10, Tryz.ntmps10
  go_wp2_with fail
  generalize hv_ : w.alloc (.cells #[.bool b, .slice A n c, .slice B m d] 27) = v1
  have bA : Below w.heap.size w v1 := by rw [← hv_]; exact ((Below.refl _ w).alloc (by simp) _)
  replace h := h.on bA
  replace h2 := h2.on bA
  replace cc := bK cc bA
  clear bA
  obtain ⟨k0, k1, k2⟩ : Cs3 v1 w.heap.size (.bool b) (.slice A n c) (.slice B m d) := by simp [Cs3, ← hv_, go_sem]
  have kl : w.heap.size < v1.heap.size := by simp [← hv_] <;> omega
  clear hv_
  go_wp2_with fail
  go_ret
  exact ⟨rfl, cc⟩

theorem rtfew_2 {w : World} {b : Bool} {A B : Option Addr} {n c m d : Nat} {l l2 : List Nat} (h : Lim w.heap.size w A n c l) (h2 : Lim w.heap.size w B m d l2) {most : Int} (h3 : (n : Int) ≤ most) (h4 : (m : Int) ≤ most) (h100 : most ≤ 100) (r : Bool) (h5 : okR b n l m l2 = r) :
    Calls Tryz.prog 10 #[.agg #[.bool b, .slice A n c, .slice B m d], .int .i64 most] w (GotV w (.bool r)) := by
  have cc := Below.refl w.heap.size w
  go_enter Tryz.func10, Tryz.ntmps10
  go_wp2_with fail
  generalize hv_ : w.alloc (.cells #[.bool b, .slice A n c, .slice B m d] 27) = v1
  have bA : Below w.heap.size w v1 := by rw [← hv_]; exact ((Below.refl _ w).alloc (by simp) _)
  replace h := h.on bA
  replace h2 := h2.on bA
  replace cc := bK cc bA
  clear bA
  obtain ⟨k0, k1, k2⟩ : Cs3 v1 w.heap.size (.bool b) (.slice A n c) (.slice B m d) := by simp [Cs3, ← hv_, go_sem]
  have kl : w.heap.size < v1.heap.size := by simp [← hv_] <;> omega
  clear hv_
  refine (rtright_any h h2 (by omega) (by omega) r h5).mono ?_
  rintro e w2 ⟨rfl, b⟩
  replace h := h.on b
  replace h2 := h2.on b
  rewrite [cR b kl] at k0 k1 k2
  replace kl := lK b kl
  replace cc := bK cc b
  clear b
  go_wp2_with fail
  go_ret
  exact ⟨rfl, cc⟩

theorem rtfew_any {w : World} {b : Bool} {A B : Option Addr} {n c m d : Nat} {l l2 : List Nat} (h : Lim w.heap.size w A n c l) (h2 : Lim w.heap.size w B m d l2) (most : Int) (h100 : most ≤ 100) (r : Bool) (hr : (decide ((n : Int) ≤ most) && (decide ((m : Int) ≤ most) && okR b n l m l2)) = r) :
    Calls Tryz.prog 10 #[.agg #[.bool b, .slice A n c, .slice B m d], .int .i64 most] w (GotV w (.bool r)) := by
  by_cases h3 : (n : Int) ≤ most
  · by_cases h4 : (m : Int) ≤ most
    · exact rtfew_2 h h2 h3 h4 h100 r (by rw [← hr]; simp [h3, h4])
    · have : r = false := by rw [← hr]; simp [h4]
      subst this; exact rtfew_1 h h2 h3 h4
  · have : r = false := by rw [← hr]; simp [h3]
    subst this; exact rtfew_0 h h2 h3

end Go.Proofs.YtanpklbconflmaaGreat

/-
  The contracts of the fifth reference: Frac.
-/
namespace Go.Proofs.YtanpklbconflmaaGreat
set_option maxRecDepth 100000
open Go.RowKit
set_option linter.unusedVariables false

/-- The parts of a struct that is no variable. -/
theorem field_N (b : Bool) (A : Option Addr) (n c : Nat) (w : World) : Sem.run Tryz.prog (Instr.field 25 (.agg #[.bool b, .slice A n c]) 1) w = .ok (.slice A n c) w := by rfl
theorem field_P (b : Bool) (A B : Option Addr) (n c m d : Nat) (w : World) : Sem.run Tryz.prog (Instr.field 27 (.agg #[.bool b, .slice A n c, .slice B m d]) 0) w = .ok (.agg #[.bool b, .slice A n c]) w := by rfl
theorem field_Q (b : Bool) (A B : Option Addr) (n c m d : Nat) (w : World) : Sem.run Tryz.prog (Instr.field 27 (.agg #[.bool b, .slice A n c, .slice B m d]) 1) w = .ok (.slice B m d) w := by rfl
attribute [local go_sem] field_N field_P field_Q

set_option maxHeartbeats 8000000 in
theorem rtfrac_N (w : World) {p q : Int} (h : I64 p) (h2 : I64 q) (hne : q ≠ 0) :
    Calls Tryz.prog 41 #[.int .i64 p, .int .i64 q] w (GotRt w (mkRat p q.natAbs)) := by
  have la := h.abs
  have lb := h2.abs
  have lC : (limbs p.natAbs).length ≤ 100 := Nat.le_trans (len_one la) (by omega)
  have lD : (limbs q.natAbs).length ≤ 100 := Nat.le_trans (len_one lb) (by omega)
  have hq : q.natAbs ≠ 0 := by omega
  have cc := Below.refl w.heap.size w
  go_enter Tryz.func41, Tryz.ntmps41
  go_wp2_with fail
  generalize hv_ : w.alloc (.cells #[.bool false, .slice none 0 0, .slice none 0 0] 27) = v1
  obtain ⟨f0, f1, f2⟩ : Fz3 v1 w.heap.size := by simp [Fz3, ← hv_, go_sem]
  have bA : Below w.heap.size w v1 := by rw [← hv_]; exact ((Below.refl _ w).alloc (by simp) _)
  replace cc := bK cc bA
  clear bA
  obtain ⟨g0, g1, g2⟩ : Cs3 v1 w.heap.size (.bool false) (.slice none 0 0) (.slice none 0 0) := by simp [Cs3, ← hv_, go_sem]
  have gl : w.heap.size < v1.heap.size := by simp [← hv_] <;> omega
  clear hv_
  refine (rzof_N _ p h).mono ?_
  rintro e w2 ⟨bs, As, ns, cs, rfl, s, b⟩
  rewrite [fR b gl] at f0 f1 f2
  rewrite [cR b gl] at g0 g1 g2
  replace gl := lK b gl
  replace cc := bK cc b
  clear b
  go_wp2_with fail
  refine (rzof_N _ q h2).mono ?_
  rintro e w3 ⟨bt, At, nt, ct, rfl, tz, b⟩
  have t := tz.1
  clear tz
  rewrite [fR b gl] at f0 f1 f2
  replace s := s.on b
  rewrite [cR b gl] at g0 g1 g2
  replace gl := lK b gl
  replace cc := bK cc b
  clear b
  go_wp2_with fail
  refine (rtmake_N s t hq lC lD).mono ?_
  rintro e w4 ⟨bz, Az, nz, cz, Bz, mz, dz, rfl, o, b⟩
  rewrite [fR b gl] at f0 f1 f2
  replace s := s.on b
  replace t := t.on b
  rewrite [cR b gl] at g0 g1 g2
  replace gl := lK b gl
  replace cc := bK cc b
  clear b
  have eb : BoxR w4 w.heap.size false none 0 0 none 0 0 := ⟨g0, g1, g2⟩
  have HZ := Lib.hid ((o.putR eb (.bool bz) (.slice Az nz cz) (.slice Bz mz dz)).alloc (.cells #[.bool bz, .slice Az nz cz, .slice Bz mz dz] 27))
  have HC := Lib.hid ((eb.put bz Az nz cz Bz mz dz).alloc (.cells #[.bool bz, .slice Az nz cz, .slice Bz mz dz] 27))
  have HB := Lib.hid ((below_putR cc (Nat.le_refl _) (.bool bz) (.slice Az nz cz) (.slice Bz mz dz)).alloc (by simp; omega) (.cells #[.bool bz, .slice Az nz cz, .slice Bz mz dz] 27))
  clear eb
  go_wp2_with fail
  obtain ⟨e0, e1, e2⟩ := HC.out
  refine bodyPost_ret (v := .agg #[.bool bz, .slice Az nz cz, .slice Bz mz dz]) (by simp only [results, Tryz.results41]; simp [go_sem, e0, e1, e2]) rfl ⟨_, _, _, _, _, _, _, rfl, HZ.out, HB.out⟩

end Go.Proofs.YtanpklbconflmaaGreat

/-
  Rationals over the fifth reference: which is greater, few limbs, the same.
-/
namespace Go.Proofs.YtanpklbconflmaaGreat
set_option maxRecDepth 100000
open Go.RowKit
set_option linter.unusedVariables false
set_option linter.unusedSimpArgs false

theorem q1 (a b : Rat) : a + b - b = a := by grind
theorem q2 (a : Rat) : a - ((0 : Int) : Rat) = a := by rw [show ((0 : Int) : Rat) = 0 from rfl]; grind
theorem q3 (a : Rat) : a * ((1 : Int) : Rat) = a := by rw [show ((1 : Int) : Rat) = 1 from rfl]; grind
theorem q4 (a b : Rat) (h : b ≠ 0) : a * b / b = a := by grind
theorem q5 (a b : Rat) : b + (a - b) = a := by grind
theorem q6 (a b c : Rat) : a + b + c = a + (b + c) := by grind
theorem q7 (a b c : Rat) : a * b * c = a * (b * c) := by grind
/-- Behind 'x, e := f(..)': a box, and what it holds; the box is new. -/
def LoneR (V U : World) (g : Nat) (b : Bool) (A : Option Addr) (n k : Nat) (B : Option Addr) (m d : Nat) (r : Rat) : Prop := BoxR U g b A n k B m d ∧ Rt U b A n k B m d r ∧ Below V.heap.size V U ∧ V.heap.size ≤ g
section
variable {V wz : World} {g : Nat} {b : Bool} {A B : Option Addr} {n k m d : Nat} {r : Rat}
theorem loneRA (h : Rt wz b A n k B m d r) (qq : Below V.heap.size V wz) (T : TypeId) : LoneR V (wz.alloc (.cells #[.bool b, .slice A n k, .slice B m d] T)) wz.heap.size b A n k B m d r := have o := loneA h qq T; ⟨o.1, o.2.1, o.2.2, qq.size⟩
theorem loneRB (o0 : wz.cell? ⟨g, 0, none⟩ = some (.bool false)) (o1 : wz.cell? ⟨g, 1, none⟩ = some (.slice none 0 0)) (o2 : wz.cell? ⟨g, 2, none⟩ = some (.slice none 0 0)) (h : Rt wz b A n k B m d r) (qq : Below V.heap.size V wz) (l : V.heap.size ≤ g) : LoneR V (putR wz g (.bool b) (.slice A n k) (.slice B m d)) g b A n k B m d r := have o := loneB o0 o1 o2 h qq l; ⟨o.1, o.2.1, o.2.2, l⟩
end
/-- Behind 'top := ..': a box of two cells, and what it holds. -/
def LoneZ (V U : World) (g : Nat) (b : Bool) (A : Option Addr) (n k : Nat) (z : Int) : Prop := Box U g b A n k ∧ Zn U b A n k z ∧ Below V.heap.size V U ∧ V.heap.size ≤ g
section
variable {V wz : World} {g : Nat} {b : Bool} {A : Option Addr} {n k : Nat} {z : Int}
theorem loneZA (h : Zn wz b A n k z) (qq : Below V.heap.size V wz) (T : TypeId) : LoneZ V (wz.alloc (.cells #[.bool b, .slice A n k] T)) wz.heap.size b A n k z := ⟨Box.new wz b A n k T, h.alloc _, qq.alloc qq.size _, qq.size⟩
theorem loneZB (o0 : wz.cell? ⟨g, 0, none⟩ = some (.bool false)) (o1 : wz.cell? ⟨g, 1, none⟩ = some (.slice none 0 0)) (h : Zn wz b A n k z) (qq : Below V.heap.size V wz) (l : V.heap.size ≤ g) : LoneZ V ((wz.setCell ⟨g, 0, none⟩ (.bool b)).setCell ⟨g, 1, none⟩ (.slice A n k)) g b A n k z := have o : Box wz g false none 0 0 := ⟨o0, o1⟩; ⟨o.put b A n k, h.put o _ _, below_put qq l _ _, l⟩
end
/-- Behind 'x, e := f(..)' that was refused: a new box of noughts. -/
def LoneO (V U : World) (g : Nat) : Prop := BoxR U g false none 0 0 none 0 0 ∧ Below V.heap.size V U ∧ V.heap.size ≤ g
section
variable {V wz : World} {g : Nat}
end
/-- Behind 'x, y := f(..), g(..)': two boxes, and what they hold. -/
def BothR (V U : World) (gx gy : Nat) (bx : Bool) (Ax : Option Addr) (nx kx : Nat) (Cx : Option Addr) (mx dx : Nat) (bY : Bool) (Ay : Option Addr) (ny ky : Nat) (Cy : Option Addr) (my dy : Nat) (rx ry : Rat) : Prop :=
  BoxR U gx bx Ax nx kx Cx mx dx ∧ BoxR U gy bY Ay ny ky Cy my dy ∧ Rt U bx Ax nx kx Cx mx dx rx ∧ Rt U bY Ay ny ky Cy my dy ry ∧ Below V.heap.size V U ∧ V.heap.size ≤ gx ∧ V.heap.size ≤ gy ∧ gx ≠ gy
section
variable {V wz : World} {gx gy : Nat} {bx bY : Bool} {Ax Ay Cx Cy : Option Addr} {nx kx ny ky mx dx my dy : Nat} {rx ry : Rat}
theorem pairRA (hx : Rt wz bx Ax nx kx Cx mx dx rx) (hy : Rt wz bY Ay ny ky Cy my dy ry) (qq : Below V.heap.size V wz) (T : TypeId) : BothR V ((wz.alloc (.cells #[.bool bx, .slice Ax nx kx, .slice Cx mx dx] T)).alloc (.cells #[.bool bY, .slice Ay ny ky, .slice Cy my dy] T)) wz.heap.size (wz.heap.size + 1) bx Ax nx kx Cx mx dx bY Ay ny ky Cy my dy rx ry :=
  ⟨(BoxR.new wz bx Ax nx kx Cx mx dx T).alloc _, by have := BoxR.new (wz.alloc (.cells #[.bool bx, .slice Ax nx kx, .slice Cx mx dx] T)) bY Ay ny ky Cy my dy T; simpa using this, (hx.alloc _).alloc _, (hy.alloc _).alloc _, (qq.alloc qq.size _).alloc (by have := qq.size; simp; omega) _, qq.size, Nat.le_succ_of_le qq.size, by omega⟩
theorem pairRA' (hx : Rt wz bx Ax nx kx Cx mx dx rx) (hy : Rt wz bY Ay ny ky Cy my dy ry) (qq : Below V.heap.size V wz) (T : TypeId) : BothR V ((wz.alloc (.cells #[.bool bY, .slice Ay ny ky, .slice Cy my dy] T)).alloc (.cells #[.bool bx, .slice Ax nx kx, .slice Cx mx dx] T)) (wz.heap.size + 1) wz.heap.size bx Ax nx kx Cx mx dx bY Ay ny ky Cy my dy rx ry :=
  ⟨by have := BoxR.new (wz.alloc (.cells #[.bool bY, .slice Ay ny ky, .slice Cy my dy] T)) bx Ax nx kx Cx mx dx T; simpa using this, (BoxR.new wz bY Ay ny ky Cy my dy T).alloc _, (hx.alloc _).alloc _, (hy.alloc _).alloc _, (qq.alloc qq.size _).alloc (by have := qq.size; simp; omega) _, Nat.le_succ_of_le qq.size, qq.size, by omega⟩
theorem pairRB (c0 : wz.cell? ⟨gx, 0, none⟩ = some (.bool false)) (c1 : wz.cell? ⟨gx, 1, none⟩ = some (.slice none 0 0)) (c2 : wz.cell? ⟨gx, 2, none⟩ = some (.slice none 0 0)) (hx : Rt wz bx Ax nx kx Cx mx dx rx) (hy : Rt wz bY Ay ny ky Cy my dy ry) (qq : Below V.heap.size V wz) (lx : V.heap.size ≤ gx) (T : TypeId) :
    BothR V ((putR wz gx (.bool bx) (.slice Ax nx kx) (.slice Cx mx dx)).alloc (.cells #[.bool bY, .slice Ay ny ky, .slice Cy my dy] T)) gx wz.heap.size bx Ax nx kx Cx mx dx bY Ay ny ky Cy my dy rx ry :=
  have B : BoxR wz gx false none 0 0 none 0 0 := ⟨c0, c1, c2⟩
  ⟨(B.put bx Ax nx kx Cx mx dx).alloc _, by have := BoxR.new (putR wz gx (.bool bx) (.slice Ax nx kx) (.slice Cx mx dx)) bY Ay ny ky Cy my dy T; simpa using this, (hx.putR B _ _ _).alloc _, (hy.putR B _ _ _).alloc _, (below_putR qq lx _ _ _).alloc (by have := qq.size; simp; omega) _, lx, qq.size, by have := cell_lt c0; simp only at this; omega⟩
theorem pairRB' (c0 : wz.cell? ⟨gy, 0, none⟩ = some (.bool false)) (c1 : wz.cell? ⟨gy, 1, none⟩ = some (.slice none 0 0)) (c2 : wz.cell? ⟨gy, 2, none⟩ = some (.slice none 0 0)) (hx : Rt wz bx Ax nx kx Cx mx dx rx) (hy : Rt wz bY Ay ny ky Cy my dy ry) (qq : Below V.heap.size V wz) (ly : V.heap.size ≤ gy) (T : TypeId) :
    BothR V ((putR wz gy (.bool bY) (.slice Ay ny ky) (.slice Cy my dy)).alloc (.cells #[.bool bx, .slice Ax nx kx, .slice Cx mx dx] T)) wz.heap.size gy bx Ax nx kx Cx mx dx bY Ay ny ky Cy my dy rx ry :=
  have B : BoxR wz gy false none 0 0 none 0 0 := ⟨c0, c1, c2⟩
  ⟨by have := BoxR.new (putR wz gy (.bool bY) (.slice Ay ny ky) (.slice Cy my dy)) bx Ax nx kx Cx mx dx T; simpa using this, (B.put bY Ay ny ky Cy my dy).alloc _, (hx.putR B _ _ _).alloc _, (hy.putR B _ _ _).alloc _, (below_putR qq ly _ _ _).alloc (by have := qq.size; simp; omega) _, qq.size, ly, by have := cell_lt c0; simp only at this; omega⟩
theorem pairRC (c0 : wz.cell? ⟨gx, 0, none⟩ = some (.bool false)) (c1 : wz.cell? ⟨gx, 1, none⟩ = some (.slice none 0 0)) (c2 : wz.cell? ⟨gx, 2, none⟩ = some (.slice none 0 0)) (d0 : wz.cell? ⟨gy, 0, none⟩ = some (.bool false)) (d1 : wz.cell? ⟨gy, 1, none⟩ = some (.slice none 0 0)) (d2 : wz.cell? ⟨gy, 2, none⟩ = some (.slice none 0 0)) (hx : Rt wz bx Ax nx kx Cx mx dx rx) (hy : Rt wz bY Ay ny ky Cy my dy ry) (qq : Below V.heap.size V wz) (lx : V.heap.size ≤ gx) (ly : V.heap.size ≤ gy) (hne : gx ≠ gy) :
    BothR V (putR (putR wz gx (.bool bx) (.slice Ax nx kx) (.slice Cx mx dx)) gy (.bool bY) (.slice Ay ny ky) (.slice Cy my dy)) gx gy bx Ax nx kx Cx mx dx bY Ay ny ky Cy my dy rx ry :=
  have B : BoxR wz gx false none 0 0 none 0 0 := ⟨c0, c1, c2⟩
  have D : BoxR (putR wz gx (.bool bx) (.slice Ax nx kx) (.slice Cx mx dx)) gy false none 0 0 none 0 0 := BoxR.other ⟨d0, d1, d2⟩ (Ne.symm hne)
  ⟨(B.put bx Ax nx kx Cx mx dx).other hne, D.put bY Ay ny ky Cy my dy, (hx.putR B _ _ _).putR D _ _ _, (hy.putR B _ _ _).putR D _ _ _, below_putR (below_putR qq lx _ _ _) ly _ _ _, lx, ly, hne⟩
end

theorem num_nil (w : World) (A : Option Addr) (c : Nat) : Num w A 0 c 0 := by unfold Num; rw [limbs_zero]; exact Lim.nil _ _ _ _
theorem len_nil : (limbs 0).length ≤ 300 := by rw [limbs_zero]; simp
theorem okR_rt {w : World} {b : Bool} {A B : Option Addr} {n c m d : Nat} {r : Rat} (h : Rt w b A n c B m d r) : okR b n (limbs r.num.natAbs) m (limbs r.den) = true := by
  unfold okR
  have h1 : 0 < m := h.2.some_len r.den_nz
  have h2 := r.reduced
  unfold Nat.Coprime at h2
  simp only [h.1.ok, limbs_canon, val_limbs, Bool.true_and, decide_eq_true h1]
  exact decide_eq_true h2
theorem num_one {x : Nat} (hx : x < B64) (h0 : x ≠ 0) (w : World) : Num (w.alloc (.cells #[.int .u64 (x : Int)] 53)) (some ⟨w.heap.size, 0, none⟩) 1 1 x := by
  have h := (lim_one hx w).num (by simp [canon]; omega)
  have hv : val [x] = x := by simp [val_cons, val_nil]
  rwa [hv] at h

theorem rtright_N {w : World} {b : Bool} {A B : Option Addr} {n c m d : Nat} {r : Rat} (h : Rt w b A n c B m d r) (s : Sz r 30) : Calls Tryz.prog 40 #[.agg #[.bool b, .slice A n c, .slice B m d]] w (GotV w (.bool true)) := rtright_any h.1.1 h.2 (by rw [h.1.1.len]; exact Nat.le_trans s.1 (by omega)) (by rw [h.2.len]; exact Nat.le_trans s.2 (by omega)) true (okR_rt h)

theorem rtcmp_v {w : World} {b0 b1 : Bool} {A0 B0 A1 B1 : Option Addr} {n0 c0 m0 d0 n1 c1 m1 d1 : Nat} {x0 x1 : Rat} (r : Int) (h0 : Rt w b0 A0 n0 c0 B0 m0 d0 x0) (s0 : Sz x0 100) (h1 : Rt w b1 A1 n1 c1 B1 m1 d1 x1) (s1 : Sz x1 100) (h : cmpQ x0 x1 = r) : Calls Tryz.prog 39 #[.agg #[.bool b0, .slice A0 n0 c0, .slice B0 m0 d0], .agg #[.bool b1, .slice A1 n1 c1, .slice B1 m1 d1]] w (GotV w (.int .i64 r)) := by
  subst h
  exact rtcmp_N h0 s0 h1 s1

theorem rtsame_none (w : World) : Calls Tryz.prog 44 #[.agg #[.bool false, .slice none 0 0, .slice none 0 0], .agg #[.bool false, .slice none 0 0, .slice none 0 0]] w (GotV w (.bool true)) := by
  have h : Rw w false none 0 0 none 0 0 0 0 := ⟨⟨num_zero w, rfl⟩, num_zero w⟩
  have l : (limbs 0).length ≤ 1000 := Nat.le_trans len_nil (by omega)
  exact rtsame_any h h l l l l true (by simp)

/-- A rational that is right and of few limbs. -/
theorem few_rt {w : World} {b : Bool} {A B : Option Addr} {n c m d : Nat} {l l2 : List Nat} (k : Nat) (h : Lim w.heap.size w A n c l) (h2 : Lim w.heap.size w B m d l2) (hr : (decide ((n : Int) ≤ (k : Int)) && (decide ((m : Int) ≤ (k : Int)) && okR b n l m l2)) = true) : ∃ r : Rat, Rt w b A n c B m d r ∧ Sz r k := by
  rw [Bool.and_eq_true, Bool.and_eq_true] at hr
  obtain ⟨e1, e2, e3⟩ := hr
  unfold okR at e3
  rw [Bool.and_eq_true, Bool.and_eq_true, Bool.and_eq_true] at e3
  obtain ⟨e4, e5, e6, e7⟩ := e3
  have hz := okZ_zn h e4
  have hN := h2.num e5
  have h0 := num_ne hN (of_decide_eq_true e6)
  have hg : Nat.gcd (sgn b (val l)).natAbs (val l2) = 1 := by rw [sgn_abs]; exact of_decide_eq_true e7
  obtain ⟨r, r1, r2⟩ := rat_of _ _ h0 hg
  refine ⟨r, ⟨by rw [r1]; exact hz, by rw [r2]; exact hN⟩, ?_, ?_⟩
  · rw [r1, ← hz.1.len]; have := of_decide_eq_true e1; omega
  · rw [r2, ← hN.len]; have := of_decide_eq_true e2; omega
theorem rt_zero {w : World} {b : Bool} {A B : Option Addr} {n c m d : Nat} {x : Rat} (h : Rt w b A n c B m d x) (hx : x.num = 0) : n = 0 := by
  have := h.1.1.len
  rw [hx] at this
  rw [this, show (0 : Int).natAbs = 0 from rfl, limbs_zero]; rfl
theorem rat_zero {x : Rat} (h : x.num = 0) : x = 0 := Rat.num_eq_zero.1 h

end Go.Proofs.YtanpklbconflmaaGreat

/-
  Rationals on a grid: rounded down, up, to the nearest; a multiple's number.
-/
namespace Go.Proofs.YtanpklbconflmaaGreat
set_option linter.unusedSimpArgs false

/-- To the nearest whole number, of two as near the even one. -/
def nr (A : Rat) : Int := if A - (A.floor : Rat) < ((-(-A).floor : Int) : Rat) - A ∨ (A - (A.floor : Rat) = ((-(-A).floor : Int) : Rat) - A ∧ A.floor % 2 = 0) then A.floor else -(-A).floor
theorem fl_eq {A : Rat} {n : Int} (h1 : (n : Rat) ≤ A) (h2 : A < (n : Rat) + 1) : A.floor = n := by
  have a1 := Rat.le_floor_iff.2 h1
  have a2 : A.floor < n + 1 := Rat.floor_lt_iff.2 (by rw [Rat.intCast_add]; exact h2)
  omega
/-- n is at most half a step away, and even, if it is just that. -/
def NrHalf (A : Rat) (n : Int) : Prop := (n : Rat) - A + ((n : Rat) - A) ≤ 1 ∧ A - (n : Rat) + (A - (n : Rat)) ≤ 1 ∧ (((n : Rat) - A + ((n : Rat) - A) = 1 ∨ A - (n : Rat) + (A - (n : Rat)) = 1) → n % 2 = 0)
/-- 2 to the power of k. -/
def dw (k : Nat) : Rat := ((2 ^ k : Nat) : Rat)
theorem dw_pos (k : Nat) : 0 < dw k := by
  unfold dw
  have : 0 < 2 ^ k := Nat.pow_pos (by omega)
  exact Rat.natCast_pos.2 this
theorem dw_add (k n : Nat) : dw (k + n) = dw k * dw n := by
  unfold dw
  rw [Nat.pow_add, Rat.natCast_mul]
def flo (a : Rat) (k : Nat) : Int := (a * dw k).floor
def cei (a : Rat) (k : Nat) : Int := -flo (-a) k
def nea (a : Rat) (k : Nat) : Int := nr (a * dw k)
def bak (n : Int) (k : Nat) : Rat := mkRat n (2 ^ k)
theorem bak_mul (n : Int) (k : Nat) : bak n k * dw k = (n : Rat) := by
  unfold bak dw
  have h : (2 ^ k : Nat) ≠ 0 := Nat.ne_of_gt (Nat.pow_pos (by omega))
  have h2 : ((2 ^ k : Nat) : Rat) = mkRat ((2 ^ k : Nat) : Int) 1 := by rw [Rat.mkRat_one]; rfl
  have h3 : (n : Rat) = mkRat n 1 := by rw [Rat.mkRat_one]
  rw [h2, h3, Rat.mkRat_mul_mkRat, Rat.mkRat_eq_iff (by omega) (by omega)]
  simp
theorem dw_cancel {a b : Rat} {k : Nat} (h : a * dw k = b * dw k) : a = b := by
  have := dw_pos k
  have h0 : dw k ≠ 0 := by grind
  grind
theorem floor_mk (p : Int) (q : Nat) (hq : q ≠ 0) : (mkRat p q).floor = p / (q : Int) := by
  have h0 : (0 : Int) < q := by omega
  have hm : mkRat p q * (q : Rat) = (p : Rat) := by
    have h2 : ((q : Nat) : Rat) = mkRat ((q : Nat) : Int) 1 := by rw [Rat.mkRat_one]; rfl
    have h3 : (p : Rat) = mkRat p 1 := by rw [Rat.mkRat_one]
    rw [h2, h3, Rat.mkRat_mul_mkRat, Rat.mkRat_eq_iff (by omega) (by omega)]
    simp
  have hqp : (0 : Rat) < (q : Rat) := Rat.natCast_pos.2 (by omega)
  have e : ((q : Int) : Rat) = (q : Rat) := rfl
  apply fl_eq
  · have h1 : p / (q : Int) * (q : Int) ≤ p := Int.ediv_mul_le _ (by omega)
    have h2 : ((p / (q : Int) * (q : Int) : Int) : Rat) ≤ (p : Rat) := Rat.intCast_le_intCast.2 h1
    rw [Rat.intCast_mul, e, ← hm] at h2
    exact Rat.le_of_mul_le_mul_right h2 hqp
  · have h1 : p < (p / (q : Int) + 1) * (q : Int) := Int.lt_ediv_add_one_mul_self _ h0
    have h2 : (p : Rat) < (((p / (q : Int) + 1) * (q : Int) : Int) : Rat) := Rat.intCast_lt_intCast.2 h1
    rw [Rat.intCast_mul, Rat.intCast_add, e, ← hm] at h2
    exact Rat.lt_of_mul_lt_mul_right h2 (Rat.le_of_lt hqp)
theorem flo_ediv (a : Rat) (k : Nat) : flo a k = a.num * ((2 ^ k : Nat) : Int) / (a.den : Int) := by
  unfold flo dw
  have h2 : ((2 ^ k : Nat) : Rat) = mkRat ((2 ^ k : Nat) : Int) 1 := by rw [Rat.mkRat_one]; rfl
  have h3 : a * mkRat ((2 ^ k : Nat) : Int) 1 = mkRat (a.num * ((2 ^ k : Nat) : Int)) a.den := by
    conv => lhs; rw [← Rat.mkRat_self a]
    rw [Rat.mkRat_mul_mkRat, Nat.mul_one]
  rw [h2, h3, floor_mk _ _ a.den_nz]
/-- As the document's answer reckons it: of the size, and the side put on. -/
theorem flo_pos (a : Rat) (k : Nat) (h : ¬ a.num < 0) : flo a k = ((a.num.natAbs * 2 ^ k / a.den : Nat) : Int) := by
  rw [flo_ediv]
  have e : a.num = (a.num.natAbs : Int) := by omega
  conv => lhs; rw [e]
  rw [← Int.natCast_mul, ← Int.natCast_ediv]
theorem flo_neg (a : Rat) (k : Nat) (h : a.num < 0) : flo a k = -((a.num.natAbs * 2 ^ k / a.den + (if a.num.natAbs * 2 ^ k % a.den = 0 then 0 else 1) : Nat) : Int) := by
  rw [flo_ediv]
  have e : a.num = -(a.num.natAbs : Int) := by omega
  conv => lhs; rw [e]
  have hd : 0 < a.den := Nat.pos_of_ne_zero a.den_nz
  generalize a.den = d at hd ⊢
  rw [Int.neg_mul, ← Int.natCast_mul]
  generalize a.num.natAbs * 2 ^ k = x
  have h1 := Nat.div_add_mod x d
  have h2 := Nat.mod_lt x hd
  generalize x / d = q at h1 ⊢
  generalize x % d = r at h1 h2 ⊢
  subst h1
  split
  · next h0 =>
    subst h0
    simp only [Nat.add_zero]
    rw [Int.natCast_mul, show -((d : Int) * (q : Int)) = (d : Int) * (-(q : Int)) by rw [Int.mul_neg], Int.mul_ediv_cancel_left _ (by omega)]
  · next h0 =>
    have : -((d * q + r : Nat) : Int) = ((d : Int) - (r : Int)) + (d : Int) * (-((q + 1 : Nat) : Int)) := by
      simp only [Int.natCast_add, Int.natCast_mul, Int.mul_neg, Int.mul_add]; omega
    rw [this, Int.add_mul_ediv_left _ _ (by omega), Int.ediv_eq_zero_of_lt (by omega) (by omega)]
    omega
theorem bak_one (k : Nat) : bak 1 k * dw k = 1 := by rw [bak_mul]; rfl
def absQ (x : Rat) : Rat := if x < 0 then -x else x
theorem flo_mono {a b : Rat} (k : Nat) (h : a ≤ b) : flo a k ≤ flo b k := Rat.floor_monotone (Rat.mul_le_mul_of_nonneg_right h (Rat.le_of_lt (dw_pos k)))
theorem cei_mono {a b : Rat} (k : Nat) (h : a ≤ b) : cei a k ≤ cei b k := by
  have : flo (-b) k ≤ flo (-a) k := flo_mono k (by grind)
  unfold cei; omega
theorem flo_bak (n : Int) (k : Nat) : flo (bak n k) k = n := by unfold flo; rw [bak_mul, Rat.floor_intCast]
theorem bak_neg (n : Int) (k : Nat) : -bak n k = bak (-n) k := by
  apply dw_cancel (k := k)
  rw [Rat.neg_mul, bak_mul, bak_mul, Rat.intCast_neg]
theorem cei_bak (n : Int) (k : Nat) : cei (bak n k) k = n := by unfold cei; rw [bak_neg, flo_bak]; omega
end Go.Proofs.YtanpklbconflmaaGreat

/-
  The contracts of the sixth reference: Back, Floor, Ceil.
-/
namespace Go.Proofs.YtanpklbconflmaaGreat
set_option maxRecDepth 100000
set_option maxHeartbeats 8000000
open Go.RowKit
set_option linter.unusedVariables false
set_option linter.unusedSimpArgs false

/-- A call has answered an integer and a code. -/
def GotZp (w : World) (z : Int) (r : Int) (e : Ending) (w' : World) : Prop := ∃ b A n c, e = .returned (.tuple #[.agg #[.bool b, .slice A n c], .int .i64 r]) ∧ Zn w' b A n c z ∧ Below w.heap.size w w'
theorem len_pow2 {k : Nat} (h : k ≤ 500) : (limbs (2 ^ k)).length ≤ 8 := by
  refine Nat.le_trans (limbs_length_le (k := k / 64 + 1) ?_) (by omega)
  rw [show B64 = 2 ^ 64 from rfl, ← Nat.pow_mul]
  exact Nat.pow_lt_pow_right (by omega) (by omega)
theorem to_nat {j : Int} (h : 0 ≤ j) : ((j.toNat : Nat) : Int) = j := Int.toNat_of_nonneg h
theorem rback_N {w : World} {b : Bool} {A : Option Addr} {n c : Nat} {z : Int} (ha : Zn w b A n c z) (hz : (limbs z.natAbs).length ≤ 80) {j : Int} (h0 : 0 ≤ j) (h1 : j ≤ 500) :
    Calls Tryz.prog 37 #[.agg #[.bool b, .slice A n c], .int .i64 j] w (GotRp w (bak z j.toNat) 0) := by
  have t1 : decide (j < 0) = false := decide_eq_false (by omega)
  have t2 : decide (2000 < j) = false := decide_eq_false (by omega)
  have je := to_nat h0
  have jl : j.toNat ≤ 500 := by omega
  obtain ⟨k, hk⟩ : ∃ k, j.toNat = k := ⟨_, rfl⟩
  rw [hk] at je jl ⊢
  have lk := len_pow2 jl
  have CS : ∀ {W : World} {A : Option Addr} {m c x : Nat}, Num W A m c x → (limbs x).length ≤ 1000 → Calls Tryz.prog 68 #[.slice A m c, .int .i64 j] W (GotP W (x * 2 ^ k) 0) := fun ha hx => by rw [← je]; exact rshl_N ha hx (by omega)
  clear hk
  have hp : 2 ^ k ≠ 0 := Nat.ne_of_gt (Nat.pow_pos (by omega))
  have l1 : (limbs 1).length ≤ 1000 := Nat.le_trans (len_one (by decide)) (by omega)
  clear je h0 h1
  have cc := Below.refl w.heap.size w
  go_enter Tryz.func37, Tryz.ntmps37
  go_wp2_with fail
  generalize hv_ : (w.alloc (.cells #[.bool b, .slice A n c] 25)).alloc (.cells #[.bool false, .slice none 0 0, .slice none 0 0] 27) = v1
  obtain ⟨f0, f1, f2⟩ : Fz3 v1 (w.heap.size + 1) := by simp [Fz3, ← hv_, go_sem]
  have bA : Below w.heap.size w v1 := by rw [← hv_]; exact (((Below.refl _ w).alloc (by simp) _).alloc (by simp) _)
  replace ha := ha.on bA
  replace cc := bK cc bA
  clear bA
  obtain ⟨k0, k1⟩ : Cs2 v1 w.heap.size (.bool b) (.slice A n c) := by simp [Cs2, ← hv_, go_sem]
  have kl : w.heap.size < v1.heap.size := by simp [← hv_] <;> omega
  obtain ⟨g0, g1, g2⟩ : Cs3 v1 (w.heap.size + 1) (.bool false) (.slice none 0 0) (.slice none 0 0) := by simp [Cs3, ← hv_, go_sem]
  have gl : w.heap.size + 1 < v1.heap.size := by simp [← hv_] <;> omega
  clear hv_
  refine (rof_N v1 1 (by decide)).mono ?_
  rintro e w2 ⟨Ao, no, co, rfl, o, b⟩
  rewrite [fR b gl] at f0 f1 f2
  replace ha := ha.on b
  rewrite [cR b kl] at k0 k1
  replace kl := lK b kl
  rewrite [cR b gl] at g0 g1 g2
  replace gl := lK b gl
  replace cc := bK cc b
  clear b
  go_wp2_with fail
  refine (CS o l1).mono ?_
  rintro e w3 ⟨Aq, nq, cq, rfl, q, b⟩
  rw [Nat.one_mul] at q
  rewrite [fR b gl] at f0 f1 f2
  replace ha := ha.on b
  replace o := o.on b
  rewrite [cR b kl] at k0 k1
  replace kl := lK b kl
  rewrite [cR b gl] at g0 g1 g2
  replace gl := lK b gl
  replace cc := bK cc b
  clear b
  go_wp2_with fail
  refine (rtmake_N ha q hp (by omega) (by omega)).mono ?_
  rintro e w4 ⟨bm, Am, nm, cm, Bm, mm, dm, rfl, hm, b⟩
  rewrite [fR b gl] at f0 f1 f2
  replace ha := ha.on b
  replace o := o.on b
  replace q := q.on b
  rewrite [cR b kl] at k0 k1
  replace kl := lK b kl
  rewrite [cR b gl] at g0 g1 g2
  replace gl := lK b gl
  replace cc := bK cc b
  clear b
  have hn : Rt w4 bm Am nm cm Bm mm dm (bak z k) := hm
  have eb : BoxR w4 (w.heap.size + 1) false none 0 0 none 0 0 := ⟨g0, g1, g2⟩
  have HZ : Hid (Rt (putR w4 (w.heap.size + 1) (.bool bm) (.slice Am nm cm) (.slice Bm mm dm)) bm Am nm cm Bm mm dm (bak z k)) := Lib.hid (Rt.putR hn eb _ _ _)
  clear hn
  go_wp2_with fail
  refine bodyPost_ret (v := .tuple #[.agg #[.bool bm, .slice Am nm cm, .slice Bm mm dm], .int .i64 0]) (by simp [results, Tryz.results37, go_sem, g0, g1, g2]) rfl ⟨_, _, _, _, _, _, _, rfl, HZ.out, below_putR cc (by omega) _ _ _⟩

theorem rfloor_pos {w : World} {b0 : Bool} {A0 B0 : Option Addr} {n0 c0 m0 d0 : Nat} {x0 : Rat} (hx : Rt w b0 A0 n0 c0 B0 m0 d0 x0) (s0 : Sz x0 30) {j : Int} (h0 : 0 ≤ j) (h1 : j ≤ 500) (hs : ¬ x0.num < 0) :
    Calls Tryz.prog 55 #[.agg #[.bool b0, .slice A0 n0 c0, .slice B0 m0 d0], .int .i64 j] w (GotZp w (flo x0 j.toNat) 0) := by
  have t1 : decide (j < 0) = false := decide_eq_false (by omega)
  have t2 : decide (2000 < j) = false := decide_eq_false (by omega)
  have je := to_nat h0
  have jl : j.toNat ≤ 500 := by omega
  obtain ⟨k, hk⟩ : ∃ k, j.toNat = k := ⟨_, rfl⟩
  rw [hk] at je jl ⊢
  have lk := len_pow2 jl
  have CS : ∀ {W : World} {A : Option Addr} {m c x : Nat}, Num W A m c x → (limbs x).length ≤ 1000 → Calls Tryz.prog 68 #[.slice A m c, .int .i64 j] W (GotP W (x * 2 ^ k) 0) := fun ha hx => by rw [← je]; exact rshl_N ha hx (by omega)
  clear hk
  have p0 := hx.1.1
  have q0 := hx.2
  have hb0 : b0 = false := by rw [hx.1.2]; exact decide_eq_false hs
  subst hb0
  have lp := s0.1
  have lq := s0.2
  have hq0 := x0.den_nz
  have lu : (limbs (x0.num.natAbs * 2 ^ k)).length ≤ 38 := limbs_length_mul lp lk
  have ld : (limbs (x0.num.natAbs * 2 ^ k / x0.den)).length ≤ 38 := Nat.le_trans (limbs_length_mono (Nat.div_le_self _ _)) lu
  obtain ⟨u, hU⟩ : ∃ u, x0.num.natAbs * 2 ^ k = u := ⟨_, rfl⟩
  have HF : Hid (flo x0 k = ((u / x0.den : Nat) : Int)) := Lib.hid (by rw [← hU]; exact flo_pos x0 k hs)
  rw [hU] at lu ld
  have CU : ∀ {W : World} {A : Option Addr} {m c : Nat}, Num W A m c x0.num.natAbs → Calls Tryz.prog 68 #[.slice A m c, .int .i64 j] W (GotP W u 0) := fun ha => by rw [← hU]; exact CS ha (by omega)
  clear hU CS hs je h0 h1
  have cc := Below.refl w.heap.size w
  go_enter Tryz.func55, Tryz.ntmps55
  go_wp2_with fail
  generalize hv_ : (w.alloc (.cells #[.bool false, .slice A0 n0 c0, .slice B0 m0 d0] 27)).alloc (.cells #[.bool false, .slice none 0 0] 25) = v1
  obtain ⟨f0, f1⟩ : Fz2 v1 (w.heap.size + 1) := by simp [Fz2, ← hv_, go_sem]
  have bA : Below w.heap.size w v1 := by rw [← hv_]; exact (((Below.refl _ w).alloc (by simp) _).alloc (by simp) _)
  replace p0 := p0.on bA
  replace q0 := q0.on bA
  replace cc := bK cc bA
  clear bA
  obtain ⟨k0, k1, k2⟩ : Cs3 v1 w.heap.size (.bool false) (.slice A0 n0 c0) (.slice B0 m0 d0) := by simp [Cs3, ← hv_, go_sem]
  have kl : w.heap.size < v1.heap.size := by simp [← hv_] <;> omega
  obtain ⟨g0, g1⟩ : Cs2 v1 (w.heap.size + 1) (.bool false) (.slice none 0 0) := by simp [Cs2, ← hv_, go_sem]
  have gl : w.heap.size + 1 < v1.heap.size := by simp [← hv_] <;> omega
  clear hv_
  refine (CU p0).mono ?_
  rintro e w2 ⟨Av, nv, cv, rfl, v, b⟩
  rewrite [fR b gl] at f0 f1
  replace p0 := p0.on b
  replace q0 := q0.on b
  rewrite [cR b kl] at k0 k1 k2
  replace kl := lK b kl
  rewrite [cR b gl] at g0 g1
  replace gl := lK b gl
  replace cc := bK cc b
  clear b
  go_wp2_with fail
  refine (rdiv_N v q0 (by omega) (by omega) hq0).mono ?_
  rintro e w3 ⟨Aq, nq, cq, Ar, nr_, cr, rfl, dq, dr, b⟩
  rewrite [fR b gl] at f0 f1
  replace p0 := p0.on b
  replace q0 := q0.on b
  replace v := v.on b
  rewrite [cR b kl] at k0 k1 k2
  replace kl := lK b kl
  rewrite [cR b gl] at g0 g1
  replace gl := lK b gl
  replace cc := bK cc b
  clear b
  have hn : Zn w3 false Aq nq cq (flo x0 k) := by rw [HF.out]; exact zn_nat dq
  have eb : Box w3 (w.heap.size + 1) false none 0 0 := ⟨g0, g1⟩
  have HZ : Hid (Zn ((w3.setCell ⟨w.heap.size + 1, 0, none⟩ (.bool false)).setCell ⟨w.heap.size + 1, 1, none⟩ (.slice Aq nq cq)) false Aq nq cq (flo x0 k)) := Lib.hid (hn.put eb _ _)
  clear hn
  go_wp2_with fail
  refine bodyPost_ret (v := .tuple #[.agg #[.bool false, .slice Aq nq cq], .int .i64 0]) (by simp [results, Tryz.results55, go_sem, g0, g1]) rfl ⟨_, _, _, _, rfl, HZ.out, below_put cc (by omega) _ _⟩

theorem rfloor_neg0 {w : World} {b0 : Bool} {A0 B0 : Option Addr} {n0 c0 m0 d0 : Nat} {x0 : Rat} (hx : Rt w b0 A0 n0 c0 B0 m0 d0 x0) (s0 : Sz x0 30) {j : Int} (h0 : 0 ≤ j) (h1 : j ≤ 500) (hs : x0.num < 0) (hr : x0.num.natAbs * 2 ^ j.toNat % x0.den = 0) :
    Calls Tryz.prog 55 #[.agg #[.bool b0, .slice A0 n0 c0, .slice B0 m0 d0], .int .i64 j] w (GotZp w (flo x0 j.toNat) 0) := by
  have t1 : decide (j < 0) = false := decide_eq_false (by omega)
  have t2 : decide (2000 < j) = false := decide_eq_false (by omega)
  have je := to_nat h0
  have jl : j.toNat ≤ 500 := by omega
  obtain ⟨k, hk⟩ : ∃ k, j.toNat = k := ⟨_, rfl⟩
  rw [hk] at je jl hr ⊢
  have lk := len_pow2 jl
  have CS : ∀ {W : World} {A : Option Addr} {m c x : Nat}, Num W A m c x → (limbs x).length ≤ 1000 → Calls Tryz.prog 68 #[.slice A m c, .int .i64 j] W (GotP W (x * 2 ^ k) 0) := fun ha hx => by rw [← je]; exact rshl_N ha hx (by omega)
  clear hk
  have p0 := hx.1.1
  have q0 := hx.2
  have hb0 : b0 = true := by rw [hx.1.2]; exact decide_eq_true hs
  subst hb0
  have lp := s0.1
  have lq := s0.2
  have hq0 := x0.den_nz
  have lu : (limbs (x0.num.natAbs * 2 ^ k)).length ≤ 38 := limbs_length_mul lp lk
  have ld : (limbs (x0.num.natAbs * 2 ^ k / x0.den)).length ≤ 38 := Nat.le_trans (limbs_length_mono (Nat.div_le_self _ _)) lu
  obtain ⟨u, hU⟩ : ∃ u, x0.num.natAbs * 2 ^ k = u := ⟨_, rfl⟩
  have HF : Hid (flo x0 k = -((u / x0.den : Nat) : Int)) := Lib.hid (by rw [flo_neg x0 k hs, hU, if_pos (by rw [← hU]; exact hr), Nat.add_zero])
  have HR : Hid (u % x0.den = 0) := Lib.hid (by rw [← hU]; exact hr)
  rw [hU] at lu ld
  have CU : ∀ {W : World} {A : Option Addr} {m c : Nat}, Num W A m c x0.num.natAbs → Calls Tryz.prog 68 #[.slice A m c, .int .i64 j] W (GotP W u 0) := fun ha => by rw [← hU]; exact CS ha (by omega)
  clear hU CS hs je h0 h1 hr
  have cc := Below.refl w.heap.size w
  go_enter Tryz.func55, Tryz.ntmps55
  go_wp2_with fail
  generalize hv_ : (w.alloc (.cells #[.bool true, .slice A0 n0 c0, .slice B0 m0 d0] 27)).alloc (.cells #[.bool false, .slice none 0 0] 25) = v1
  obtain ⟨f0, f1⟩ : Fz2 v1 (w.heap.size + 1) := by simp [Fz2, ← hv_, go_sem]
  have bA : Below w.heap.size w v1 := by rw [← hv_]; exact (((Below.refl _ w).alloc (by simp) _).alloc (by simp) _)
  replace p0 := p0.on bA
  replace q0 := q0.on bA
  replace cc := bK cc bA
  clear bA
  obtain ⟨k0, k1, k2⟩ : Cs3 v1 w.heap.size (.bool true) (.slice A0 n0 c0) (.slice B0 m0 d0) := by simp [Cs3, ← hv_, go_sem]
  have kl : w.heap.size < v1.heap.size := by simp [← hv_] <;> omega
  obtain ⟨g0, g1⟩ : Cs2 v1 (w.heap.size + 1) (.bool false) (.slice none 0 0) := by simp [Cs2, ← hv_, go_sem]
  have gl : w.heap.size + 1 < v1.heap.size := by simp [← hv_] <;> omega
  clear hv_
  refine (CU p0).mono ?_
  rintro e w2 ⟨Av, nv, cv, rfl, v, b⟩
  rewrite [fR b gl] at f0 f1
  replace p0 := p0.on b
  replace q0 := q0.on b
  rewrite [cR b kl] at k0 k1 k2
  replace kl := lK b kl
  rewrite [cR b gl] at g0 g1
  replace gl := lK b gl
  replace cc := bK cc b
  clear b
  go_wp2_with fail
  refine (rdiv_N v q0 (by omega) (by omega) hq0).mono ?_
  rintro e w3 ⟨Aq, nq, cq, Ar, nr_, cr, rfl, dq, dr, b⟩
  rewrite [fR b gl] at f0 f1
  replace p0 := p0.on b
  replace q0 := q0.on b
  replace v := v.on b
  rewrite [cR b kl] at k0 k1 k2
  replace kl := lK b kl
  rewrite [cR b gl] at g0 g1
  replace gl := lK b gl
  replace cc := bK cc b
  clear b
  have hz := dr.len
  rw [HR.out, limbs_zero] at hz
  simp only [List.length_nil] at hz
  subst hz
  have zq := zn_nat dq
  have lz : (limbs ((u / x0.den : Nat) : Int).natAbs).length ≤ 1000000 := by rw [Int.natAbs_natCast]; omega
  go_wp2_with fail
  refine (rzneg_N zq lz).mono ?_
  rintro e w4 ⟨bm, Am, nm, cm, rfl, hm, b⟩
  rewrite [fR b gl] at f0 f1
  replace p0 := p0.on b
  replace q0 := q0.on b
  replace v := v.on b
  replace dq := dq.on b
  replace dr := dr.on b
  replace zq := zq.on b
  rewrite [cR b kl] at k0 k1 k2
  replace kl := lK b kl
  rewrite [cR b gl] at g0 g1
  replace gl := lK b gl
  replace cc := bK cc b
  clear b
  have hn : Zn w4 bm Am nm cm (flo x0 k) := by rw [HF.out]; exact hm
  have eb : Box w4 (w.heap.size + 1) false none 0 0 := ⟨g0, g1⟩
  have HZ : Hid (Zn ((w4.setCell ⟨w.heap.size + 1, 0, none⟩ (.bool bm)).setCell ⟨w.heap.size + 1, 1, none⟩ (.slice Am nm cm)) bm Am nm cm (flo x0 k)) := Lib.hid (hn.put eb _ _)
  clear hn
  go_wp2_with fail
  refine bodyPost_ret (v := .tuple #[.agg #[.bool bm, .slice Am nm cm], .int .i64 0]) (by simp [results, Tryz.results55, go_sem, g0, g1]) rfl ⟨_, _, _, _, rfl, HZ.out, below_put cc (by omega) _ _⟩

theorem rfloor_neg1 {w : World} {b0 : Bool} {A0 B0 : Option Addr} {n0 c0 m0 d0 : Nat} {x0 : Rat} (hx : Rt w b0 A0 n0 c0 B0 m0 d0 x0) (s0 : Sz x0 30) {j : Int} (h0 : 0 ≤ j) (h1 : j ≤ 500) (hs : x0.num < 0) (hr : x0.num.natAbs * 2 ^ j.toNat % x0.den ≠ 0) :
    Calls Tryz.prog 55 #[.agg #[.bool b0, .slice A0 n0 c0, .slice B0 m0 d0], .int .i64 j] w (GotZp w (flo x0 j.toNat) 0) := by
  have t1 : decide (j < 0) = false := decide_eq_false (by omega)
  have t2 : decide (2000 < j) = false := decide_eq_false (by omega)
  have je := to_nat h0
  have jl : j.toNat ≤ 500 := by omega
  obtain ⟨k, hk⟩ : ∃ k, j.toNat = k := ⟨_, rfl⟩
  rw [hk] at je jl hr ⊢
  have lk := len_pow2 jl
  have CS : ∀ {W : World} {A : Option Addr} {m c x : Nat}, Num W A m c x → (limbs x).length ≤ 1000 → Calls Tryz.prog 68 #[.slice A m c, .int .i64 j] W (GotP W (x * 2 ^ k) 0) := fun ha hx => by rw [← je]; exact rshl_N ha hx (by omega)
  clear hk
  have p0 := hx.1.1
  have q0 := hx.2
  have hb0 : b0 = true := by rw [hx.1.2]; exact decide_eq_true hs
  subst hb0
  have lp := s0.1
  have lq := s0.2
  have hq0 := x0.den_nz
  have lu : (limbs (x0.num.natAbs * 2 ^ k)).length ≤ 38 := limbs_length_mul lp lk
  have ld : (limbs (x0.num.natAbs * 2 ^ k / x0.den)).length ≤ 38 := Nat.le_trans (limbs_length_mono (Nat.div_le_self _ _)) lu
  obtain ⟨u, hU⟩ : ∃ u, x0.num.natAbs * 2 ^ k = u := ⟨_, rfl⟩
  have HF : Hid (flo x0 k = -((u / x0.den + 1 : Nat) : Int)) := Lib.hid (by rw [flo_neg x0 k hs, hU, if_neg (by rw [← hU]; exact hr)])
  have HR : Hid (u % x0.den ≠ 0) := Lib.hid (by rw [← hU]; exact hr)
  have la : (limbs (u / x0.den + 1)).length ≤ 39 := by rw [← hU]; exact limbs_length_add ld (Nat.le_trans (len_one (by decide)) (by omega))
  rw [hU] at lu ld
  have CU : ∀ {W : World} {A : Option Addr} {m c : Nat}, Num W A m c x0.num.natAbs → Calls Tryz.prog 68 #[.slice A m c, .int .i64 j] W (GotP W u 0) := fun ha => by rw [← hU]; exact CS ha (by omega)
  clear hU CS hs je h0 h1 hr
  have cc := Below.refl w.heap.size w
  go_enter Tryz.func55, Tryz.ntmps55
  go_wp2_with fail
  generalize hv_ : (w.alloc (.cells #[.bool true, .slice A0 n0 c0, .slice B0 m0 d0] 27)).alloc (.cells #[.bool false, .slice none 0 0] 25) = v1
  obtain ⟨f0, f1⟩ : Fz2 v1 (w.heap.size + 1) := by simp [Fz2, ← hv_, go_sem]
  have bA : Below w.heap.size w v1 := by rw [← hv_]; exact (((Below.refl _ w).alloc (by simp) _).alloc (by simp) _)
  replace p0 := p0.on bA
  replace q0 := q0.on bA
  replace cc := bK cc bA
  clear bA
  obtain ⟨k0, k1, k2⟩ : Cs3 v1 w.heap.size (.bool true) (.slice A0 n0 c0) (.slice B0 m0 d0) := by simp [Cs3, ← hv_, go_sem]
  have kl : w.heap.size < v1.heap.size := by simp [← hv_] <;> omega
  obtain ⟨g0, g1⟩ : Cs2 v1 (w.heap.size + 1) (.bool false) (.slice none 0 0) := by simp [Cs2, ← hv_, go_sem]
  have gl : w.heap.size + 1 < v1.heap.size := by simp [← hv_] <;> omega
  clear hv_
  refine (CU p0).mono ?_
  rintro e w2 ⟨Av, nv, cv, rfl, v, b⟩
  rewrite [fR b gl] at f0 f1
  replace p0 := p0.on b
  replace q0 := q0.on b
  rewrite [cR b kl] at k0 k1 k2
  replace kl := lK b kl
  rewrite [cR b gl] at g0 g1
  replace gl := lK b gl
  replace cc := bK cc b
  clear b
  go_wp2_with fail
  refine (rdiv_N v q0 (by omega) (by omega) hq0).mono ?_
  rintro e w3 ⟨Aq, nq, cq, Ar, nr_, cr, rfl, dq, dr, b⟩
  rewrite [fR b gl] at f0 f1
  replace p0 := p0.on b
  replace q0 := q0.on b
  replace v := v.on b
  rewrite [cR b kl] at k0 k1 k2
  replace kl := lK b kl
  rewrite [cR b gl] at g0 g1
  replace gl := lK b gl
  replace cc := bK cc b
  clear b
  have hz : 0 < nr_ := dr.some_len HR.out
  have hz0 : decide ((0 : Int) < (nr_ : Int)) = true := decide_eq_true (by omega)
  have lz : (limbs ((u / x0.den + 1 : Nat) : Int).natAbs).length ≤ 1000000 := by rw [Int.natAbs_natCast]; omega
  have l1 : (limbs 1).length ≤ 1000000 := Nat.le_trans (len_one (by decide)) (by omega)
  go_wp2_with fail
  refine (rof_N _ 1 (by decide)).mono ?_
  rintro e w4 ⟨Ao, no, co, rfl, o, b⟩
  rewrite [fR b gl] at f0 f1
  replace p0 := p0.on b
  replace q0 := q0.on b
  replace v := v.on b
  replace dq := dq.on b
  replace dr := dr.on b
  rewrite [cR b kl] at k0 k1 k2
  replace kl := lK b kl
  rewrite [cR b gl] at g0 g1
  replace gl := lK b gl
  replace cc := bK cc b
  clear b
  go_wp2_with fail
  refine (radd_N dq o (by omega) l1).mono ?_
  rintro e w5 ⟨Aa, na, ca, rfl, a, b⟩
  rewrite [fR b gl] at f0 f1
  replace p0 := p0.on b
  replace q0 := q0.on b
  replace v := v.on b
  replace dq := dq.on b
  replace dr := dr.on b
  replace o := o.on b
  rewrite [cR b kl] at k0 k1 k2
  replace kl := lK b kl
  rewrite [cR b gl] at g0 g1
  replace gl := lK b gl
  replace cc := bK cc b
  clear b
  have zq := zn_nat a
  go_wp2_with fail
  refine (rzneg_N zq lz).mono ?_
  rintro e w6 ⟨bm, Am, nm, cm, rfl, hm, b⟩
  rewrite [fR b gl] at f0 f1
  replace p0 := p0.on b
  replace q0 := q0.on b
  replace v := v.on b
  replace dq := dq.on b
  replace dr := dr.on b
  replace o := o.on b
  replace a := a.on b
  replace zq := zq.on b
  rewrite [cR b kl] at k0 k1 k2
  replace kl := lK b kl
  rewrite [cR b gl] at g0 g1
  replace gl := lK b gl
  replace cc := bK cc b
  clear b
  have hn : Zn w6 bm Am nm cm (flo x0 k) := by rw [HF.out]; exact hm
  have eb : Box w6 (w.heap.size + 1) false none 0 0 := ⟨g0, g1⟩
  have HZ : Hid (Zn ((w6.setCell ⟨w.heap.size + 1, 0, none⟩ (.bool bm)).setCell ⟨w.heap.size + 1, 1, none⟩ (.slice Am nm cm)) bm Am nm cm (flo x0 k)) := Lib.hid (hn.put eb _ _)
  clear hn
  go_wp2_with fail
  refine bodyPost_ret (v := .tuple #[.agg #[.bool bm, .slice Am nm cm], .int .i64 0]) (by simp [results, Tryz.results55, go_sem, g0, g1]) rfl ⟨_, _, _, _, rfl, HZ.out, below_put cc (by omega) _ _⟩

theorem rfloor_N {w : World} {b0 : Bool} {A0 B0 : Option Addr} {n0 c0 m0 d0 : Nat} {x0 : Rat} (hx : Rt w b0 A0 n0 c0 B0 m0 d0 x0) (s0 : Sz x0 30) {j : Int} (h0 : 0 ≤ j) (h1 : j ≤ 500) :
    Calls Tryz.prog 55 #[.agg #[.bool b0, .slice A0 n0 c0, .slice B0 m0 d0], .int .i64 j] w (GotZp w (flo x0 j.toNat) 0) := by
  by_cases hs : x0.num < 0
  · by_cases hr : x0.num.natAbs * 2 ^ j.toNat % x0.den = 0
    · exact rfloor_neg0 hx s0 h0 h1 hs hr
    · exact rfloor_neg1 hx s0 h0 h1 hs hr
  · exact rfloor_pos hx s0 h0 h1 hs

theorem flo_len {x : Rat} {j k : Nat} (h : Sz x k) (hj : j ≤ 500) : (limbs (flo x j).natAbs).length ≤ k + 9 := by
  have h1 : (limbs (x.num.natAbs * 2 ^ j)).length ≤ k + 8 := limbs_length_mul h.1 (len_pow2 hj)
  have h2 : (limbs (x.num.natAbs * 2 ^ j / x.den)).length ≤ k + 8 := Nat.le_trans (limbs_length_mono (Nat.div_le_self _ _)) h1
  by_cases hs : x.num < 0
  · rw [flo_neg x j hs, Int.natAbs_neg, Int.natAbs_natCast]
    refine limbs_length_add h2 (Nat.le_trans (len_one (Nat.lt_of_le_of_lt (m := 1) ?_ (by decide))) (by omega))
    split <;> omega
  · rw [flo_pos x j hs, Int.natAbs_natCast]
    omega
theorem cei_len {x : Rat} {j k : Nat} (h : Sz x k) (hj : j ≤ 500) : (limbs (cei x j).natAbs).length ≤ k + 9 := by
  unfold cei; rw [Int.natAbs_neg]; exact flo_len h.neg hj
theorem bak_sz {z : Int} {j k : Nat} (h : (limbs z.natAbs).length ≤ k) (h8 : 8 ≤ k) (hj : j ≤ 500) : Sz (bak z j) k := sz_mk (Nat.ne_of_gt (Nat.pow_pos (by omega))) h (Nat.le_trans (len_pow2 hj) h8)

theorem rceil_N {w : World} {b0 : Bool} {A0 B0 : Option Addr} {n0 c0 m0 d0 : Nat} {x0 : Rat} (hx : Rt w b0 A0 n0 c0 B0 m0 d0 x0) (s0 : Sz x0 30) {j : Int} (h0 : 0 ≤ j) (h1 : j ≤ 500) :
    Calls Tryz.prog 56 #[.agg #[.bool b0, .slice A0 n0 c0, .slice B0 m0 d0], .int .i64 j] w (GotZp w (cei x0 j.toNat) 0) := by
  obtain ⟨y, hy⟩ : ∃ y : Rat, y = -x0 := ⟨_, rfl⟩
  have CF : ∀ {W : World} {b : Bool} {A B : Option Addr} {n c m d : Nat}, Rt W b A n c B m d y → Calls Tryz.prog 55 #[.agg #[.bool b, .slice A n c, .slice B m d], .int .i64 j] W (GotZp W (flo y j.toNat) 0) := fun hh => rfloor_N hh (by rw [hy]; exact s0.neg) h0 h1
  have lz : (limbs (flo y j.toNat).natAbs).length ≤ 1000000 := Nat.le_trans (flo_len (by rw [hy]; exact s0.neg) (by omega)) (by omega)
  have HC : Hid (cei x0 j.toNat = -flo y j.toNat) := Lib.hid (by rw [hy]; rfl)
  have CN : ∀ {W : World} {b : Bool} {A B : Option Addr} {n c m d : Nat}, Rt W b A n c B m d x0 → Calls Tryz.prog 69 #[.agg #[.bool b, .slice A n c, .slice B m d]] W (GotRt W y) := fun hh => by rw [hy]; exact rtneg_N hh (s0.le (by omega))
  clear hy
  have cc := Below.refl w.heap.size w
  go_enter Tryz.func56, Tryz.ntmps56
  go_wp2_with fail
  generalize hv_ : (w.alloc (.cells #[.bool b0, .slice A0 n0 c0, .slice B0 m0 d0] 27)).alloc (.cells #[.bool false, .slice none 0 0] 25) = v1
  obtain ⟨f0, f1⟩ : Fz2 v1 (w.heap.size + 1) := by simp [Fz2, ← hv_, go_sem]
  have bA : Below w.heap.size w v1 := by rw [← hv_]; exact (((Below.refl _ w).alloc (by simp) _).alloc (by simp) _)
  replace hx := hx.on bA
  replace cc := bK cc bA
  clear bA
  obtain ⟨k0, k1, k2⟩ : Cs3 v1 w.heap.size (.bool b0) (.slice A0 n0 c0) (.slice B0 m0 d0) := by simp [Cs3, ← hv_, go_sem]
  have kl : w.heap.size < v1.heap.size := by simp [← hv_] <;> omega
  obtain ⟨g0, g1⟩ : Cs2 v1 (w.heap.size + 1) (.bool false) (.slice none 0 0) := by simp [Cs2, ← hv_, go_sem]
  have gl : w.heap.size + 1 < v1.heap.size := by simp [← hv_] <;> omega
  clear hv_
  refine (CN hx).mono ?_
  rintro e w2 ⟨bv, Av, nv, cv, Bv, mv, dv, rfl, v, b⟩
  rewrite [fR b gl] at f0 f1
  replace hx := hx.on b
  rewrite [cR b kl] at k0 k1 k2
  replace kl := lK b kl
  rewrite [cR b gl] at g0 g1
  replace gl := lK b gl
  replace cc := bK cc b
  clear b
  go_wp2_with fail
  refine (CF v).mono ?_
  rintro e w3 ⟨bt, At, nt, ct, rfl, t, b⟩
  rewrite [fR b gl] at f0 f1
  replace hx := hx.on b
  replace v := v.on b
  rewrite [cR b kl] at k0 k1 k2
  replace kl := lK b kl
  rewrite [cR b gl] at g0 g1
  replace gl := lK b gl
  replace cc := bK cc b
  clear b
  go_wp2_with fail
  generalize hv_ : w3.alloc (.cells #[.bool bt, .slice At nt ct] 25) = v4
  have bA : Below w3.heap.size w3 v4 := by rw [← hv_]; exact below_one _ _
  rewrite [fR bA gl] at f0 f1
  replace hx := hx.on bA
  replace v := v.on bA
  replace t := t.on bA
  rewrite [cR bA kl] at k0 k1 k2
  replace kl := lK bA kl
  rewrite [cR bA gl] at g0 g1
  replace gl := lK bA gl
  replace cc := bK cc bA
  clear bA
  obtain ⟨y0, y1⟩ : Cs2 v4 w3.heap.size (.bool bt) (.slice At nt ct) := by simp [Cs2, ← hv_, go_sem]
  have yl : w3.heap.size < v4.heap.size := by simp [← hv_]
  clear hv_
  refine (rzneg_N t lz).mono ?_
  rintro e w5 ⟨bm, Am, nm, cm, rfl, hm, b⟩
  rewrite [fR b gl] at f0 f1
  replace hx := hx.on b
  replace v := v.on b
  replace t := t.on b
  rewrite [cR b kl] at k0 k1 k2
  replace kl := lK b kl
  rewrite [cR b gl] at g0 g1
  replace gl := lK b gl
  rewrite [cR b yl] at y0 y1
  replace yl := lK b yl
  replace cc := bK cc b
  clear b
  have hn : Zn w5 bm Am nm cm (cei x0 j.toNat) := by rw [HC.out]; exact hm
  have eb : Box w5 (w.heap.size + 1) false none 0 0 := ⟨g0, g1⟩
  have HZ : Hid (Zn ((w5.setCell ⟨w.heap.size + 1, 0, none⟩ (.bool bm)).setCell ⟨w.heap.size + 1, 1, none⟩ (.slice Am nm cm)) bm Am nm cm (cei x0 j.toNat)) := Lib.hid (hn.put eb _ _)
  clear hn
  go_wp2_with fail
  refine bodyPost_ret (v := .tuple #[.agg #[.bool bm, .slice Am nm cm], .int .i64 0]) (by simp [results, Tryz.results56, go_sem, g0, g1]) rfl ⟨_, _, _, _, rfl, HZ.out, below_put cc (by omega) _ _⟩

end Go.Proofs.YtanpklbconflmaaGreat

/-
  The contracts of the sixth reference: odd.
-/
namespace Go.Proofs.YtanpklbconflmaaGreat
open Go.RowKit
set_option linter.unusedVariables false
set_option linter.unusedSimpArgs false

end Go.Proofs.YtanpklbconflmaaGreat

/-
  The contracts of the sixth reference: Near.
-/
namespace Go.Proofs.YtanpklbconflmaaGreat
open Go.RowKit
set_option linter.unusedVariables false
set_option linter.unusedSimpArgs false







end Go.Proofs.YtanpklbconflmaaGreat
