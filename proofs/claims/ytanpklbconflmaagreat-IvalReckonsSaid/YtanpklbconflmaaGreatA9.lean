/-
  Several texts in one: QT, DX, DG, DH.
-/
import Derived.Test.YtanpklbconflmaaGreatA8
import Derived.Test.YtanpklbconflmaaGreatA4
import Derived.Test.YtanpklbconflmaaGreatA3

/-
  The contracts of rat: Make, Of, Cmp, Div, Right.
-/
namespace Go.Proofs.YtanpklbconflmaaGreat
set_option maxRecDepth 100000
set_option maxHeartbeats 8000000
open Go.RowKit
set_option linter.unusedVariables false
set_option linter.unusedSimpArgs false

theorem qmake_N {w : World} {b : Bool} {A B : Option Addr} {n c m d q : Nat} {p : Int} (ha : Zn w b A n c p) (hb : Num w B m d q) (hq : q ≠ 0) (hx : (limbs p.natAbs).length ≤ 40) (hy : (limbs q).length ≤ 40) :
    Calls Tryz.prog 124 #[.agg #[.bool b, .slice A n c], .slice B m d] w (GotRp w (mkRat p q) 0) := by
  have cc := Below.refl w.heap.size w
  go_enter Tryz.func124, Tryz.ntmps124
  go_wp2_with fail
  generalize hv_ : (w.alloc (.cells #[.bool b, .slice A n c] 25)).alloc (.cells #[.bool false, .slice none 0 0, .slice none 0 0] 27) = v1
  obtain ⟨f0, f1, f2⟩ : Fz3 v1 (w.heap.size + 1) := by simp [Fz3, ← hv_, go_sem]
  have bA : Below w.heap.size w v1 := by rw [← hv_]; exact (((Below.refl _ w).alloc (by simp) _).alloc (by simp) _)
  replace ha := ha.on bA
  replace hb := hb.on bA
  replace cc := bK cc bA
  clear bA
  obtain ⟨k0, k1⟩ : Cs2 v1 w.heap.size (.bool b) (.slice A n c) := by simp [Cs2, ← hv_, go_sem]
  have kl : w.heap.size < v1.heap.size := by simp [← hv_] <;> omega
  obtain ⟨g0, g1, g2⟩ : Cs3 v1 (w.heap.size + 1) (.bool false) (.slice none 0 0) (.slice none 0 0) := by simp [Cs3, ← hv_, go_sem]
  have gl : w.heap.size + 1 < v1.heap.size := by simp [← hv_] <;> omega
  clear hv_
  refine (isn_N false hb (by omega) (decide_eq_false hq)).mono ?_
  rintro e w2 ⟨rfl, b⟩
  rewrite [fR b gl] at f0 f1 f2
  replace ha := ha.on b
  replace hb := hb.on b
  rewrite [cR b kl] at k0 k1
  replace kl := lK b kl
  rewrite [cR b gl] at g0 g1 g2
  replace gl := lK b gl
  replace cc := bK cc b
  clear b
  go_wp2_with fail
  refine (reduced_N ha hb hq (by omega) (by omega)).mono ?_
  rintro e w3 ⟨bm, Am, nm, cm, Bm, mm, dm, rfl, hm, b⟩
  rewrite [fR b gl] at f0 f1 f2
  replace ha := ha.on b
  replace hb := hb.on b
  rewrite [cR b kl] at k0 k1
  replace kl := lK b kl
  rewrite [cR b gl] at g0 g1 g2
  replace gl := lK b gl
  replace cc := bK cc b
  clear b
  have hn : Rt w3 bm Am nm cm Bm mm dm (mkRat p q) := hm
  have eb : BoxR w3 (w.heap.size + 1) false none 0 0 none 0 0 := ⟨g0, g1, g2⟩
  have HZ : Hid (Rt (putR w3 (w.heap.size + 1) (.bool bm) (.slice Am nm cm) (.slice Bm mm dm)) bm Am nm cm Bm mm dm (mkRat p q)) := Lib.hid (Rt.putR hn eb _ _ _)
  clear hn
  go_wp2_with fail
  refine bodyPost_ret (v := .tuple #[.agg #[.bool bm, .slice Am nm cm, .slice Bm mm dm], .int .i64 0]) (by simp [results, Tryz.results124, go_sem, g0, g1, g2]) rfl ⟨_, _, _, _, _, _, _, rfl, HZ.out, below_putR cc (by omega) _ _ _⟩

theorem qmake_zero {w : World} {b : Bool} {A B : Option Addr} {n c d : Nat} :
    Calls Tryz.prog 124 #[.agg #[.bool b, .slice A n c], .slice B 0 d] w (GotV w (.tuple #[.agg #[.bool false, .slice none 0 0, .slice none 0 0], .int .i64 4])) := by
  have cc := Below.refl w.heap.size w
  go_enter Tryz.func124, Tryz.ntmps124
  go_wp2_with fail
  generalize hv_ : (w.alloc (.cells #[.bool b, .slice A n c] 25)).alloc (.cells #[.bool false, .slice none 0 0, .slice none 0 0] 27) = v1
  obtain ⟨f0, f1, f2⟩ : Fz3 v1 (w.heap.size + 1) := by simp [Fz3, ← hv_, go_sem]
  have bA : Below w.heap.size w v1 := by rw [← hv_]; exact (((Below.refl _ w).alloc (by simp) _).alloc (by simp) _)
  replace cc := bK cc bA
  clear bA
  obtain ⟨k0, k1⟩ : Cs2 v1 w.heap.size (.bool b) (.slice A n c) := by simp [Cs2, ← hv_, go_sem]
  have kl : w.heap.size < v1.heap.size := by simp [← hv_] <;> omega
  obtain ⟨g0, g1, g2⟩ : Cs3 v1 (w.heap.size + 1) (.bool false) (.slice none 0 0) (.slice none 0 0) := by simp [Cs3, ← hv_, go_sem]
  have gl : w.heap.size + 1 < v1.heap.size := by simp [← hv_] <;> omega
  clear hv_
  refine (isn_N true (num_nil _ B d) len_nil (by simp)).mono ?_
  rintro e w2 ⟨rfl, b⟩
  rewrite [fR b gl] at f0 f1 f2
  rewrite [cR b kl] at k0 k1
  replace kl := lK b kl
  rewrite [cR b gl] at g0 g1 g2
  replace gl := lK b gl
  replace cc := bK cc b
  clear b
  go_wp2_with fail
  exact bodyPost_ret (v := .tuple #[.agg #[.bool false, .slice none 0 0, .slice none 0 0], .int .i64 4]) (by simp [results, Tryz.results124, go_sem, g0, g1, g2]) rfl ⟨rfl, below_putR cc (by omega) _ _ _⟩

theorem qof_N (w : World) (n : Int) (h : I64 n) :
    Calls Tryz.prog 46 #[.int .i64 n] w (GotRt w ((n : Int) : Rat)) := by
  have cc := Below.refl w.heap.size w
  go_enter Tryz.func46, Tryz.ntmps46
  go_wp2_with fail
  generalize hv_ : w.alloc (.cells #[.bool false, .slice none 0 0, .slice none 0 0] 27) = v1
  obtain ⟨f0, f1, f2⟩ : Fz3 v1 w.heap.size := by simp [Fz3, ← hv_, go_sem]
  have bA : Below w.heap.size w v1 := by rw [← hv_]; exact ((Below.refl _ w).alloc (by simp) _)
  replace cc := bK cc bA
  clear bA
  obtain ⟨g0, g1, g2⟩ : Cs3 v1 w.heap.size (.bool false) (.slice none 0 0) (.slice none 0 0) := by simp [Cs3, ← hv_, go_sem]
  have gl : w.heap.size < v1.heap.size := by simp [← hv_] <;> omega
  clear hv_
  refine (zof_N v1 n h).mono ?_
  rintro e w2 ⟨bm, Am, nm, cm, rfl, pm, b⟩
  rewrite [fR b gl] at f0 f1 f2
  rewrite [cR b gl] at g0 g1 g2
  replace gl := lK b gl
  replace cc := bK cc b
  clear b
  go_wp2_with fail
  refine (of_N w2 1 (by decide)).mono ?_
  rintro e w3 ⟨Bm, mm, dm, rfl, qm, b⟩
  rewrite [fR b gl] at f0 f1 f2
  replace pm := pm.on b
  rewrite [cR b gl] at g0 g1 g2
  replace gl := lK b gl
  replace cc := bK cc b
  clear b
  have hn : Rt w3 bm Am nm cm Bm mm dm (((n : Int) : Rat)) := ⟨pm, qm⟩
  have eb : BoxR w3 (w.heap.size) false none 0 0 none 0 0 := ⟨g0, g1, g2⟩
  have HZ : Hid (Rt (putR w3 (w.heap.size) (.bool bm) (.slice Am nm cm) (.slice Bm mm dm)) bm Am nm cm Bm mm dm (((n : Int) : Rat))) := Lib.hid (Rt.putR hn eb _ _ _)
  clear hn
  go_wp2_with fail
  refine bodyPost_ret (v := .agg #[.bool bm, .slice Am nm cm, .slice Bm mm dm]) (by simp [results, Tryz.results46, go_sem, g0, g1, g2]) rfl ⟨_, _, _, _, _, _, _, rfl, HZ.out, below_putR cc (by omega) _ _ _⟩

theorem qcmp_N {w : World} {b0 b1 : Bool} {A0 B0 A1 B1 : Option Addr} {n0 c0 m0 d0 n1 c1 m1 d1 : Nat} {x0 x1 : Rat} (h0 : Rt w b0 A0 n0 c0 B0 m0 d0 x0) (s0 : Sz x0 30) (h1 : Rt w b1 A1 n1 c1 B1 m1 d1 x1) (s1 : Sz x1 30) :
    Calls Tryz.prog 43 #[.agg #[.bool b0, .slice A0 n0 c0, .slice B0 m0 d0], .agg #[.bool b1, .slice A1 n1 c1, .slice B1 m1 d1]] w (GotV w (.int .i64 (cmpQ x0 x1))) := by
  have p0 := h0.1
  have q0 := h0.2
  have lp0 := s0.1
  have lq0 := s0.2
  have p1 := h1.1
  have q1 := h1.2
  have lp1 := s1.1
  have lq1 := s1.2
  clear h0
  clear h1
  have lA : (limbs (x0.num * (x1.den : Int)).natAbs).length ≤ 60 := by rw [natAbs_over]; exact limbs_length_mul lp0 lq1
  have lB : (limbs (x1.num * (x0.den : Int)).natAbs).length ≤ 60 := by rw [natAbs_over]; exact limbs_length_mul lp1 lq0
  have cc := Below.refl w.heap.size w
  go_enter Tryz.func43, Tryz.ntmps43
  go_wp2_with fail
  generalize hv_ : (w.alloc (.cells #[.bool b0, .slice A0 n0 c0, .slice B0 m0 d0] 27)).alloc (.cells #[.bool b1, .slice A1 n1 c1, .slice B1 m1 d1] 27) = v1
  have bA : Below w.heap.size w v1 := by rw [← hv_]; exact (((Below.refl _ w).alloc (by simp) _).alloc (by simp) _)
  replace p0 := p0.on bA
  replace q0 := q0.on bA
  replace p1 := p1.on bA
  replace q1 := q1.on bA
  replace cc := bK cc bA
  clear bA
  obtain ⟨k0, k1, k2⟩ : Cs3 v1 w.heap.size (.bool b0) (.slice A0 n0 c0) (.slice B0 m0 d0) := by simp [Cs3, ← hv_, go_sem]
  have kl : w.heap.size < v1.heap.size := by simp [← hv_] <;> omega
  obtain ⟨r0, r1, r2⟩ : Cs3 v1 (w.heap.size + 1) (.bool b1) (.slice A1 n1 c1) (.slice B1 m1 d1) := by simp [Cs3, ← hv_, go_sem]
  have rl : w.heap.size + 1 < v1.heap.size := by simp [← hv_] <;> omega
  clear hv_
  have qq : Below v1.heap.size v1 v1.drew := below_drewN (Below.refl _ v1) 1
  have p0' := p0.on qq
  have q0' := q0.on qq
  have p1' := p1.on qq
  have q1' := q1.on qq
  go_region_held3 (fun w' => w'.cell? ⟨w.heap.size, 0, none⟩ = some (.bool b0) ∧ w'.cell? ⟨w.heap.size, 1, none⟩ = some (.slice A0 n0 c0) ∧ w'.cell? ⟨w.heap.size, 2, none⟩ = some (.slice B0 m0 d0) ∧ w'.cell? ⟨w.heap.size + 1, 0, none⟩ = some (.bool b1) ∧ w'.cell? ⟨w.heap.size + 1, 1, none⟩ = some (.slice A1 n1 c1) ∧ w'.cell? ⟨w.heap.size + 1, 2, none⟩ = some (.slice B1 m1 d1))
    (first | with_reducible exact ⟨cK qq k0 kl, cK qq k1 kl, cK qq k2 kl, cK qq r0 rl, cK qq r1 rl, cK qq r2 rl⟩)
    (first
      | (go_at_call 82; (with_reducible refine (times5_N p0' q1' (Nat.le_trans lp0 (by omega)) (Nat.le_trans lq1 (by omega))).mono ?_); rintro e wz ⟨bu, Au, nu, cu, rfl, u, q⟩; replace qq := bK qq q; (try replace p0' := p0'.on q); (try replace q0' := q0'.on q); (try replace p1' := p1'.on q); (try replace q1' := q1'.on q); (try replace v := v.on q); clear q)
      | (go_at_call 82; (with_reducible refine (times5_N p1' q0' (Nat.le_trans lp1 (by omega)) (Nat.le_trans lq0 (by omega))).mono ?_); rintro e wz ⟨bv, Av, nv, cv, rfl, v, q⟩; replace qq := bK qq q; (try replace p0' := p0'.on q); (try replace q0' := q0'.on q); (try replace p1' := p1'.on q); (try replace q1' := q1'.on q); (try replace u := u.on q); clear q)
      | (go_at_call 81; (with_reducible refine (zcmp_N u v (Nat.le_trans lA (by omega)) (Nat.le_trans lB (by omega))).mono ?_); rintro e wz ⟨rfl, q⟩; replace qq := bK qq q; (try replace p0' := p0'.on q); (try replace q0' := q0'.on q); (try replace p1' := p1'.on q); (try replace q1' := q1'.on q); (try replace u := u.on q); (try replace v := v.on q); clear q))
  clear p0
  have p0 := p0'
  clear p0'
  clear q0
  have q0 := q0'
  clear q0'
  clear p1
  have p1 := p1'
  clear p1'
  clear q1
  have q1 := q1'
  clear q1'
  rewrite [cR qq kl] at k0 k1 k2
  replace kl := lK qq kl
  rewrite [cR qq rl] at r0 r1 r2
  replace rl := lK qq rl
  replace cc := bK cc qq
  clear qq
  go_wp2_with fail
  go_ret
  refine ⟨?_, cc⟩
  rw [cmpQ_eq]
  rfl

theorem rt_inv {w : World} {b : Bool} {A B : Option Addr} {n c m d : Nat} {x : Rat} (h : Rt w b A n c B m d x) (hne : x.num ≠ 0) : Rt w b B m d A n c x⁻¹ := by
  refine ⟨?_, ?_⟩
  · rw [inv_num x hne]; exact zn_side h.1 h.2 x.den_nz
  · rw [inv_den x hne]; exact h.1.1

theorem qdiv_N {w : World} {b0 b1 : Bool} {A0 B0 A1 B1 : Option Addr} {n0 c0 m0 d0 n1 c1 m1 d1 : Nat} {x0 x1 : Rat} (h0 : Rt w b0 A0 n0 c0 B0 m0 d0 x0) (s0 : Sz x0 30) (h1 : Rt w b1 A1 n1 c1 B1 m1 d1 x1) (s1 : Sz x1 30) (hne : x1.num ≠ 0) :
    Calls Tryz.prog 86 #[.agg #[.bool b0, .slice A0 n0 c0, .slice B0 m0 d0], .agg #[.bool b1, .slice A1 n1 c1, .slice B1 m1 d1]] w (GotRp w (x0 / x1) 0) := by
  have hi := rt_inv h1 hne
  have hp := h1.1.1
  have si := s1.inv hne
  have lp := s1.1
  have cc := Below.refl w.heap.size w
  go_enter Tryz.func86, Tryz.ntmps86
  go_wp2_with fail
  generalize hv_ : ((w.alloc (.cells #[.bool b0, .slice A0 n0 c0, .slice B0 m0 d0] 27)).alloc (.cells #[.bool b1, .slice A1 n1 c1, .slice B1 m1 d1] 27)).alloc (.cells #[.bool false, .slice none 0 0, .slice none 0 0] 27) = v1
  obtain ⟨f0, f1, f2⟩ : Fz3 v1 (w.heap.size + 1 + 1) := by simp [Fz3, ← hv_, go_sem]
  have bA : Below w.heap.size w v1 := by rw [← hv_]; exact ((((Below.refl _ w).alloc (by simp) _).alloc (by simp) _).alloc (by simp <;> omega) _)
  replace h0 := h0.on bA
  replace h1 := h1.on bA
  replace hi := hi.on bA
  replace hp := hp.on bA
  replace cc := bK cc bA
  clear bA
  obtain ⟨k0, k1, k2⟩ : Cs3 v1 w.heap.size (.bool b0) (.slice A0 n0 c0) (.slice B0 m0 d0) := by simp [Cs3, ← hv_, go_sem]
  have kl : w.heap.size < v1.heap.size := by simp [← hv_] <;> omega
  obtain ⟨r0, r1, r2⟩ : Cs3 v1 (w.heap.size + 1) (.bool b1) (.slice A1 n1 c1) (.slice B1 m1 d1) := by simp [Cs3, ← hv_, go_sem]
  have rl : w.heap.size + 1 < v1.heap.size := by simp [← hv_] <;> omega
  obtain ⟨g0, g1, g2⟩ : Cs3 v1 (w.heap.size + 1 + 1) (.bool false) (.slice none 0 0) (.slice none 0 0) := by simp [Cs3, ← hv_, go_sem]
  have gl : w.heap.size + 1 + 1 < v1.heap.size := by simp [← hv_] <;> omega
  clear hv_
  refine (isn_N false hp (Nat.le_trans lp (by omega)) (decide_eq_false (by omega))).mono ?_
  rintro e w2 ⟨rfl, b⟩
  rewrite [fR b gl] at f0 f1 f2
  replace h0 := h0.on b
  replace h1 := h1.on b
  replace hi := hi.on b
  replace hp := hp.on b
  rewrite [cR b kl] at k0 k1 k2
  replace kl := lK b kl
  rewrite [cR b rl] at r0 r1 r2
  replace rl := lK b rl
  rewrite [cR b gl] at g0 g1 g2
  replace gl := lK b gl
  replace cc := bK cc b
  clear b
  go_wp2_with fail
  generalize hv_ : w2.alloc (.cells #[.bool b1, .slice B1 m1 d1, .slice A1 n1 c1] 27) = v3
  have bA : Below w2.heap.size w2 v3 := by rw [← hv_]; exact below_one _ _
  rewrite [fR bA gl] at f0 f1 f2
  replace h0 := h0.on bA
  replace h1 := h1.on bA
  replace hi := hi.on bA
  replace hp := hp.on bA
  rewrite [cR bA kl] at k0 k1 k2
  replace kl := lK bA kl
  rewrite [cR bA rl] at r0 r1 r2
  replace rl := lK bA rl
  rewrite [cR bA gl] at g0 g1 g2
  replace gl := lK bA gl
  replace cc := bK cc bA
  clear bA
  obtain ⟨t0, t1, t2⟩ : Cs3 v3 w2.heap.size (.bool b1) (.slice B1 m1 d1) (.slice A1 n1 c1) := by simp [Cs3, ← hv_, go_sem]
  have tl : w2.heap.size < v3.heap.size := by simp [← hv_]
  clear hv_
  refine (qmul_N h0 s0 hi si).mono ?_
  rintro e w4 ⟨bm, Am, nm, cm, Bm, mm, dm, rfl, hm, b⟩
  rewrite [fR b gl] at f0 f1 f2
  replace h0 := h0.on b
  replace h1 := h1.on b
  replace hi := hi.on b
  replace hp := hp.on b
  rewrite [cR b kl] at k0 k1 k2
  replace kl := lK b kl
  rewrite [cR b rl] at r0 r1 r2
  replace rl := lK b rl
  rewrite [cR b gl] at g0 g1 g2
  replace gl := lK b gl
  rewrite [cR b tl] at t0 t1 t2
  replace tl := lK b tl
  replace cc := bK cc b
  clear b
  have hn : Rt w4 bm Am nm cm Bm mm dm (x0 / x1) := by rw [Rat.div_def]; exact hm
  have eb : BoxR w4 (w.heap.size + 1 + 1) false none 0 0 none 0 0 := ⟨g0, g1, g2⟩
  have HZ : Hid (Rt (putR w4 (w.heap.size + 1 + 1) (.bool bm) (.slice Am nm cm) (.slice Bm mm dm)) bm Am nm cm Bm mm dm (x0 / x1)) := Lib.hid (Rt.putR hn eb _ _ _)
  clear hn
  go_wp2_with fail
  refine bodyPost_ret (v := .tuple #[.agg #[.bool bm, .slice Am nm cm, .slice Bm mm dm], .int .i64 0]) (by simp [results, Tryz.results86, go_sem, g0, g1, g2]) rfl ⟨_, _, _, _, _, _, _, rfl, HZ.out, below_putR cc (by omega) _ _ _⟩

theorem qright_0 {w : World} {b : Bool} {A B : Option Addr} {n c m d : Nat} {l l2 : List Nat} (h : Lim w.heap.size w A n c l) (h2 : Lim w.heap.size w B m d l2) (hn : n ≤ 100) (hm : m ≤ 100) (h3 : okZ b n l = false) :
    Calls Tryz.prog 42 #[.agg #[.bool b, .slice A n c, .slice B m d]] w (GotV w (.bool false)) := by
  have cc := Below.refl w.heap.size w
  go_enter Tryz.func42, Tryz.ntmps42
  go_wp2_with fail
  generalize hv_ : w.alloc (.cells #[.bool b, .slice A n c, .slice B m d] 27) = v1
  have bA : Below w.heap.size w v1 := by rw [← hv_]; exact ((Below.refl _ w).alloc (by simp) _)
  replace h := h.on bA
  replace h2 := h2.on bA
  replace cc := bK cc bA
  clear bA
  obtain ⟨k0, k1, k2⟩ : Cs3 v1 w.heap.size (.bool b) (.slice A n c) (.slice B m d) := by simp [Cs3, ← hv_, go_sem]
  have kl : w.heap.size < v1.heap.size := by simp [← hv_] <;> omega
  clear hv_
  refine (zright_any false h (by omega) h3).mono ?_
  rintro e w2 ⟨rfl, b⟩
  replace h := h.on b
  replace h2 := h2.on b
  rewrite [cR b kl] at k0 k1 k2
  replace kl := lK b kl
  replace cc := bK cc b
  clear b
  go_wp2_with fail
  go_ret
  exact ⟨rfl, cc⟩

theorem gcd_any {p q k : Nat} (hp : (limbs p).length ≤ k) (hq : (limbs q).length ≤ k) : (limbs (Nat.gcd p q)).length ≤ k := by
  rcases Nat.eq_zero_or_pos q with h | h
  · subst h; rw [Nat.gcd_zero_right]; exact hp
  · exact gcd_len (by omega) hq

theorem qright_1 {w : World} {b : Bool} {A B : Option Addr} {n c m d : Nat} {l l2 : List Nat} (h : Lim w.heap.size w A n c l) (h2 : Lim w.heap.size w B m d l2) (hn : n ≤ 100) (hm : m ≤ 100) (h3 : okZ b n l = true) (h4 : canon l2 = false) :
    Calls Tryz.prog 42 #[.agg #[.bool b, .slice A n c, .slice B m d]] w (GotV w (.bool false)) := by
  have cc := Below.refl w.heap.size w
  go_enter Tryz.func42, Tryz.ntmps42
  go_wp2_with fail
  generalize hv_ : w.alloc (.cells #[.bool b, .slice A n c, .slice B m d] 27) = v1
  have bA : Below w.heap.size w v1 := by rw [← hv_]; exact ((Below.refl _ w).alloc (by simp) _)
  replace h := h.on bA
  replace h2 := h2.on bA
  replace cc := bK cc bA
  clear bA
  obtain ⟨k0, k1, k2⟩ : Cs3 v1 w.heap.size (.bool b) (.slice A n c) (.slice B m d) := by simp [Cs3, ← hv_, go_sem]
  have kl : w.heap.size < v1.heap.size := by simp [← hv_] <;> omega
  clear hv_
  refine (zright_any true h (by omega) h3).mono ?_
  rintro e w2 ⟨rfl, b⟩
  replace h := h.on b
  replace h2 := h2.on b
  rewrite [cR b kl] at k0 k1 k2
  replace kl := lK b kl
  replace cc := bK cc b
  clear b
  go_wp2_with fail
  refine (right_any _ _ _ _ _ false _ h2 (by omega) h4).mono ?_
  rintro e w' ⟨rfl, rfl⟩
  go_wp2_with fail
  go_ret
  exact ⟨rfl, cc⟩

theorem qright_2 {w : World} {b : Bool} {A B : Option Addr} {n c m d : Nat} {l l2 : List Nat} (h : Lim w.heap.size w A n c l) (h2 : Lim w.heap.size w B m d l2) (hn : n ≤ 100) (hm : m ≤ 100) (h3 : okZ b n l = true) (h4 : canon l2 = true) (h6 : ¬ Nat.gcd (val l) (val l2) = 1) :
    Calls Tryz.prog 42 #[.agg #[.bool b, .slice A n c, .slice B m d]] w (GotV w (.bool false)) := by
  have hN := h.num (okZ_canon h3)
  have hM := h2.num h4
  have lN : (limbs (val l)).length ≤ 100 := by rw [← hN.len]; exact hn
  have lM : (limbs (val l2)).length ≤ 100 := by rw [← hM.len]; exact hm
  have l1 : (limbs 1).length ≤ 300 := Nat.le_trans (len_one (by decide)) (by omega)
  obtain ⟨dg, hg⟩ : ∃ g, Nat.gcd (val l) (val l2) = g := ⟨_, rfl⟩
  have CG : ∀ {W : World} {A B : Option Addr} {n c m d : Nat}, Num W A n c (val l) → Num W B m d (val l2) → Calls Tryz.prog 78 #[.slice A n c, .slice B m d] W (GotN W dg) := fun ha hb => by rw [← hg]; exact dgcd_N ha hb (by omega) (by omega)
  have lg : (limbs dg).length ≤ 100 := by rw [← hg]; exact gcd_any lN lM
  rw [hg] at h6
  have he : (cmpN dg 1 == 0) = false := (cmpN_unit dg).trans (decide_eq_false h6)
  clear hg h6
  have cc := Below.refl w.heap.size w
  go_enter Tryz.func42, Tryz.ntmps42
  go_wp2_with fail
  generalize hv_ : w.alloc (.cells #[.bool b, .slice A n c, .slice B m d] 27) = v1
  have bA : Below w.heap.size w v1 := by rw [← hv_]; exact ((Below.refl _ w).alloc (by simp) _)
  replace h := h.on bA
  replace h2 := h2.on bA
  replace hN := hN.on bA
  replace hM := hM.on bA
  replace cc := bK cc bA
  clear bA
  obtain ⟨k0, k1, k2⟩ : Cs3 v1 w.heap.size (.bool b) (.slice A n c) (.slice B m d) := by simp [Cs3, ← hv_, go_sem]
  have kl : w.heap.size < v1.heap.size := by simp [← hv_] <;> omega
  clear hv_
  refine (zright_any true h (by omega) h3).mono ?_
  rintro e w2 ⟨rfl, b⟩
  replace h := h.on b
  replace h2 := h2.on b
  replace hN := hN.on b
  replace hM := hM.on b
  rewrite [cR b kl] at k0 k1 k2
  replace kl := lK b kl
  replace cc := bK cc b
  clear b
  go_wp2_with fail
  refine (right_any _ _ _ _ _ true _ h2 (by omega) h4).mono ?_
  rintro e w' ⟨rfl, rfl⟩
  go_wp2_with fail
  refine (CG hN hM).mono ?_
  rintro e w3 ⟨Ag, ng, cg, rfl, hg, b⟩
  replace h := h.on b
  replace h2 := h2.on b
  replace hN := hN.on b
  replace hM := hM.on b
  rewrite [cR b kl] at k0 k1 k2
  replace kl := lK b kl
  replace cc := bK cc b
  clear b
  go_wp2_with fail
  refine (of_N w3 1 (by decide)).mono ?_
  rintro e w4 ⟨Ao, no, co, rfl, ho, b⟩
  replace h := h.on b
  replace h2 := h2.on b
  replace hN := hN.on b
  replace hM := hM.on b
  replace hg := hg.on b
  rewrite [cR b kl] at k0 k1 k2
  replace kl := lK b kl
  replace cc := bK cc b
  clear b
  go_wp2_with fail
  refine (cmp_N hg ho (Nat.le_trans lg (by omega)) (Nat.le_trans l1 (by omega))).mono ?_
  rintro e w5 ⟨rfl, b⟩
  replace h := h.on b
  replace h2 := h2.on b
  replace hN := hN.on b
  replace hM := hM.on b
  replace hg := hg.on b
  replace ho := ho.on b
  rewrite [cR b kl] at k0 k1 k2
  replace kl := lK b kl
  replace cc := bK cc b
  clear b
  go_wp2_with fail
  go_ret
  exact ⟨rfl, cc⟩

theorem qright_3 {w : World} {b : Bool} {A B : Option Addr} {n c m d : Nat} {l l2 : List Nat} (h : Lim w.heap.size w A n c l) (h2 : Lim w.heap.size w B m d l2) (hn : n ≤ 100) (hm : m ≤ 100) (h3 : okZ b n l = true) (h4 : canon l2 = true) (h6 : Nat.gcd (val l) (val l2) = 1) (r : Bool) (h5 : decide (val l2 = 0) = r) :
    Calls Tryz.prog 42 #[.agg #[.bool b, .slice A n c, .slice B m d]] w (GotV w (.bool !r)) := by
  have hN := h.num (okZ_canon h3)
  have hM := h2.num h4
  have lN : (limbs (val l)).length ≤ 100 := by rw [← hN.len]; exact hn
  have lM : (limbs (val l2)).length ≤ 100 := by rw [← hM.len]; exact hm
  have l1 : (limbs 1).length ≤ 300 := Nat.le_trans (len_one (by decide)) (by omega)
  obtain ⟨dg, hg⟩ : ∃ g, Nat.gcd (val l) (val l2) = g := ⟨_, rfl⟩
  have CG : ∀ {W : World} {A B : Option Addr} {n c m d : Nat}, Num W A n c (val l) → Num W B m d (val l2) → Calls Tryz.prog 78 #[.slice A n c, .slice B m d] W (GotN W dg) := fun ha hb => by rw [← hg]; exact dgcd_N ha hb (by omega) (by omega)
  have lg : (limbs dg).length ≤ 100 := by rw [← hg]; exact gcd_any lN lM
  rw [hg] at h6
  have he : (cmpN dg 1 == 0) = true := (cmpN_unit dg).trans (decide_eq_true h6)
  clear hg h6
  have cc := Below.refl w.heap.size w
  go_enter Tryz.func42, Tryz.ntmps42
  go_wp2_with fail
  generalize hv_ : w.alloc (.cells #[.bool b, .slice A n c, .slice B m d] 27) = v1
  have bA : Below w.heap.size w v1 := by rw [← hv_]; exact ((Below.refl _ w).alloc (by simp) _)
  replace h := h.on bA
  replace h2 := h2.on bA
  replace hN := hN.on bA
  replace hM := hM.on bA
  replace cc := bK cc bA
  clear bA
  obtain ⟨k0, k1, k2⟩ : Cs3 v1 w.heap.size (.bool b) (.slice A n c) (.slice B m d) := by simp [Cs3, ← hv_, go_sem]
  have kl : w.heap.size < v1.heap.size := by simp [← hv_] <;> omega
  clear hv_
  refine (zright_any true h (by omega) h3).mono ?_
  rintro e w2 ⟨rfl, b⟩
  replace h := h.on b
  replace h2 := h2.on b
  replace hN := hN.on b
  replace hM := hM.on b
  rewrite [cR b kl] at k0 k1 k2
  replace kl := lK b kl
  replace cc := bK cc b
  clear b
  go_wp2_with fail
  refine (right_any _ _ _ _ _ true _ h2 (by omega) h4).mono ?_
  rintro e w' ⟨rfl, rfl⟩
  go_wp2_with fail
  refine (CG hN hM).mono ?_
  rintro e w3 ⟨Ag, ng, cg, rfl, hg, b⟩
  replace h := h.on b
  replace h2 := h2.on b
  replace hN := hN.on b
  replace hM := hM.on b
  rewrite [cR b kl] at k0 k1 k2
  replace kl := lK b kl
  replace cc := bK cc b
  clear b
  go_wp2_with fail
  refine (of_N w3 1 (by decide)).mono ?_
  rintro e w4 ⟨Ao, no, co, rfl, ho, b⟩
  replace h := h.on b
  replace h2 := h2.on b
  replace hN := hN.on b
  replace hM := hM.on b
  replace hg := hg.on b
  rewrite [cR b kl] at k0 k1 k2
  replace kl := lK b kl
  replace cc := bK cc b
  clear b
  go_wp2_with fail
  refine (cmp_N hg ho (Nat.le_trans lg (by omega)) (Nat.le_trans l1 (by omega))).mono ?_
  rintro e w5 ⟨rfl, b⟩
  replace h := h.on b
  replace h2 := h2.on b
  replace hN := hN.on b
  replace hM := hM.on b
  replace hg := hg.on b
  replace ho := ho.on b
  rewrite [cR b kl] at k0 k1 k2
  replace kl := lK b kl
  replace cc := bK cc b
  clear b
  go_wp2_with fail
  refine (isn_N r hM (Nat.le_trans lM (by omega)) h5).mono ?_
  rintro e w6 ⟨rfl, b⟩
  replace h := h.on b
  replace h2 := h2.on b
  replace hN := hN.on b
  replace hM := hM.on b
  replace hg := hg.on b
  replace ho := ho.on b
  rewrite [cR b kl] at k0 k1 k2
  replace kl := lK b kl
  replace cc := bK cc b
  clear b
  go_wp2_with fail
  go_ret
  exact ⟨rfl, cc⟩

theorem qright_any {w : World} {b : Bool} {A B : Option Addr} {n c m d : Nat} {l l2 : List Nat} (h : Lim w.heap.size w A n c l) (h2 : Lim w.heap.size w B m d l2) (hn : n ≤ 100) (hm : m ≤ 100) (r : Bool) (hr : okR b n l m l2 = r) :
    Calls Tryz.prog 42 #[.agg #[.bool b, .slice A n c, .slice B m d]] w (GotV w (.bool r)) := by
  unfold okR at hr
  cases h3 : okZ b n l with
  | false => rw [h3] at hr; simp at hr; subst hr; exact qright_0 h h2 hn hm h3
  | true =>
    cases h4 : canon l2 with
    | false => rw [h3, h4] at hr; simp at hr; subst hr; exact qright_1 h h2 hn hm h3 h4
    | true =>
      rw [h3, h4, Bool.true_and, Bool.true_and] at hr
      by_cases h6 : Nat.gcd (val l) (val l2) = 1
      · have hM := h2.num h4
        have h5 : r = !decide (val l2 = 0) := by
          rw [← hr, decide_eq_true h6, Bool.and_true]
          rcases Nat.eq_zero_or_pos m with h0 | h0
          · have : val l2 = 0 := by
              have e := hM.len
              rw [h0] at e
              have e2 := List.length_eq_zero_iff.1 e.symm
              rw [← val_limbs (val l2), e2, val_nil]
            simp [h0, this]
          · have := num_ne hM h0
            simp [h0, this]
        rw [h5]
        exact qright_3 h h2 hn hm h3 h4 h6 _ rfl
      · rw [decide_eq_false h6, Bool.and_false] at hr
        subst hr
        exact qright_2 h h2 hn hm h3 h4 h6

end Go.Proofs.YtanpklbconflmaaGreat

/-
  Numbers on a grid by what is left; the contracts of dyad: isGrid, isOdd, the closures.
-/
namespace Go.Proofs.YtanpklbconflmaaGreat
set_option maxRecDepth 100000
set_option maxHeartbeats 8000000
open Go.RowKit
set_option linter.unusedVariables false
set_option linter.unusedSimpArgs false

theorem zn_minus {w : World} {A : Option Addr} {n c t : Nat} (h : Num w A n c t) (h0 : t ≠ 0) : Zn w true A n c (-(t : Int)) := ⟨by rw [Int.natAbs_neg, Int.natAbs_natCast]; exact h, (decide_eq_true (by omega)).symm⟩
theorem num_void {w : World} {A : Option Addr} {n c t : Nat} (h : Num w A n c t) (h0 : t = 0) : n = 0 := by
  have e := h.len
  rw [h0, limbs_zero] at e; simpa using e
theorem cei_pos (a : Rat) (k : Nat) (h : ¬ a.num < 0) : cei a k = ((a.num.natAbs * 2 ^ k / a.den + (if a.num.natAbs * 2 ^ k % a.den = 0 then 0 else 1) : Nat) : Int) := by
  unfold cei
  by_cases h0 : a.num = 0
  · have e : a.num.natAbs * 2 ^ k = 0 := by rw [h0]; simp
    have h1 : ¬ (-a).num < 0 := by rw [Rat.neg_num]; omega
    rw [flo_pos _ _ h1, Rat.neg_num, Int.natAbs_neg, Rat.neg_den, e]
    simp
  · have h1 : (-a).num < 0 := by rw [Rat.neg_num]; omega
    rw [flo_neg _ _ h1, Rat.neg_num, Int.natAbs_neg, Rat.neg_den, Int.neg_neg]
theorem cei_less (a : Rat) (k : Nat) (h : a.num < 0) : cei a k = -((a.num.natAbs * 2 ^ k / a.den : Nat) : Int) := by
  unfold cei
  have h1 : ¬ (-a).num < 0 := by rw [Rat.neg_num]; omega
  rw [flo_pos _ _ h1, Rat.neg_num, Int.natAbs_neg, Rat.neg_den]
/-- Whether the nearest is one step farther from nought. -/
def fars (u q : Nat) : Bool := decide (q < u % q + u % q) || (decide (u % q + u % q = q) && decide (u / q % 2 = 1))
theorem isgrid_2 (w : World) {j : Int} (h0 : 0 ≤ j) (h1 : j ≤ 2000) :
    Calls Tryz.prog 122 #[.int .i64 j] w (GotV w (.bool true)) := by
  have t1 : decide (0 ≤ j) = true := decide_eq_true h0
  have t2 : decide (j ≤ 2000) = true := decide_eq_true (by omega)
  go_enter Tryz.func122, Tryz.ntmps122
  go_wp2_with fail
  go_ret
  exact ⟨rfl, Below.refl _ _⟩

theorem kfloor_0 {w : World} {g n c m d : Nat} {A B : Option Addr} (r0 : w.cell? ⟨g, 0, none⟩ = some (.bool false)) :
    Calls Tryz.prog 120 #[.slice A n c, .slice B m d, .pointer (some ⟨g, 0, none⟩)] w (GotV w (.bool false)) := by
  have cc := Below.refl w.heap.size w
  go_enter Tryz.func120, Tryz.ntmps120
  go_wp2_with fail
  go_ret
  exact ⟨rfl, cc⟩

theorem kfloor_1f {w : World} {g n c m d y : Nat} {A B : Option Addr} (r0 : w.cell? ⟨g, 0, none⟩ = some (.bool true)) (hb : Num w B m d y) (hy : y = 0) :
    Calls Tryz.prog 120 #[.slice A n c, .slice B m d, .pointer (some ⟨g, 0, none⟩)] w (GotV w (.bool false)) := by
  have hm0 := num_void hb hy
  subst hm0
  have cc := Below.refl w.heap.size w
  go_enter Tryz.func120, Tryz.ntmps120
  go_wp2_with fail
  go_ret
  exact ⟨rfl, cc⟩

theorem kfloor_1t {w : World} {g n c m d y : Nat} {A B : Option Addr} (r0 : w.cell? ⟨g, 0, none⟩ = some (.bool true)) (hb : Num w B m d y) (hy : y ≠ 0) :
    Calls Tryz.prog 120 #[.slice A n c, .slice B m d, .pointer (some ⟨g, 0, none⟩)] w (GotV w (.bool true)) := by
  have hm0 := hb.some_len hy
  have t1 : decide ((0 : Int) < (m : Int)) = true := decide_eq_true (by omega)
  have t2 : decide (0 < m) = true := decide_eq_true (by omega)
  have cc := Below.refl w.heap.size w
  go_enter Tryz.func120, Tryz.ntmps120
  go_wp2_with fail
  go_ret
  exact ⟨rfl, cc⟩

theorem kceil_0 {w : World} {g n c m d : Nat} {A B : Option Addr} (r0 : w.cell? ⟨g, 0, none⟩ = some (.bool true)) :
    Calls Tryz.prog 121 #[.slice A n c, .slice B m d, .pointer (some ⟨g, 0, none⟩)] w (GotV w (.bool false)) := by
  have cc := Below.refl w.heap.size w
  go_enter Tryz.func121, Tryz.ntmps121
  go_wp2_with fail
  go_ret
  exact ⟨rfl, cc⟩

theorem kceil_1f {w : World} {g n c m d y : Nat} {A B : Option Addr} (r0 : w.cell? ⟨g, 0, none⟩ = some (.bool false)) (hb : Num w B m d y) (hy : y = 0) :
    Calls Tryz.prog 121 #[.slice A n c, .slice B m d, .pointer (some ⟨g, 0, none⟩)] w (GotV w (.bool false)) := by
  have hm0 := num_void hb hy
  subst hm0
  have cc := Below.refl w.heap.size w
  go_enter Tryz.func121, Tryz.ntmps121
  go_wp2_with fail
  go_ret
  exact ⟨rfl, cc⟩

theorem kceil_1t {w : World} {g n c m d y : Nat} {A B : Option Addr} (r0 : w.cell? ⟨g, 0, none⟩ = some (.bool false)) (hb : Num w B m d y) (hy : y ≠ 0) :
    Calls Tryz.prog 121 #[.slice A n c, .slice B m d, .pointer (some ⟨g, 0, none⟩)] w (GotV w (.bool true)) := by
  have hm0 := hb.some_len hy
  have t1 : decide ((0 : Int) < (m : Int)) = true := decide_eq_true (by omega)
  have t2 : decide (0 < m) = true := decide_eq_true (by omega)
  have cc := Below.refl w.heap.size w
  go_enter Tryz.func121, Tryz.ntmps121
  go_wp2_with fail
  go_ret
  exact ⟨rfl, cc⟩





end Go.Proofs.YtanpklbconflmaaGreat

/-
  The contracts of dyad: rounded.
-/
namespace Go.Proofs.YtanpklbconflmaaGreat
set_option maxRecDepth 100000
set_option maxHeartbeats 8000000
open Go.RowKit
set_option linter.unusedVariables false
set_option linter.unusedSimpArgs false

theorem len_pow7 {k : Nat} (h : k ≤ 700) : (limbs (2 ^ k)).length ≤ 11 := by
  refine Nat.le_trans (limbs_length_le (k := k / 64 + 1) ?_) (by omega)
  rw [show B64 = 2 ^ 64 from rfl, ← Nat.pow_mul]
  exact Nat.pow_lt_pow_right (by omega) (by omega)
theorem flo_len7 {x : Rat} {j k : Nat} (h : Sz x k) (hj : j ≤ 700) : (limbs (flo x j).natAbs).length ≤ k + 12 := by
  have h1 : (limbs (x.num.natAbs * 2 ^ j)).length ≤ k + 11 := limbs_length_mul h.1 (len_pow7 hj)
  have h2 : (limbs (x.num.natAbs * 2 ^ j / x.den)).length ≤ k + 11 := Nat.le_trans (limbs_length_mono (Nat.div_le_self _ _)) h1
  by_cases hs : x.num < 0
  · rw [flo_neg x j hs, Int.natAbs_neg, Int.natAbs_natCast]
    refine limbs_length_add h2 (Nat.le_trans (len_one (Nat.lt_of_le_of_lt (m := 1) ?_ (by decide))) (by omega))
    split <;> omega
  · rw [flo_pos x j hs, Int.natAbs_natCast]
    omega
theorem cei_len7 {x : Rat} {j k : Nat} (h : Sz x k) (hj : j ≤ 700) : (limbs (cei x j).natAbs).length ≤ k + 12 := by
  unfold cei; rw [Int.natAbs_neg]; exact flo_len7 h.neg hj

theorem rdflo_ff {w : World} {b0 : Bool} {A0 B0 : Option Addr} {n0 c0 m0 d0 : Nat} {g : Nat} {x0 : Rat} (hx : Rt w b0 A0 n0 c0 B0 m0 d0 x0) (s0 : Sz x0 20) {j : Int} (h0 : 0 ≤ j) (h1 : j ≤ 700) (hg : BoxR w g b0 A0 n0 c0 B0 m0 d0) (hs : ¬ x0.num < 0) (ht : True) :
    Calls Tryz.prog 119 #[.agg #[.bool b0, .slice A0 n0 c0, .slice B0 m0 d0], .int .i64 j, .func (.func 120) #[] #[.pointer (some ⟨g, 0, none⟩)]] w (GotZp w (flo x0 j.toNat) 0) := by
  have je := to_nat h0
  have jl : j.toNat ≤ 700 := by omega
  have hj2 : j ≤ 2000 := by omega
  obtain ⟨k, hk⟩ : ∃ k, j.toNat = k := ⟨_, rfl⟩
  rw [hk] at je jl ⊢
  have lk := len_pow7 jl
  have p0 := hx.1.1
  have q0 := hx.2
  have hb0 : b0 = false := by rw [hx.1.2]; exact decide_eq_false hs
  subst hb0
  have lp := s0.1
  have lq := s0.2
  have hq0 := x0.den_nz
  have lu : (limbs (x0.num.natAbs * 2 ^ k)).length ≤ 31 := limbs_length_mul lp lk
  have ld : (limbs (x0.num.natAbs * 2 ^ k / x0.den)).length ≤ 31 := Nat.le_trans (limbs_length_mono (Nat.div_le_self _ _)) lu
  have hlt := Nat.mod_lt (x0.num.natAbs * 2 ^ k) (Nat.pos_of_ne_zero hq0)
  have lr : (limbs (x0.num.natAbs * 2 ^ k % x0.den)).length ≤ 20 := Nat.le_trans (limbs_length_mono (Nat.le_of_lt hlt)) lq
  clear hlt
  have HF : flo x0 k = (((x0.num.natAbs * 2 ^ k / x0.den : Nat) : Nat) : Int) := by rw [flo_pos x0 k hs]
  have CK : ∀ {W : World} {A B : Option Addr} {n c m d : Nat}, W.cell? ⟨g, 0, none⟩ = some (.bool false) → W.cell? ⟨g, 1, none⟩ = some (.slice A0 n0 c0) → W.cell? ⟨g, 2, none⟩ = some (.slice B0 m0 d0) → Num W A n c (x0.num.natAbs * 2 ^ k / x0.den) → Num W B m d (x0.num.natAbs * 2 ^ k % x0.den) → Num W B0 m0 d0 x0.den → Calls Tryz.prog 120 #[.slice A n c, .slice B m d, .pointer (some ⟨g, 0, none⟩)] W (GotV W (.bool false)) := fun r0 r1 r2 ha hb hq => kfloor_0 r0
  obtain ⟨u, hU⟩ : ∃ u, x0.num.natAbs * 2 ^ k = u := ⟨_, rfl⟩
  obtain ⟨t, hT⟩ : ∃ t, x0.num.natAbs * 2 ^ k / x0.den = t := ⟨_, rfl⟩
  obtain ⟨l, hL⟩ : ∃ l, x0.num.natAbs * 2 ^ k % x0.den = l := ⟨_, rfl⟩
  rw [hT, hL] at CK
  rw [hT] at HF ld
  rw [hL] at lr
  rw [hU] at lu hT hL
  have CU : ∀ {W : World} {A : Option Addr} {m c : Nat}, Num W A m c x0.num.natAbs → Calls Tryz.prog 123 #[.slice A m c, .int .i64 j] W (GotP W u 0) := fun ha => by rw [← je, ← hU]; exact dshl_N ha (by omega) (by omega)
  have CD : ∀ {W : World} {A B : Option Addr} {n c m d : Nat}, Num W A n c u → Num W B m d x0.den → Calls Tryz.prog 113 #[.slice A n c, .slice B m d] W (GotD W t l) := fun ha hb => by rw [← hT, ← hL]; exact ddiv_N ha hb (by omega) (by omega) hq0
  have HV := Lib.hid HF
  clear HF hU hT hL hs ht lu
  obtain ⟨r0, r1, r2⟩ := hg
  have rl := cell_lt r0
  simp only at rl
  have cc := Below.refl w.heap.size w
  go_enter Tryz.func119, Tryz.ntmps119
  go_wp2_with fail
  generalize hv_ : (w.alloc (.cells #[.bool false, .slice A0 n0 c0, .slice B0 m0 d0] 27)).alloc (.cells #[.bool false, .slice none 0 0] 25) = v1
  obtain ⟨f0, f1⟩ : Fz2 v1 (w.heap.size + 1) := by simp [Fz2, ← hv_, go_sem]
  have bA : Below w.heap.size w v1 := by rw [← hv_]; exact (((Below.refl _ w).alloc (by simp) _).alloc (by simp) _)
  replace p0 := p0.on bA
  replace q0 := q0.on bA
  rewrite [cR bA rl] at r0 r1 r2
  replace rl := lK bA rl
  replace cc := bK cc bA
  clear bA
  obtain ⟨k0, k1, k2⟩ : Cs3 v1 w.heap.size (.bool false) (.slice A0 n0 c0) (.slice B0 m0 d0) := by simp [Cs3, ← hv_, go_sem]
  have kl : w.heap.size < v1.heap.size := by simp [← hv_] <;> omega
  obtain ⟨g0, g1⟩ : Cs2 v1 (w.heap.size + 1) (.bool false) (.slice none 0 0) := by simp [Cs2, ← hv_, go_sem]
  have gl : w.heap.size + 1 < v1.heap.size := by simp [← hv_] <;> omega
  clear hv_
  refine (isgrid_2 _ h0 hj2).mono ?_
  rintro e w2 ⟨rfl, b⟩
  rewrite [fR b gl] at f0 f1
  replace p0 := p0.on b
  replace q0 := q0.on b
  rewrite [cR b rl] at r0 r1 r2
  replace rl := lK b rl
  rewrite [cR b kl] at k0 k1 k2
  replace kl := lK b kl
  rewrite [cR b gl] at g0 g1
  replace gl := lK b gl
  replace cc := bK cc b
  clear b
  go_wp2_with fail
  refine (CU p0).mono ?_
  rintro e w3 ⟨Av, nv, cv, rfl, v, b⟩
  rewrite [fR b gl] at f0 f1
  replace p0 := p0.on b
  replace q0 := q0.on b
  rewrite [cR b rl] at r0 r1 r2
  replace rl := lK b rl
  rewrite [cR b kl] at k0 k1 k2
  replace kl := lK b kl
  rewrite [cR b gl] at g0 g1
  replace gl := lK b gl
  replace cc := bK cc b
  clear b
  go_wp2_with fail
  refine (CD v q0).mono ?_
  rintro e w4 ⟨Aq, nq, cq, Ar, nr_, cr, rfl, dq, dr, b⟩
  rewrite [fR b gl] at f0 f1
  replace p0 := p0.on b
  replace q0 := q0.on b
  replace v := v.on b
  rewrite [cR b rl] at r0 r1 r2
  replace rl := lK b rl
  rewrite [cR b kl] at k0 k1 k2
  replace kl := lK b kl
  rewrite [cR b gl] at g0 g1
  replace gl := lK b gl
  replace cc := bK cc b
  clear b
  go_wp2_with fail
  refine (CK r0 r1 r2 dq dr q0).mono ?_
  rintro e w5 ⟨rfl, b⟩
  rewrite [fR b gl] at f0 f1
  replace p0 := p0.on b
  replace q0 := q0.on b
  replace v := v.on b
  replace dq := dq.on b
  replace dr := dr.on b
  rewrite [cR b rl] at r0 r1 r2
  replace rl := lK b rl
  rewrite [cR b kl] at k0 k1 k2
  replace kl := lK b kl
  rewrite [cR b gl] at g0 g1
  replace gl := lK b gl
  replace cc := bK cc b
  clear b
  have hn : Zn w5 false Aq nq cq (flo x0 k) := by rw [HV.out]; exact zn_nat dq
  have eb : Box w5 (w.heap.size + 1) false none 0 0 := ⟨g0, g1⟩
  have HZ : Hid (Zn ((w5.setCell ⟨w.heap.size + 1, 0, none⟩ (.bool false)).setCell ⟨w.heap.size + 1, 1, none⟩ (.slice Aq nq cq)) false Aq nq cq (flo x0 k)) := Lib.hid (hn.put eb _ _)
  clear hn
  go_wp2_with fail
  refine bodyPost_ret (v := .tuple #[.agg #[.bool false, .slice Aq nq cq], .int .i64 0]) (by simp [results, Tryz.results119, go_sem, g0, g1]) rfl ⟨_, _, _, _, rfl, HZ.out, below_put cc (by omega) _ _⟩

theorem rdflo_tf0 {w : World} {b0 : Bool} {A0 B0 : Option Addr} {n0 c0 m0 d0 : Nat} {g : Nat} {x0 : Rat} (hx : Rt w b0 A0 n0 c0 B0 m0 d0 x0) (s0 : Sz x0 20) {j : Int} (h0 : 0 ≤ j) (h1 : j ≤ 700) (hg : BoxR w g b0 A0 n0 c0 B0 m0 d0) (hs : x0.num < 0) (ht : x0.num.natAbs * 2 ^ j.toNat % x0.den = 0) (hz : x0.num.natAbs * 2 ^ j.toNat / x0.den = 0) :
    Calls Tryz.prog 119 #[.agg #[.bool b0, .slice A0 n0 c0, .slice B0 m0 d0], .int .i64 j, .func (.func 120) #[] #[.pointer (some ⟨g, 0, none⟩)]] w (GotZp w (flo x0 j.toNat) 0) := by
  have je := to_nat h0
  have jl : j.toNat ≤ 700 := by omega
  have hj2 : j ≤ 2000 := by omega
  obtain ⟨k, hk⟩ : ∃ k, j.toNat = k := ⟨_, rfl⟩
  rw [hk] at je jl ht hz ⊢
  have lk := len_pow7 jl
  have p0 := hx.1.1
  have q0 := hx.2
  have hb0 : b0 = true := by rw [hx.1.2]; exact decide_eq_true hs
  subst hb0
  have lp := s0.1
  have lq := s0.2
  have hq0 := x0.den_nz
  have lu : (limbs (x0.num.natAbs * 2 ^ k)).length ≤ 31 := limbs_length_mul lp lk
  have ld : (limbs (x0.num.natAbs * 2 ^ k / x0.den)).length ≤ 31 := Nat.le_trans (limbs_length_mono (Nat.div_le_self _ _)) lu
  have hlt := Nat.mod_lt (x0.num.natAbs * 2 ^ k) (Nat.pos_of_ne_zero hq0)
  have lr : (limbs (x0.num.natAbs * 2 ^ k % x0.den)).length ≤ 20 := Nat.le_trans (limbs_length_mono (Nat.le_of_lt hlt)) lq
  clear hlt
  have HF : flo x0 k = -(((x0.num.natAbs * 2 ^ k / x0.den : Nat) : Nat) : Int) := by rw [flo_neg x0 k hs, if_pos ht, Nat.add_zero]
  have CK : ∀ {W : World} {A B : Option Addr} {n c m d : Nat}, W.cell? ⟨g, 0, none⟩ = some (.bool true) → W.cell? ⟨g, 1, none⟩ = some (.slice A0 n0 c0) → W.cell? ⟨g, 2, none⟩ = some (.slice B0 m0 d0) → Num W A n c (x0.num.natAbs * 2 ^ k / x0.den) → Num W B m d (x0.num.natAbs * 2 ^ k % x0.den) → Num W B0 m0 d0 x0.den → Calls Tryz.prog 120 #[.slice A n c, .slice B m d, .pointer (some ⟨g, 0, none⟩)] W (GotV W (.bool false)) := fun r0 r1 r2 ha hb hq => kfloor_1f r0 hb ht
  obtain ⟨u, hU⟩ : ∃ u, x0.num.natAbs * 2 ^ k = u := ⟨_, rfl⟩
  obtain ⟨t, hT⟩ : ∃ t, x0.num.natAbs * 2 ^ k / x0.den = t := ⟨_, rfl⟩
  obtain ⟨l, hL⟩ : ∃ l, x0.num.natAbs * 2 ^ k % x0.den = l := ⟨_, rfl⟩
  rw [hT, hL] at CK
  rw [hT] at HF ld hz
  rw [hL] at lr
  rw [hU] at lu hT hL
  have CU : ∀ {W : World} {A : Option Addr} {m c : Nat}, Num W A m c x0.num.natAbs → Calls Tryz.prog 123 #[.slice A m c, .int .i64 j] W (GotP W u 0) := fun ha => by rw [← je, ← hU]; exact dshl_N ha (by omega) (by omega)
  have CD : ∀ {W : World} {A B : Option Addr} {n c m d : Nat}, Num W A n c u → Num W B m d x0.den → Calls Tryz.prog 113 #[.slice A n c, .slice B m d] W (GotD W t l) := fun ha hb => by rw [← hT, ← hL]; exact ddiv_N ha hb (by omega) (by omega) hq0
  subst hz
  have HV := Lib.hid HF
  clear HF hU hT hL hs ht lu
  obtain ⟨r0, r1, r2⟩ := hg
  have rl := cell_lt r0
  simp only at rl
  have cc := Below.refl w.heap.size w
  go_enter Tryz.func119, Tryz.ntmps119
  go_wp2_with fail
  generalize hv_ : (w.alloc (.cells #[.bool true, .slice A0 n0 c0, .slice B0 m0 d0] 27)).alloc (.cells #[.bool false, .slice none 0 0] 25) = v1
  obtain ⟨f0, f1⟩ : Fz2 v1 (w.heap.size + 1) := by simp [Fz2, ← hv_, go_sem]
  have bA : Below w.heap.size w v1 := by rw [← hv_]; exact (((Below.refl _ w).alloc (by simp) _).alloc (by simp) _)
  replace p0 := p0.on bA
  replace q0 := q0.on bA
  rewrite [cR bA rl] at r0 r1 r2
  replace rl := lK bA rl
  replace cc := bK cc bA
  clear bA
  obtain ⟨k0, k1, k2⟩ : Cs3 v1 w.heap.size (.bool true) (.slice A0 n0 c0) (.slice B0 m0 d0) := by simp [Cs3, ← hv_, go_sem]
  have kl : w.heap.size < v1.heap.size := by simp [← hv_] <;> omega
  obtain ⟨g0, g1⟩ : Cs2 v1 (w.heap.size + 1) (.bool false) (.slice none 0 0) := by simp [Cs2, ← hv_, go_sem]
  have gl : w.heap.size + 1 < v1.heap.size := by simp [← hv_] <;> omega
  clear hv_
  refine (isgrid_2 _ h0 hj2).mono ?_
  rintro e w2 ⟨rfl, b⟩
  rewrite [fR b gl] at f0 f1
  replace p0 := p0.on b
  replace q0 := q0.on b
  rewrite [cR b rl] at r0 r1 r2
  replace rl := lK b rl
  rewrite [cR b kl] at k0 k1 k2
  replace kl := lK b kl
  rewrite [cR b gl] at g0 g1
  replace gl := lK b gl
  replace cc := bK cc b
  clear b
  go_wp2_with fail
  refine (CU p0).mono ?_
  rintro e w3 ⟨Av, nv, cv, rfl, v, b⟩
  rewrite [fR b gl] at f0 f1
  replace p0 := p0.on b
  replace q0 := q0.on b
  rewrite [cR b rl] at r0 r1 r2
  replace rl := lK b rl
  rewrite [cR b kl] at k0 k1 k2
  replace kl := lK b kl
  rewrite [cR b gl] at g0 g1
  replace gl := lK b gl
  replace cc := bK cc b
  clear b
  go_wp2_with fail
  refine (CD v q0).mono ?_
  rintro e w4 ⟨Aq, nq, cq, Ar, nr_, cr, rfl, dq, dr, b⟩
  rewrite [fR b gl] at f0 f1
  replace p0 := p0.on b
  replace q0 := q0.on b
  replace v := v.on b
  rewrite [cR b rl] at r0 r1 r2
  replace rl := lK b rl
  rewrite [cR b kl] at k0 k1 k2
  replace kl := lK b kl
  rewrite [cR b gl] at g0 g1
  replace gl := lK b gl
  replace cc := bK cc b
  clear b
  go_wp2_with fail
  refine (CK r0 r1 r2 dq dr q0).mono ?_
  rintro e w5 ⟨rfl, b⟩
  rewrite [fR b gl] at f0 f1
  replace p0 := p0.on b
  replace q0 := q0.on b
  replace v := v.on b
  replace dq := dq.on b
  replace dr := dr.on b
  rewrite [cR b rl] at r0 r1 r2
  replace rl := lK b rl
  rewrite [cR b kl] at k0 k1 k2
  replace kl := lK b kl
  rewrite [cR b gl] at g0 g1
  replace gl := lK b gl
  replace cc := bK cc b
  clear b
  have hn0 := num_void dq rfl
  subst hn0
  have hn : Zn w5 false Aq 0 cq (flo x0 k) := by rw [HV.out]; exact zn_nat dq
  have eb : Box w5 (w.heap.size + 1) false none 0 0 := ⟨g0, g1⟩
  have HZ : Hid (Zn ((w5.setCell ⟨w.heap.size + 1, 0, none⟩ (.bool false)).setCell ⟨w.heap.size + 1, 1, none⟩ (.slice Aq 0 cq)) false Aq 0 cq (flo x0 k)) := Lib.hid (hn.put eb _ _)
  clear hn
  go_wp2_with fail
  refine bodyPost_ret (v := .tuple #[.agg #[.bool false, .slice Aq 0 cq], .int .i64 0]) (by simp [results, Tryz.results119, go_sem, g0, g1]) rfl ⟨_, _, _, _, rfl, HZ.out, below_put cc (by omega) _ _⟩

theorem rdflo_tf1 {w : World} {b0 : Bool} {A0 B0 : Option Addr} {n0 c0 m0 d0 : Nat} {g : Nat} {x0 : Rat} (hx : Rt w b0 A0 n0 c0 B0 m0 d0 x0) (s0 : Sz x0 20) {j : Int} (h0 : 0 ≤ j) (h1 : j ≤ 700) (hg : BoxR w g b0 A0 n0 c0 B0 m0 d0) (hs : x0.num < 0) (ht : x0.num.natAbs * 2 ^ j.toNat % x0.den = 0) (hz : x0.num.natAbs * 2 ^ j.toNat / x0.den ≠ 0) :
    Calls Tryz.prog 119 #[.agg #[.bool b0, .slice A0 n0 c0, .slice B0 m0 d0], .int .i64 j, .func (.func 120) #[] #[.pointer (some ⟨g, 0, none⟩)]] w (GotZp w (flo x0 j.toNat) 0) := by
  have je := to_nat h0
  have jl : j.toNat ≤ 700 := by omega
  have hj2 : j ≤ 2000 := by omega
  obtain ⟨k, hk⟩ : ∃ k, j.toNat = k := ⟨_, rfl⟩
  rw [hk] at je jl ht hz ⊢
  have lk := len_pow7 jl
  have p0 := hx.1.1
  have q0 := hx.2
  have hb0 : b0 = true := by rw [hx.1.2]; exact decide_eq_true hs
  subst hb0
  have lp := s0.1
  have lq := s0.2
  have hq0 := x0.den_nz
  have lu : (limbs (x0.num.natAbs * 2 ^ k)).length ≤ 31 := limbs_length_mul lp lk
  have ld : (limbs (x0.num.natAbs * 2 ^ k / x0.den)).length ≤ 31 := Nat.le_trans (limbs_length_mono (Nat.div_le_self _ _)) lu
  have hlt := Nat.mod_lt (x0.num.natAbs * 2 ^ k) (Nat.pos_of_ne_zero hq0)
  have lr : (limbs (x0.num.natAbs * 2 ^ k % x0.den)).length ≤ 20 := Nat.le_trans (limbs_length_mono (Nat.le_of_lt hlt)) lq
  clear hlt
  have HF : flo x0 k = -(((x0.num.natAbs * 2 ^ k / x0.den : Nat) : Nat) : Int) := by rw [flo_neg x0 k hs, if_pos ht, Nat.add_zero]
  have CK : ∀ {W : World} {A B : Option Addr} {n c m d : Nat}, W.cell? ⟨g, 0, none⟩ = some (.bool true) → W.cell? ⟨g, 1, none⟩ = some (.slice A0 n0 c0) → W.cell? ⟨g, 2, none⟩ = some (.slice B0 m0 d0) → Num W A n c (x0.num.natAbs * 2 ^ k / x0.den) → Num W B m d (x0.num.natAbs * 2 ^ k % x0.den) → Num W B0 m0 d0 x0.den → Calls Tryz.prog 120 #[.slice A n c, .slice B m d, .pointer (some ⟨g, 0, none⟩)] W (GotV W (.bool false)) := fun r0 r1 r2 ha hb hq => kfloor_1f r0 hb ht
  obtain ⟨u, hU⟩ : ∃ u, x0.num.natAbs * 2 ^ k = u := ⟨_, rfl⟩
  obtain ⟨t, hT⟩ : ∃ t, x0.num.natAbs * 2 ^ k / x0.den = t := ⟨_, rfl⟩
  obtain ⟨l, hL⟩ : ∃ l, x0.num.natAbs * 2 ^ k % x0.den = l := ⟨_, rfl⟩
  rw [hT, hL] at CK
  rw [hT] at HF ld hz
  rw [hL] at lr
  rw [hU] at lu hT hL
  have CU : ∀ {W : World} {A : Option Addr} {m c : Nat}, Num W A m c x0.num.natAbs → Calls Tryz.prog 123 #[.slice A m c, .int .i64 j] W (GotP W u 0) := fun ha => by rw [← je, ← hU]; exact dshl_N ha (by omega) (by omega)
  have CD : ∀ {W : World} {A B : Option Addr} {n c m d : Nat}, Num W A n c u → Num W B m d x0.den → Calls Tryz.prog 113 #[.slice A n c, .slice B m d] W (GotD W t l) := fun ha hb => by rw [← hT, ← hL]; exact ddiv_N ha hb (by omega) (by omega) hq0
  have HV := Lib.hid HF
  clear HF hU hT hL hs ht lu
  have HT0 := Lib.hid hz
  clear hz
  obtain ⟨r0, r1, r2⟩ := hg
  have rl := cell_lt r0
  simp only at rl
  have cc := Below.refl w.heap.size w
  go_enter Tryz.func119, Tryz.ntmps119
  go_wp2_with fail
  generalize hv_ : (w.alloc (.cells #[.bool true, .slice A0 n0 c0, .slice B0 m0 d0] 27)).alloc (.cells #[.bool false, .slice none 0 0] 25) = v1
  obtain ⟨f0, f1⟩ : Fz2 v1 (w.heap.size + 1) := by simp [Fz2, ← hv_, go_sem]
  have bA : Below w.heap.size w v1 := by rw [← hv_]; exact (((Below.refl _ w).alloc (by simp) _).alloc (by simp) _)
  replace p0 := p0.on bA
  replace q0 := q0.on bA
  rewrite [cR bA rl] at r0 r1 r2
  replace rl := lK bA rl
  replace cc := bK cc bA
  clear bA
  obtain ⟨k0, k1, k2⟩ : Cs3 v1 w.heap.size (.bool true) (.slice A0 n0 c0) (.slice B0 m0 d0) := by simp [Cs3, ← hv_, go_sem]
  have kl : w.heap.size < v1.heap.size := by simp [← hv_] <;> omega
  obtain ⟨g0, g1⟩ : Cs2 v1 (w.heap.size + 1) (.bool false) (.slice none 0 0) := by simp [Cs2, ← hv_, go_sem]
  have gl : w.heap.size + 1 < v1.heap.size := by simp [← hv_] <;> omega
  clear hv_
  refine (isgrid_2 _ h0 hj2).mono ?_
  rintro e w2 ⟨rfl, b⟩
  rewrite [fR b gl] at f0 f1
  replace p0 := p0.on b
  replace q0 := q0.on b
  rewrite [cR b rl] at r0 r1 r2
  replace rl := lK b rl
  rewrite [cR b kl] at k0 k1 k2
  replace kl := lK b kl
  rewrite [cR b gl] at g0 g1
  replace gl := lK b gl
  replace cc := bK cc b
  clear b
  go_wp2_with fail
  refine (CU p0).mono ?_
  rintro e w3 ⟨Av, nv, cv, rfl, v, b⟩
  rewrite [fR b gl] at f0 f1
  replace p0 := p0.on b
  replace q0 := q0.on b
  rewrite [cR b rl] at r0 r1 r2
  replace rl := lK b rl
  rewrite [cR b kl] at k0 k1 k2
  replace kl := lK b kl
  rewrite [cR b gl] at g0 g1
  replace gl := lK b gl
  replace cc := bK cc b
  clear b
  go_wp2_with fail
  refine (CD v q0).mono ?_
  rintro e w4 ⟨Aq, nq, cq, Ar, nr_, cr, rfl, dq, dr, b⟩
  rewrite [fR b gl] at f0 f1
  replace p0 := p0.on b
  replace q0 := q0.on b
  replace v := v.on b
  rewrite [cR b rl] at r0 r1 r2
  replace rl := lK b rl
  rewrite [cR b kl] at k0 k1 k2
  replace kl := lK b kl
  rewrite [cR b gl] at g0 g1
  replace gl := lK b gl
  replace cc := bK cc b
  clear b
  go_wp2_with fail
  refine (CK r0 r1 r2 dq dr q0).mono ?_
  rintro e w5 ⟨rfl, b⟩
  rewrite [fR b gl] at f0 f1
  replace p0 := p0.on b
  replace q0 := q0.on b
  replace v := v.on b
  replace dq := dq.on b
  replace dr := dr.on b
  rewrite [cR b rl] at r0 r1 r2
  replace rl := lK b rl
  rewrite [cR b kl] at k0 k1 k2
  replace kl := lK b kl
  rewrite [cR b gl] at g0 g1
  replace gl := lK b gl
  replace cc := bK cc b
  clear b
  have hn0 : 0 < nq := dq.some_len HT0.out
  have hn1 : decide ((0 : Int) < (nq : Int)) = true := decide_eq_true (by omega)
  have hn2 : decide (0 < nq) = true := decide_eq_true hn0
  have hn : Zn w5 true Aq nq cq (flo x0 k) := by rw [HV.out]; exact zn_minus dq (HT0.out)
  have eb : Box w5 (w.heap.size + 1) false none 0 0 := ⟨g0, g1⟩
  have HZ : Hid (Zn ((w5.setCell ⟨w.heap.size + 1, 0, none⟩ (.bool true)).setCell ⟨w.heap.size + 1, 1, none⟩ (.slice Aq nq cq)) true Aq nq cq (flo x0 k)) := Lib.hid (hn.put eb _ _)
  clear hn
  go_wp2_with fail
  refine bodyPost_ret (v := .tuple #[.agg #[.bool true, .slice Aq nq cq], .int .i64 0]) (by simp [results, Tryz.results119, go_sem, g0, g1]) rfl ⟨_, _, _, _, rfl, HZ.out, below_put cc (by omega) _ _⟩

theorem rdflo_tt {w : World} {b0 : Bool} {A0 B0 : Option Addr} {n0 c0 m0 d0 : Nat} {g : Nat} {x0 : Rat} (hx : Rt w b0 A0 n0 c0 B0 m0 d0 x0) (s0 : Sz x0 20) {j : Int} (h0 : 0 ≤ j) (h1 : j ≤ 700) (hg : BoxR w g b0 A0 n0 c0 B0 m0 d0) (hs : x0.num < 0) (ht : x0.num.natAbs * 2 ^ j.toNat % x0.den ≠ 0) :
    Calls Tryz.prog 119 #[.agg #[.bool b0, .slice A0 n0 c0, .slice B0 m0 d0], .int .i64 j, .func (.func 120) #[] #[.pointer (some ⟨g, 0, none⟩)]] w (GotZp w (flo x0 j.toNat) 0) := by
  have je := to_nat h0
  have jl : j.toNat ≤ 700 := by omega
  have hj2 : j ≤ 2000 := by omega
  obtain ⟨k, hk⟩ : ∃ k, j.toNat = k := ⟨_, rfl⟩
  rw [hk] at je jl ht ⊢
  have lk := len_pow7 jl
  have p0 := hx.1.1
  have q0 := hx.2
  have hb0 : b0 = true := by rw [hx.1.2]; exact decide_eq_true hs
  subst hb0
  have lp := s0.1
  have lq := s0.2
  have hq0 := x0.den_nz
  have lu : (limbs (x0.num.natAbs * 2 ^ k)).length ≤ 31 := limbs_length_mul lp lk
  have ld : (limbs (x0.num.natAbs * 2 ^ k / x0.den)).length ≤ 31 := Nat.le_trans (limbs_length_mono (Nat.div_le_self _ _)) lu
  have hlt := Nat.mod_lt (x0.num.natAbs * 2 ^ k) (Nat.pos_of_ne_zero hq0)
  have lr : (limbs (x0.num.natAbs * 2 ^ k % x0.den)).length ≤ 20 := Nat.le_trans (limbs_length_mono (Nat.le_of_lt hlt)) lq
  clear hlt
  have HF : flo x0 k = -(((x0.num.natAbs * 2 ^ k / x0.den + 1 : Nat) : Nat) : Int) := by rw [flo_neg x0 k hs, if_neg ht]
  have CK : ∀ {W : World} {A B : Option Addr} {n c m d : Nat}, W.cell? ⟨g, 0, none⟩ = some (.bool true) → W.cell? ⟨g, 1, none⟩ = some (.slice A0 n0 c0) → W.cell? ⟨g, 2, none⟩ = some (.slice B0 m0 d0) → Num W A n c (x0.num.natAbs * 2 ^ k / x0.den) → Num W B m d (x0.num.natAbs * 2 ^ k % x0.den) → Num W B0 m0 d0 x0.den → Calls Tryz.prog 120 #[.slice A n c, .slice B m d, .pointer (some ⟨g, 0, none⟩)] W (GotV W (.bool true)) := fun r0 r1 r2 ha hb hq => kfloor_1t r0 hb ht
  obtain ⟨u, hU⟩ : ∃ u, x0.num.natAbs * 2 ^ k = u := ⟨_, rfl⟩
  obtain ⟨t, hT⟩ : ∃ t, x0.num.natAbs * 2 ^ k / x0.den = t := ⟨_, rfl⟩
  obtain ⟨l, hL⟩ : ∃ l, x0.num.natAbs * 2 ^ k % x0.den = l := ⟨_, rfl⟩
  rw [hT, hL] at CK
  rw [hT] at HF ld
  rw [hL] at lr
  rw [hU] at lu hT hL
  have CU : ∀ {W : World} {A : Option Addr} {m c : Nat}, Num W A m c x0.num.natAbs → Calls Tryz.prog 123 #[.slice A m c, .int .i64 j] W (GotP W u 0) := fun ha => by rw [← je, ← hU]; exact dshl_N ha (by omega) (by omega)
  have CD : ∀ {W : World} {A B : Option Addr} {n c m d : Nat}, Num W A n c u → Num W B m d x0.den → Calls Tryz.prog 113 #[.slice A n c, .slice B m d] W (GotD W t l) := fun ha hb => by rw [← hT, ← hL]; exact ddiv_N ha hb (by omega) (by omega) hq0
  have HV := Lib.hid HF
  clear HF hU hT hL hs ht lu
  have la : (limbs (t + 1)).length ≤ 32 := limbs_length_add ld (Nat.le_trans (len_one (by decide)) (by omega))
  have l1 : (limbs 1).length ≤ 1000 := Nat.le_trans (len_one (by decide)) (by omega)
  obtain ⟨r0, r1, r2⟩ := hg
  have rl := cell_lt r0
  simp only at rl
  have cc := Below.refl w.heap.size w
  go_enter Tryz.func119, Tryz.ntmps119
  go_wp2_with fail
  generalize hv_ : (w.alloc (.cells #[.bool true, .slice A0 n0 c0, .slice B0 m0 d0] 27)).alloc (.cells #[.bool false, .slice none 0 0] 25) = v1
  obtain ⟨f0, f1⟩ : Fz2 v1 (w.heap.size + 1) := by simp [Fz2, ← hv_, go_sem]
  have bA : Below w.heap.size w v1 := by rw [← hv_]; exact (((Below.refl _ w).alloc (by simp) _).alloc (by simp) _)
  replace p0 := p0.on bA
  replace q0 := q0.on bA
  rewrite [cR bA rl] at r0 r1 r2
  replace rl := lK bA rl
  replace cc := bK cc bA
  clear bA
  obtain ⟨k0, k1, k2⟩ : Cs3 v1 w.heap.size (.bool true) (.slice A0 n0 c0) (.slice B0 m0 d0) := by simp [Cs3, ← hv_, go_sem]
  have kl : w.heap.size < v1.heap.size := by simp [← hv_] <;> omega
  obtain ⟨g0, g1⟩ : Cs2 v1 (w.heap.size + 1) (.bool false) (.slice none 0 0) := by simp [Cs2, ← hv_, go_sem]
  have gl : w.heap.size + 1 < v1.heap.size := by simp [← hv_] <;> omega
  clear hv_
  refine (isgrid_2 _ h0 hj2).mono ?_
  rintro e w2 ⟨rfl, b⟩
  rewrite [fR b gl] at f0 f1
  replace p0 := p0.on b
  replace q0 := q0.on b
  rewrite [cR b rl] at r0 r1 r2
  replace rl := lK b rl
  rewrite [cR b kl] at k0 k1 k2
  replace kl := lK b kl
  rewrite [cR b gl] at g0 g1
  replace gl := lK b gl
  replace cc := bK cc b
  clear b
  go_wp2_with fail
  refine (CU p0).mono ?_
  rintro e w3 ⟨Av, nv, cv, rfl, v, b⟩
  rewrite [fR b gl] at f0 f1
  replace p0 := p0.on b
  replace q0 := q0.on b
  rewrite [cR b rl] at r0 r1 r2
  replace rl := lK b rl
  rewrite [cR b kl] at k0 k1 k2
  replace kl := lK b kl
  rewrite [cR b gl] at g0 g1
  replace gl := lK b gl
  replace cc := bK cc b
  clear b
  go_wp2_with fail
  refine (CD v q0).mono ?_
  rintro e w4 ⟨Aq, nq, cq, Ar, nr_, cr, rfl, dq, dr, b⟩
  rewrite [fR b gl] at f0 f1
  replace p0 := p0.on b
  replace q0 := q0.on b
  replace v := v.on b
  rewrite [cR b rl] at r0 r1 r2
  replace rl := lK b rl
  rewrite [cR b kl] at k0 k1 k2
  replace kl := lK b kl
  rewrite [cR b gl] at g0 g1
  replace gl := lK b gl
  replace cc := bK cc b
  clear b
  go_wp2_with fail
  refine (CK r0 r1 r2 dq dr q0).mono ?_
  rintro e w5 ⟨rfl, b⟩
  rewrite [fR b gl] at f0 f1
  replace p0 := p0.on b
  replace q0 := q0.on b
  replace v := v.on b
  replace dq := dq.on b
  replace dr := dr.on b
  rewrite [cR b rl] at r0 r1 r2
  replace rl := lK b rl
  rewrite [cR b kl] at k0 k1 k2
  replace kl := lK b kl
  rewrite [cR b gl] at g0 g1
  replace gl := lK b gl
  replace cc := bK cc b
  clear b
  go_wp2_with fail
  refine (of_N _ 1 (by decide)).mono ?_
  rintro e w6 ⟨Ao, no, co, rfl, o, b⟩
  rewrite [fR b gl] at f0 f1
  replace p0 := p0.on b
  replace q0 := q0.on b
  replace v := v.on b
  replace dq := dq.on b
  replace dr := dr.on b
  rewrite [cR b rl] at r0 r1 r2
  replace rl := lK b rl
  rewrite [cR b kl] at k0 k1 k2
  replace kl := lK b kl
  rewrite [cR b gl] at g0 g1
  replace gl := lK b gl
  replace cc := bK cc b
  clear b
  go_wp2_with fail
  refine (add_N dq o (by omega) (by omega)).mono ?_
  rintro e w7 ⟨Aa, na, ca, rfl, a, b⟩
  rewrite [fR b gl] at f0 f1
  replace p0 := p0.on b
  replace q0 := q0.on b
  replace v := v.on b
  replace dq := dq.on b
  replace dr := dr.on b
  replace o := o.on b
  rewrite [cR b rl] at r0 r1 r2
  replace rl := lK b rl
  rewrite [cR b kl] at k0 k1 k2
  replace kl := lK b kl
  rewrite [cR b gl] at g0 g1
  replace gl := lK b gl
  replace cc := bK cc b
  clear b
  have hn0 : 0 < na := a.some_len (by omega)
  have hn1 : decide ((0 : Int) < (na : Int)) = true := decide_eq_true (by omega)
  have hn2 : decide (0 < na) = true := decide_eq_true hn0
  have hn : Zn w7 true Aa na ca (flo x0 k) := by rw [HV.out]; exact zn_minus a (by omega)
  have eb : Box w7 (w.heap.size + 1) false none 0 0 := ⟨g0, g1⟩
  have HZ : Hid (Zn ((w7.setCell ⟨w.heap.size + 1, 0, none⟩ (.bool true)).setCell ⟨w.heap.size + 1, 1, none⟩ (.slice Aa na ca)) true Aa na ca (flo x0 k)) := Lib.hid (hn.put eb _ _)
  clear hn
  go_wp2_with fail
  refine bodyPost_ret (v := .tuple #[.agg #[.bool true, .slice Aa na ca], .int .i64 0]) (by simp [results, Tryz.results119, go_sem, g0, g1]) rfl ⟨_, _, _, _, rfl, HZ.out, below_put cc (by omega) _ _⟩

theorem rdflo_N {w : World} {b0 : Bool} {A0 B0 : Option Addr} {n0 c0 m0 d0 : Nat} {g : Nat} {x0 : Rat} (hx : Rt w b0 A0 n0 c0 B0 m0 d0 x0) (s0 : Sz x0 20) {j : Int} (h0 : 0 ≤ j) (h1 : j ≤ 700) (hg : BoxR w g b0 A0 n0 c0 B0 m0 d0) :
    Calls Tryz.prog 119 #[.agg #[.bool b0, .slice A0 n0 c0, .slice B0 m0 d0], .int .i64 j, .func (.func 120) #[] #[.pointer (some ⟨g, 0, none⟩)]] w (GotZp w (flo x0 j.toNat) 0) := by
  by_cases hs : x0.num < 0
  · by_cases ht : x0.num.natAbs * 2 ^ j.toNat % x0.den = 0
    · by_cases hz : x0.num.natAbs * 2 ^ j.toNat / x0.den = 0
      · exact rdflo_tf0 hx s0 h0 h1 hg hs ht hz
      · exact rdflo_tf1 hx s0 h0 h1 hg hs ht hz
    · exact rdflo_tt hx s0 h0 h1 hg hs ht
  · exact rdflo_ff hx s0 h0 h1 hg hs trivial

theorem rdcei_ff {w : World} {b0 : Bool} {A0 B0 : Option Addr} {n0 c0 m0 d0 : Nat} {g : Nat} {x0 : Rat} (hx : Rt w b0 A0 n0 c0 B0 m0 d0 x0) (s0 : Sz x0 20) {j : Int} (h0 : 0 ≤ j) (h1 : j ≤ 700) (hg : BoxR w g b0 A0 n0 c0 B0 m0 d0) (hs : ¬ x0.num < 0) (ht : x0.num.natAbs * 2 ^ j.toNat % x0.den = 0) :
    Calls Tryz.prog 119 #[.agg #[.bool b0, .slice A0 n0 c0, .slice B0 m0 d0], .int .i64 j, .func (.func 121) #[] #[.pointer (some ⟨g, 0, none⟩)]] w (GotZp w (cei x0 j.toNat) 0) := by
  have je := to_nat h0
  have jl : j.toNat ≤ 700 := by omega
  have hj2 : j ≤ 2000 := by omega
  obtain ⟨k, hk⟩ : ∃ k, j.toNat = k := ⟨_, rfl⟩
  rw [hk] at je jl ht ⊢
  have lk := len_pow7 jl
  have p0 := hx.1.1
  have q0 := hx.2
  have hb0 : b0 = false := by rw [hx.1.2]; exact decide_eq_false hs
  subst hb0
  have lp := s0.1
  have lq := s0.2
  have hq0 := x0.den_nz
  have lu : (limbs (x0.num.natAbs * 2 ^ k)).length ≤ 31 := limbs_length_mul lp lk
  have ld : (limbs (x0.num.natAbs * 2 ^ k / x0.den)).length ≤ 31 := Nat.le_trans (limbs_length_mono (Nat.div_le_self _ _)) lu
  have hlt := Nat.mod_lt (x0.num.natAbs * 2 ^ k) (Nat.pos_of_ne_zero hq0)
  have lr : (limbs (x0.num.natAbs * 2 ^ k % x0.den)).length ≤ 20 := Nat.le_trans (limbs_length_mono (Nat.le_of_lt hlt)) lq
  clear hlt
  have HF : cei x0 k = (((x0.num.natAbs * 2 ^ k / x0.den : Nat) : Nat) : Int) := by rw [cei_pos x0 k hs, if_pos ht, Nat.add_zero]
  have CK : ∀ {W : World} {A B : Option Addr} {n c m d : Nat}, W.cell? ⟨g, 0, none⟩ = some (.bool false) → W.cell? ⟨g, 1, none⟩ = some (.slice A0 n0 c0) → W.cell? ⟨g, 2, none⟩ = some (.slice B0 m0 d0) → Num W A n c (x0.num.natAbs * 2 ^ k / x0.den) → Num W B m d (x0.num.natAbs * 2 ^ k % x0.den) → Num W B0 m0 d0 x0.den → Calls Tryz.prog 121 #[.slice A n c, .slice B m d, .pointer (some ⟨g, 0, none⟩)] W (GotV W (.bool false)) := fun r0 r1 r2 ha hb hq => kceil_1f r0 hb ht
  obtain ⟨u, hU⟩ : ∃ u, x0.num.natAbs * 2 ^ k = u := ⟨_, rfl⟩
  obtain ⟨t, hT⟩ : ∃ t, x0.num.natAbs * 2 ^ k / x0.den = t := ⟨_, rfl⟩
  obtain ⟨l, hL⟩ : ∃ l, x0.num.natAbs * 2 ^ k % x0.den = l := ⟨_, rfl⟩
  rw [hT, hL] at CK
  rw [hT] at HF ld
  rw [hL] at lr
  rw [hU] at lu hT hL
  have CU : ∀ {W : World} {A : Option Addr} {m c : Nat}, Num W A m c x0.num.natAbs → Calls Tryz.prog 123 #[.slice A m c, .int .i64 j] W (GotP W u 0) := fun ha => by rw [← je, ← hU]; exact dshl_N ha (by omega) (by omega)
  have CD : ∀ {W : World} {A B : Option Addr} {n c m d : Nat}, Num W A n c u → Num W B m d x0.den → Calls Tryz.prog 113 #[.slice A n c, .slice B m d] W (GotD W t l) := fun ha hb => by rw [← hT, ← hL]; exact ddiv_N ha hb (by omega) (by omega) hq0
  have HV := Lib.hid HF
  clear HF hU hT hL hs ht lu
  obtain ⟨r0, r1, r2⟩ := hg
  have rl := cell_lt r0
  simp only at rl
  have cc := Below.refl w.heap.size w
  go_enter Tryz.func119, Tryz.ntmps119
  go_wp2_with fail
  generalize hv_ : (w.alloc (.cells #[.bool false, .slice A0 n0 c0, .slice B0 m0 d0] 27)).alloc (.cells #[.bool false, .slice none 0 0] 25) = v1
  obtain ⟨f0, f1⟩ : Fz2 v1 (w.heap.size + 1) := by simp [Fz2, ← hv_, go_sem]
  have bA : Below w.heap.size w v1 := by rw [← hv_]; exact (((Below.refl _ w).alloc (by simp) _).alloc (by simp) _)
  replace p0 := p0.on bA
  replace q0 := q0.on bA
  rewrite [cR bA rl] at r0 r1 r2
  replace rl := lK bA rl
  replace cc := bK cc bA
  clear bA
  obtain ⟨k0, k1, k2⟩ : Cs3 v1 w.heap.size (.bool false) (.slice A0 n0 c0) (.slice B0 m0 d0) := by simp [Cs3, ← hv_, go_sem]
  have kl : w.heap.size < v1.heap.size := by simp [← hv_] <;> omega
  obtain ⟨g0, g1⟩ : Cs2 v1 (w.heap.size + 1) (.bool false) (.slice none 0 0) := by simp [Cs2, ← hv_, go_sem]
  have gl : w.heap.size + 1 < v1.heap.size := by simp [← hv_] <;> omega
  clear hv_
  refine (isgrid_2 _ h0 hj2).mono ?_
  rintro e w2 ⟨rfl, b⟩
  rewrite [fR b gl] at f0 f1
  replace p0 := p0.on b
  replace q0 := q0.on b
  rewrite [cR b rl] at r0 r1 r2
  replace rl := lK b rl
  rewrite [cR b kl] at k0 k1 k2
  replace kl := lK b kl
  rewrite [cR b gl] at g0 g1
  replace gl := lK b gl
  replace cc := bK cc b
  clear b
  go_wp2_with fail
  refine (CU p0).mono ?_
  rintro e w3 ⟨Av, nv, cv, rfl, v, b⟩
  rewrite [fR b gl] at f0 f1
  replace p0 := p0.on b
  replace q0 := q0.on b
  rewrite [cR b rl] at r0 r1 r2
  replace rl := lK b rl
  rewrite [cR b kl] at k0 k1 k2
  replace kl := lK b kl
  rewrite [cR b gl] at g0 g1
  replace gl := lK b gl
  replace cc := bK cc b
  clear b
  go_wp2_with fail
  refine (CD v q0).mono ?_
  rintro e w4 ⟨Aq, nq, cq, Ar, nr_, cr, rfl, dq, dr, b⟩
  rewrite [fR b gl] at f0 f1
  replace p0 := p0.on b
  replace q0 := q0.on b
  replace v := v.on b
  rewrite [cR b rl] at r0 r1 r2
  replace rl := lK b rl
  rewrite [cR b kl] at k0 k1 k2
  replace kl := lK b kl
  rewrite [cR b gl] at g0 g1
  replace gl := lK b gl
  replace cc := bK cc b
  clear b
  go_wp2_with fail
  refine (CK r0 r1 r2 dq dr q0).mono ?_
  rintro e w5 ⟨rfl, b⟩
  rewrite [fR b gl] at f0 f1
  replace p0 := p0.on b
  replace q0 := q0.on b
  replace v := v.on b
  replace dq := dq.on b
  replace dr := dr.on b
  rewrite [cR b rl] at r0 r1 r2
  replace rl := lK b rl
  rewrite [cR b kl] at k0 k1 k2
  replace kl := lK b kl
  rewrite [cR b gl] at g0 g1
  replace gl := lK b gl
  replace cc := bK cc b
  clear b
  have hn : Zn w5 false Aq nq cq (cei x0 k) := by rw [HV.out]; exact zn_nat dq
  have eb : Box w5 (w.heap.size + 1) false none 0 0 := ⟨g0, g1⟩
  have HZ : Hid (Zn ((w5.setCell ⟨w.heap.size + 1, 0, none⟩ (.bool false)).setCell ⟨w.heap.size + 1, 1, none⟩ (.slice Aq nq cq)) false Aq nq cq (cei x0 k)) := Lib.hid (hn.put eb _ _)
  clear hn
  go_wp2_with fail
  refine bodyPost_ret (v := .tuple #[.agg #[.bool false, .slice Aq nq cq], .int .i64 0]) (by simp [results, Tryz.results119, go_sem, g0, g1]) rfl ⟨_, _, _, _, rfl, HZ.out, below_put cc (by omega) _ _⟩

theorem rdcei_ft {w : World} {b0 : Bool} {A0 B0 : Option Addr} {n0 c0 m0 d0 : Nat} {g : Nat} {x0 : Rat} (hx : Rt w b0 A0 n0 c0 B0 m0 d0 x0) (s0 : Sz x0 20) {j : Int} (h0 : 0 ≤ j) (h1 : j ≤ 700) (hg : BoxR w g b0 A0 n0 c0 B0 m0 d0) (hs : ¬ x0.num < 0) (ht : x0.num.natAbs * 2 ^ j.toNat % x0.den ≠ 0) :
    Calls Tryz.prog 119 #[.agg #[.bool b0, .slice A0 n0 c0, .slice B0 m0 d0], .int .i64 j, .func (.func 121) #[] #[.pointer (some ⟨g, 0, none⟩)]] w (GotZp w (cei x0 j.toNat) 0) := by
  have je := to_nat h0
  have jl : j.toNat ≤ 700 := by omega
  have hj2 : j ≤ 2000 := by omega
  obtain ⟨k, hk⟩ : ∃ k, j.toNat = k := ⟨_, rfl⟩
  rw [hk] at je jl ht ⊢
  have lk := len_pow7 jl
  have p0 := hx.1.1
  have q0 := hx.2
  have hb0 : b0 = false := by rw [hx.1.2]; exact decide_eq_false hs
  subst hb0
  have lp := s0.1
  have lq := s0.2
  have hq0 := x0.den_nz
  have lu : (limbs (x0.num.natAbs * 2 ^ k)).length ≤ 31 := limbs_length_mul lp lk
  have ld : (limbs (x0.num.natAbs * 2 ^ k / x0.den)).length ≤ 31 := Nat.le_trans (limbs_length_mono (Nat.div_le_self _ _)) lu
  have hlt := Nat.mod_lt (x0.num.natAbs * 2 ^ k) (Nat.pos_of_ne_zero hq0)
  have lr : (limbs (x0.num.natAbs * 2 ^ k % x0.den)).length ≤ 20 := Nat.le_trans (limbs_length_mono (Nat.le_of_lt hlt)) lq
  clear hlt
  have HF : cei x0 k = (((x0.num.natAbs * 2 ^ k / x0.den + 1 : Nat) : Nat) : Int) := by rw [cei_pos x0 k hs, if_neg ht]
  have CK : ∀ {W : World} {A B : Option Addr} {n c m d : Nat}, W.cell? ⟨g, 0, none⟩ = some (.bool false) → W.cell? ⟨g, 1, none⟩ = some (.slice A0 n0 c0) → W.cell? ⟨g, 2, none⟩ = some (.slice B0 m0 d0) → Num W A n c (x0.num.natAbs * 2 ^ k / x0.den) → Num W B m d (x0.num.natAbs * 2 ^ k % x0.den) → Num W B0 m0 d0 x0.den → Calls Tryz.prog 121 #[.slice A n c, .slice B m d, .pointer (some ⟨g, 0, none⟩)] W (GotV W (.bool true)) := fun r0 r1 r2 ha hb hq => kceil_1t r0 hb ht
  obtain ⟨u, hU⟩ : ∃ u, x0.num.natAbs * 2 ^ k = u := ⟨_, rfl⟩
  obtain ⟨t, hT⟩ : ∃ t, x0.num.natAbs * 2 ^ k / x0.den = t := ⟨_, rfl⟩
  obtain ⟨l, hL⟩ : ∃ l, x0.num.natAbs * 2 ^ k % x0.den = l := ⟨_, rfl⟩
  rw [hT, hL] at CK
  rw [hT] at HF ld
  rw [hL] at lr
  rw [hU] at lu hT hL
  have CU : ∀ {W : World} {A : Option Addr} {m c : Nat}, Num W A m c x0.num.natAbs → Calls Tryz.prog 123 #[.slice A m c, .int .i64 j] W (GotP W u 0) := fun ha => by rw [← je, ← hU]; exact dshl_N ha (by omega) (by omega)
  have CD : ∀ {W : World} {A B : Option Addr} {n c m d : Nat}, Num W A n c u → Num W B m d x0.den → Calls Tryz.prog 113 #[.slice A n c, .slice B m d] W (GotD W t l) := fun ha hb => by rw [← hT, ← hL]; exact ddiv_N ha hb (by omega) (by omega) hq0
  have HV := Lib.hid HF
  clear HF hU hT hL hs ht lu
  have la : (limbs (t + 1)).length ≤ 32 := limbs_length_add ld (Nat.le_trans (len_one (by decide)) (by omega))
  have l1 : (limbs 1).length ≤ 1000 := Nat.le_trans (len_one (by decide)) (by omega)
  obtain ⟨r0, r1, r2⟩ := hg
  have rl := cell_lt r0
  simp only at rl
  have cc := Below.refl w.heap.size w
  go_enter Tryz.func119, Tryz.ntmps119
  go_wp2_with fail
  generalize hv_ : (w.alloc (.cells #[.bool false, .slice A0 n0 c0, .slice B0 m0 d0] 27)).alloc (.cells #[.bool false, .slice none 0 0] 25) = v1
  obtain ⟨f0, f1⟩ : Fz2 v1 (w.heap.size + 1) := by simp [Fz2, ← hv_, go_sem]
  have bA : Below w.heap.size w v1 := by rw [← hv_]; exact (((Below.refl _ w).alloc (by simp) _).alloc (by simp) _)
  replace p0 := p0.on bA
  replace q0 := q0.on bA
  rewrite [cR bA rl] at r0 r1 r2
  replace rl := lK bA rl
  replace cc := bK cc bA
  clear bA
  obtain ⟨k0, k1, k2⟩ : Cs3 v1 w.heap.size (.bool false) (.slice A0 n0 c0) (.slice B0 m0 d0) := by simp [Cs3, ← hv_, go_sem]
  have kl : w.heap.size < v1.heap.size := by simp [← hv_] <;> omega
  obtain ⟨g0, g1⟩ : Cs2 v1 (w.heap.size + 1) (.bool false) (.slice none 0 0) := by simp [Cs2, ← hv_, go_sem]
  have gl : w.heap.size + 1 < v1.heap.size := by simp [← hv_] <;> omega
  clear hv_
  refine (isgrid_2 _ h0 hj2).mono ?_
  rintro e w2 ⟨rfl, b⟩
  rewrite [fR b gl] at f0 f1
  replace p0 := p0.on b
  replace q0 := q0.on b
  rewrite [cR b rl] at r0 r1 r2
  replace rl := lK b rl
  rewrite [cR b kl] at k0 k1 k2
  replace kl := lK b kl
  rewrite [cR b gl] at g0 g1
  replace gl := lK b gl
  replace cc := bK cc b
  clear b
  go_wp2_with fail
  refine (CU p0).mono ?_
  rintro e w3 ⟨Av, nv, cv, rfl, v, b⟩
  rewrite [fR b gl] at f0 f1
  replace p0 := p0.on b
  replace q0 := q0.on b
  rewrite [cR b rl] at r0 r1 r2
  replace rl := lK b rl
  rewrite [cR b kl] at k0 k1 k2
  replace kl := lK b kl
  rewrite [cR b gl] at g0 g1
  replace gl := lK b gl
  replace cc := bK cc b
  clear b
  go_wp2_with fail
  refine (CD v q0).mono ?_
  rintro e w4 ⟨Aq, nq, cq, Ar, nr_, cr, rfl, dq, dr, b⟩
  rewrite [fR b gl] at f0 f1
  replace p0 := p0.on b
  replace q0 := q0.on b
  replace v := v.on b
  rewrite [cR b rl] at r0 r1 r2
  replace rl := lK b rl
  rewrite [cR b kl] at k0 k1 k2
  replace kl := lK b kl
  rewrite [cR b gl] at g0 g1
  replace gl := lK b gl
  replace cc := bK cc b
  clear b
  go_wp2_with fail
  refine (CK r0 r1 r2 dq dr q0).mono ?_
  rintro e w5 ⟨rfl, b⟩
  rewrite [fR b gl] at f0 f1
  replace p0 := p0.on b
  replace q0 := q0.on b
  replace v := v.on b
  replace dq := dq.on b
  replace dr := dr.on b
  rewrite [cR b rl] at r0 r1 r2
  replace rl := lK b rl
  rewrite [cR b kl] at k0 k1 k2
  replace kl := lK b kl
  rewrite [cR b gl] at g0 g1
  replace gl := lK b gl
  replace cc := bK cc b
  clear b
  go_wp2_with fail
  refine (of_N _ 1 (by decide)).mono ?_
  rintro e w6 ⟨Ao, no, co, rfl, o, b⟩
  rewrite [fR b gl] at f0 f1
  replace p0 := p0.on b
  replace q0 := q0.on b
  replace v := v.on b
  replace dq := dq.on b
  replace dr := dr.on b
  rewrite [cR b rl] at r0 r1 r2
  replace rl := lK b rl
  rewrite [cR b kl] at k0 k1 k2
  replace kl := lK b kl
  rewrite [cR b gl] at g0 g1
  replace gl := lK b gl
  replace cc := bK cc b
  clear b
  go_wp2_with fail
  refine (add_N dq o (by omega) (by omega)).mono ?_
  rintro e w7 ⟨Aa, na, ca, rfl, a, b⟩
  rewrite [fR b gl] at f0 f1
  replace p0 := p0.on b
  replace q0 := q0.on b
  replace v := v.on b
  replace dq := dq.on b
  replace dr := dr.on b
  replace o := o.on b
  rewrite [cR b rl] at r0 r1 r2
  replace rl := lK b rl
  rewrite [cR b kl] at k0 k1 k2
  replace kl := lK b kl
  rewrite [cR b gl] at g0 g1
  replace gl := lK b gl
  replace cc := bK cc b
  clear b
  have hn : Zn w7 false Aa na ca (cei x0 k) := by rw [HV.out]; exact zn_nat a
  have eb : Box w7 (w.heap.size + 1) false none 0 0 := ⟨g0, g1⟩
  have HZ : Hid (Zn ((w7.setCell ⟨w.heap.size + 1, 0, none⟩ (.bool false)).setCell ⟨w.heap.size + 1, 1, none⟩ (.slice Aa na ca)) false Aa na ca (cei x0 k)) := Lib.hid (hn.put eb _ _)
  clear hn
  go_wp2_with fail
  refine bodyPost_ret (v := .tuple #[.agg #[.bool false, .slice Aa na ca], .int .i64 0]) (by simp [results, Tryz.results119, go_sem, g0, g1]) rfl ⟨_, _, _, _, rfl, HZ.out, below_put cc (by omega) _ _⟩

theorem rdcei_tf0 {w : World} {b0 : Bool} {A0 B0 : Option Addr} {n0 c0 m0 d0 : Nat} {g : Nat} {x0 : Rat} (hx : Rt w b0 A0 n0 c0 B0 m0 d0 x0) (s0 : Sz x0 20) {j : Int} (h0 : 0 ≤ j) (h1 : j ≤ 700) (hg : BoxR w g b0 A0 n0 c0 B0 m0 d0) (hs : x0.num < 0) (ht : True) (hz : x0.num.natAbs * 2 ^ j.toNat / x0.den = 0) :
    Calls Tryz.prog 119 #[.agg #[.bool b0, .slice A0 n0 c0, .slice B0 m0 d0], .int .i64 j, .func (.func 121) #[] #[.pointer (some ⟨g, 0, none⟩)]] w (GotZp w (cei x0 j.toNat) 0) := by
  have je := to_nat h0
  have jl : j.toNat ≤ 700 := by omega
  have hj2 : j ≤ 2000 := by omega
  obtain ⟨k, hk⟩ : ∃ k, j.toNat = k := ⟨_, rfl⟩
  rw [hk] at je jl hz ⊢
  have lk := len_pow7 jl
  have p0 := hx.1.1
  have q0 := hx.2
  have hb0 : b0 = true := by rw [hx.1.2]; exact decide_eq_true hs
  subst hb0
  have lp := s0.1
  have lq := s0.2
  have hq0 := x0.den_nz
  have lu : (limbs (x0.num.natAbs * 2 ^ k)).length ≤ 31 := limbs_length_mul lp lk
  have ld : (limbs (x0.num.natAbs * 2 ^ k / x0.den)).length ≤ 31 := Nat.le_trans (limbs_length_mono (Nat.div_le_self _ _)) lu
  have hlt := Nat.mod_lt (x0.num.natAbs * 2 ^ k) (Nat.pos_of_ne_zero hq0)
  have lr : (limbs (x0.num.natAbs * 2 ^ k % x0.den)).length ≤ 20 := Nat.le_trans (limbs_length_mono (Nat.le_of_lt hlt)) lq
  clear hlt
  have HF : cei x0 k = -(((x0.num.natAbs * 2 ^ k / x0.den : Nat) : Nat) : Int) := by rw [cei_less x0 k hs]
  have CK : ∀ {W : World} {A B : Option Addr} {n c m d : Nat}, W.cell? ⟨g, 0, none⟩ = some (.bool true) → W.cell? ⟨g, 1, none⟩ = some (.slice A0 n0 c0) → W.cell? ⟨g, 2, none⟩ = some (.slice B0 m0 d0) → Num W A n c (x0.num.natAbs * 2 ^ k / x0.den) → Num W B m d (x0.num.natAbs * 2 ^ k % x0.den) → Num W B0 m0 d0 x0.den → Calls Tryz.prog 121 #[.slice A n c, .slice B m d, .pointer (some ⟨g, 0, none⟩)] W (GotV W (.bool false)) := fun r0 r1 r2 ha hb hq => kceil_0 r0
  obtain ⟨u, hU⟩ : ∃ u, x0.num.natAbs * 2 ^ k = u := ⟨_, rfl⟩
  obtain ⟨t, hT⟩ : ∃ t, x0.num.natAbs * 2 ^ k / x0.den = t := ⟨_, rfl⟩
  obtain ⟨l, hL⟩ : ∃ l, x0.num.natAbs * 2 ^ k % x0.den = l := ⟨_, rfl⟩
  rw [hT, hL] at CK
  rw [hT] at HF ld hz
  rw [hL] at lr
  rw [hU] at lu hT hL
  have CU : ∀ {W : World} {A : Option Addr} {m c : Nat}, Num W A m c x0.num.natAbs → Calls Tryz.prog 123 #[.slice A m c, .int .i64 j] W (GotP W u 0) := fun ha => by rw [← je, ← hU]; exact dshl_N ha (by omega) (by omega)
  have CD : ∀ {W : World} {A B : Option Addr} {n c m d : Nat}, Num W A n c u → Num W B m d x0.den → Calls Tryz.prog 113 #[.slice A n c, .slice B m d] W (GotD W t l) := fun ha hb => by rw [← hT, ← hL]; exact ddiv_N ha hb (by omega) (by omega) hq0
  subst hz
  have HV := Lib.hid HF
  clear HF hU hT hL hs ht lu
  obtain ⟨r0, r1, r2⟩ := hg
  have rl := cell_lt r0
  simp only at rl
  have cc := Below.refl w.heap.size w
  go_enter Tryz.func119, Tryz.ntmps119
  go_wp2_with fail
  generalize hv_ : (w.alloc (.cells #[.bool true, .slice A0 n0 c0, .slice B0 m0 d0] 27)).alloc (.cells #[.bool false, .slice none 0 0] 25) = v1
  obtain ⟨f0, f1⟩ : Fz2 v1 (w.heap.size + 1) := by simp [Fz2, ← hv_, go_sem]
  have bA : Below w.heap.size w v1 := by rw [← hv_]; exact (((Below.refl _ w).alloc (by simp) _).alloc (by simp) _)
  replace p0 := p0.on bA
  replace q0 := q0.on bA
  rewrite [cR bA rl] at r0 r1 r2
  replace rl := lK bA rl
  replace cc := bK cc bA
  clear bA
  obtain ⟨k0, k1, k2⟩ : Cs3 v1 w.heap.size (.bool true) (.slice A0 n0 c0) (.slice B0 m0 d0) := by simp [Cs3, ← hv_, go_sem]
  have kl : w.heap.size < v1.heap.size := by simp [← hv_] <;> omega
  obtain ⟨g0, g1⟩ : Cs2 v1 (w.heap.size + 1) (.bool false) (.slice none 0 0) := by simp [Cs2, ← hv_, go_sem]
  have gl : w.heap.size + 1 < v1.heap.size := by simp [← hv_] <;> omega
  clear hv_
  refine (isgrid_2 _ h0 hj2).mono ?_
  rintro e w2 ⟨rfl, b⟩
  rewrite [fR b gl] at f0 f1
  replace p0 := p0.on b
  replace q0 := q0.on b
  rewrite [cR b rl] at r0 r1 r2
  replace rl := lK b rl
  rewrite [cR b kl] at k0 k1 k2
  replace kl := lK b kl
  rewrite [cR b gl] at g0 g1
  replace gl := lK b gl
  replace cc := bK cc b
  clear b
  go_wp2_with fail
  refine (CU p0).mono ?_
  rintro e w3 ⟨Av, nv, cv, rfl, v, b⟩
  rewrite [fR b gl] at f0 f1
  replace p0 := p0.on b
  replace q0 := q0.on b
  rewrite [cR b rl] at r0 r1 r2
  replace rl := lK b rl
  rewrite [cR b kl] at k0 k1 k2
  replace kl := lK b kl
  rewrite [cR b gl] at g0 g1
  replace gl := lK b gl
  replace cc := bK cc b
  clear b
  go_wp2_with fail
  refine (CD v q0).mono ?_
  rintro e w4 ⟨Aq, nq, cq, Ar, nr_, cr, rfl, dq, dr, b⟩
  rewrite [fR b gl] at f0 f1
  replace p0 := p0.on b
  replace q0 := q0.on b
  replace v := v.on b
  rewrite [cR b rl] at r0 r1 r2
  replace rl := lK b rl
  rewrite [cR b kl] at k0 k1 k2
  replace kl := lK b kl
  rewrite [cR b gl] at g0 g1
  replace gl := lK b gl
  replace cc := bK cc b
  clear b
  go_wp2_with fail
  refine (CK r0 r1 r2 dq dr q0).mono ?_
  rintro e w5 ⟨rfl, b⟩
  rewrite [fR b gl] at f0 f1
  replace p0 := p0.on b
  replace q0 := q0.on b
  replace v := v.on b
  replace dq := dq.on b
  replace dr := dr.on b
  rewrite [cR b rl] at r0 r1 r2
  replace rl := lK b rl
  rewrite [cR b kl] at k0 k1 k2
  replace kl := lK b kl
  rewrite [cR b gl] at g0 g1
  replace gl := lK b gl
  replace cc := bK cc b
  clear b
  have hn0 := num_void dq rfl
  subst hn0
  have hn : Zn w5 false Aq 0 cq (cei x0 k) := by rw [HV.out]; exact zn_nat dq
  have eb : Box w5 (w.heap.size + 1) false none 0 0 := ⟨g0, g1⟩
  have HZ : Hid (Zn ((w5.setCell ⟨w.heap.size + 1, 0, none⟩ (.bool false)).setCell ⟨w.heap.size + 1, 1, none⟩ (.slice Aq 0 cq)) false Aq 0 cq (cei x0 k)) := Lib.hid (hn.put eb _ _)
  clear hn
  go_wp2_with fail
  refine bodyPost_ret (v := .tuple #[.agg #[.bool false, .slice Aq 0 cq], .int .i64 0]) (by simp [results, Tryz.results119, go_sem, g0, g1]) rfl ⟨_, _, _, _, rfl, HZ.out, below_put cc (by omega) _ _⟩

theorem rdcei_tf1 {w : World} {b0 : Bool} {A0 B0 : Option Addr} {n0 c0 m0 d0 : Nat} {g : Nat} {x0 : Rat} (hx : Rt w b0 A0 n0 c0 B0 m0 d0 x0) (s0 : Sz x0 20) {j : Int} (h0 : 0 ≤ j) (h1 : j ≤ 700) (hg : BoxR w g b0 A0 n0 c0 B0 m0 d0) (hs : x0.num < 0) (ht : True) (hz : x0.num.natAbs * 2 ^ j.toNat / x0.den ≠ 0) :
    Calls Tryz.prog 119 #[.agg #[.bool b0, .slice A0 n0 c0, .slice B0 m0 d0], .int .i64 j, .func (.func 121) #[] #[.pointer (some ⟨g, 0, none⟩)]] w (GotZp w (cei x0 j.toNat) 0) := by
  have je := to_nat h0
  have jl : j.toNat ≤ 700 := by omega
  have hj2 : j ≤ 2000 := by omega
  obtain ⟨k, hk⟩ : ∃ k, j.toNat = k := ⟨_, rfl⟩
  rw [hk] at je jl hz ⊢
  have lk := len_pow7 jl
  have p0 := hx.1.1
  have q0 := hx.2
  have hb0 : b0 = true := by rw [hx.1.2]; exact decide_eq_true hs
  subst hb0
  have lp := s0.1
  have lq := s0.2
  have hq0 := x0.den_nz
  have lu : (limbs (x0.num.natAbs * 2 ^ k)).length ≤ 31 := limbs_length_mul lp lk
  have ld : (limbs (x0.num.natAbs * 2 ^ k / x0.den)).length ≤ 31 := Nat.le_trans (limbs_length_mono (Nat.div_le_self _ _)) lu
  have hlt := Nat.mod_lt (x0.num.natAbs * 2 ^ k) (Nat.pos_of_ne_zero hq0)
  have lr : (limbs (x0.num.natAbs * 2 ^ k % x0.den)).length ≤ 20 := Nat.le_trans (limbs_length_mono (Nat.le_of_lt hlt)) lq
  clear hlt
  have HF : cei x0 k = -(((x0.num.natAbs * 2 ^ k / x0.den : Nat) : Nat) : Int) := by rw [cei_less x0 k hs]
  have CK : ∀ {W : World} {A B : Option Addr} {n c m d : Nat}, W.cell? ⟨g, 0, none⟩ = some (.bool true) → W.cell? ⟨g, 1, none⟩ = some (.slice A0 n0 c0) → W.cell? ⟨g, 2, none⟩ = some (.slice B0 m0 d0) → Num W A n c (x0.num.natAbs * 2 ^ k / x0.den) → Num W B m d (x0.num.natAbs * 2 ^ k % x0.den) → Num W B0 m0 d0 x0.den → Calls Tryz.prog 121 #[.slice A n c, .slice B m d, .pointer (some ⟨g, 0, none⟩)] W (GotV W (.bool false)) := fun r0 r1 r2 ha hb hq => kceil_0 r0
  obtain ⟨u, hU⟩ : ∃ u, x0.num.natAbs * 2 ^ k = u := ⟨_, rfl⟩
  obtain ⟨t, hT⟩ : ∃ t, x0.num.natAbs * 2 ^ k / x0.den = t := ⟨_, rfl⟩
  obtain ⟨l, hL⟩ : ∃ l, x0.num.natAbs * 2 ^ k % x0.den = l := ⟨_, rfl⟩
  rw [hT, hL] at CK
  rw [hT] at HF ld hz
  rw [hL] at lr
  rw [hU] at lu hT hL
  have CU : ∀ {W : World} {A : Option Addr} {m c : Nat}, Num W A m c x0.num.natAbs → Calls Tryz.prog 123 #[.slice A m c, .int .i64 j] W (GotP W u 0) := fun ha => by rw [← je, ← hU]; exact dshl_N ha (by omega) (by omega)
  have CD : ∀ {W : World} {A B : Option Addr} {n c m d : Nat}, Num W A n c u → Num W B m d x0.den → Calls Tryz.prog 113 #[.slice A n c, .slice B m d] W (GotD W t l) := fun ha hb => by rw [← hT, ← hL]; exact ddiv_N ha hb (by omega) (by omega) hq0
  have HV := Lib.hid HF
  clear HF hU hT hL hs ht lu
  have HT0 := Lib.hid hz
  clear hz
  obtain ⟨r0, r1, r2⟩ := hg
  have rl := cell_lt r0
  simp only at rl
  have cc := Below.refl w.heap.size w
  go_enter Tryz.func119, Tryz.ntmps119
  go_wp2_with fail
  generalize hv_ : (w.alloc (.cells #[.bool true, .slice A0 n0 c0, .slice B0 m0 d0] 27)).alloc (.cells #[.bool false, .slice none 0 0] 25) = v1
  obtain ⟨f0, f1⟩ : Fz2 v1 (w.heap.size + 1) := by simp [Fz2, ← hv_, go_sem]
  have bA : Below w.heap.size w v1 := by rw [← hv_]; exact (((Below.refl _ w).alloc (by simp) _).alloc (by simp) _)
  replace p0 := p0.on bA
  replace q0 := q0.on bA
  rewrite [cR bA rl] at r0 r1 r2
  replace rl := lK bA rl
  replace cc := bK cc bA
  clear bA
  obtain ⟨k0, k1, k2⟩ : Cs3 v1 w.heap.size (.bool true) (.slice A0 n0 c0) (.slice B0 m0 d0) := by simp [Cs3, ← hv_, go_sem]
  have kl : w.heap.size < v1.heap.size := by simp [← hv_] <;> omega
  obtain ⟨g0, g1⟩ : Cs2 v1 (w.heap.size + 1) (.bool false) (.slice none 0 0) := by simp [Cs2, ← hv_, go_sem]
  have gl : w.heap.size + 1 < v1.heap.size := by simp [← hv_] <;> omega
  clear hv_
  refine (isgrid_2 _ h0 hj2).mono ?_
  rintro e w2 ⟨rfl, b⟩
  rewrite [fR b gl] at f0 f1
  replace p0 := p0.on b
  replace q0 := q0.on b
  rewrite [cR b rl] at r0 r1 r2
  replace rl := lK b rl
  rewrite [cR b kl] at k0 k1 k2
  replace kl := lK b kl
  rewrite [cR b gl] at g0 g1
  replace gl := lK b gl
  replace cc := bK cc b
  clear b
  go_wp2_with fail
  refine (CU p0).mono ?_
  rintro e w3 ⟨Av, nv, cv, rfl, v, b⟩
  rewrite [fR b gl] at f0 f1
  replace p0 := p0.on b
  replace q0 := q0.on b
  rewrite [cR b rl] at r0 r1 r2
  replace rl := lK b rl
  rewrite [cR b kl] at k0 k1 k2
  replace kl := lK b kl
  rewrite [cR b gl] at g0 g1
  replace gl := lK b gl
  replace cc := bK cc b
  clear b
  go_wp2_with fail
  refine (CD v q0).mono ?_
  rintro e w4 ⟨Aq, nq, cq, Ar, nr_, cr, rfl, dq, dr, b⟩
  rewrite [fR b gl] at f0 f1
  replace p0 := p0.on b
  replace q0 := q0.on b
  replace v := v.on b
  rewrite [cR b rl] at r0 r1 r2
  replace rl := lK b rl
  rewrite [cR b kl] at k0 k1 k2
  replace kl := lK b kl
  rewrite [cR b gl] at g0 g1
  replace gl := lK b gl
  replace cc := bK cc b
  clear b
  go_wp2_with fail
  refine (CK r0 r1 r2 dq dr q0).mono ?_
  rintro e w5 ⟨rfl, b⟩
  rewrite [fR b gl] at f0 f1
  replace p0 := p0.on b
  replace q0 := q0.on b
  replace v := v.on b
  replace dq := dq.on b
  replace dr := dr.on b
  rewrite [cR b rl] at r0 r1 r2
  replace rl := lK b rl
  rewrite [cR b kl] at k0 k1 k2
  replace kl := lK b kl
  rewrite [cR b gl] at g0 g1
  replace gl := lK b gl
  replace cc := bK cc b
  clear b
  have hn0 : 0 < nq := dq.some_len HT0.out
  have hn1 : decide ((0 : Int) < (nq : Int)) = true := decide_eq_true (by omega)
  have hn2 : decide (0 < nq) = true := decide_eq_true hn0
  have hn : Zn w5 true Aq nq cq (cei x0 k) := by rw [HV.out]; exact zn_minus dq (HT0.out)
  have eb : Box w5 (w.heap.size + 1) false none 0 0 := ⟨g0, g1⟩
  have HZ : Hid (Zn ((w5.setCell ⟨w.heap.size + 1, 0, none⟩ (.bool true)).setCell ⟨w.heap.size + 1, 1, none⟩ (.slice Aq nq cq)) true Aq nq cq (cei x0 k)) := Lib.hid (hn.put eb _ _)
  clear hn
  go_wp2_with fail
  refine bodyPost_ret (v := .tuple #[.agg #[.bool true, .slice Aq nq cq], .int .i64 0]) (by simp [results, Tryz.results119, go_sem, g0, g1]) rfl ⟨_, _, _, _, rfl, HZ.out, below_put cc (by omega) _ _⟩

theorem rdcei_N {w : World} {b0 : Bool} {A0 B0 : Option Addr} {n0 c0 m0 d0 : Nat} {g : Nat} {x0 : Rat} (hx : Rt w b0 A0 n0 c0 B0 m0 d0 x0) (s0 : Sz x0 20) {j : Int} (h0 : 0 ≤ j) (h1 : j ≤ 700) (hg : BoxR w g b0 A0 n0 c0 B0 m0 d0) :
    Calls Tryz.prog 119 #[.agg #[.bool b0, .slice A0 n0 c0, .slice B0 m0 d0], .int .i64 j, .func (.func 121) #[] #[.pointer (some ⟨g, 0, none⟩)]] w (GotZp w (cei x0 j.toNat) 0) := by
  by_cases hs : x0.num < 0
  · by_cases hz : x0.num.natAbs * 2 ^ j.toNat / x0.den = 0
    · exact rdcei_tf0 hx s0 h0 h1 hg hs trivial hz
    · exact rdcei_tf1 hx s0 h0 h1 hg hs trivial hz
  · by_cases ht : x0.num.natAbs * 2 ^ j.toNat % x0.den = 0
    · exact rdcei_ff hx s0 h0 h1 hg hs ht
    · exact rdcei_ft hx s0 h0 h1 hg hs ht

end Go.Proofs.YtanpklbconflmaaGreat

/-
  The contracts of dyad: Floor, Ceil, Near, Back.
-/
namespace Go.Proofs.YtanpklbconflmaaGreat
set_option maxRecDepth 100000
set_option maxHeartbeats 8000000
open Go.RowKit
set_option linter.unusedVariables false
set_option linter.unusedSimpArgs false

theorem dfloor_N {w : World} {b0 : Bool} {A0 B0 : Option Addr} {n0 c0 m0 d0 : Nat} {x0 : Rat} (hx : Rt w b0 A0 n0 c0 B0 m0 d0 x0) (s0 : Sz x0 20) {j : Int} (h0 : 0 ≤ j) (h1 : j ≤ 700) :
    Calls Tryz.prog 92 #[.agg #[.bool b0, .slice A0 n0 c0, .slice B0 m0 d0], .int .i64 j] w (GotZp w (flo x0 j.toNat) 0) := by
  have cc := Below.refl w.heap.size w
  go_enter Tryz.func92, Tryz.ntmps92
  go_wp2_with fail
  generalize hv_ : (w.alloc (.cells #[.bool b0, .slice A0 n0 c0, .slice B0 m0 d0] 27)).alloc (.cells #[.bool false, .slice none 0 0] 25) = v1
  obtain ⟨f0, f1⟩ : Fz2 v1 (w.heap.size + 1) := by simp [Fz2, ← hv_, go_sem]
  have bA : Below w.heap.size w v1 := by rw [← hv_]; exact (((Below.refl _ w).alloc (by simp) _).alloc (by simp) _)
  replace hx := hx.on bA
  replace cc := bK cc bA
  clear bA
  obtain ⟨k0, k1, k2⟩ : Cs3 v1 w.heap.size (.bool b0) (.slice A0 n0 c0) (.slice B0 m0 d0) := by simp [Cs3, ← hv_, go_sem]
  have kl : w.heap.size < v1.heap.size := by simp [← hv_] <;> omega
  obtain ⟨g0, g1⟩ : Cs2 v1 (w.heap.size + 1) (.bool false) (.slice none 0 0) := by simp [Cs2, ← hv_, go_sem]
  have gl : w.heap.size + 1 < v1.heap.size := by simp [← hv_] <;> omega
  clear hv_
  refine (rdflo_N hx (s0.le (by omega)) h0 h1 ⟨k0, k1, k2⟩).mono ?_
  rintro e w2 ⟨bm, Am, nm, cm, rfl, hm, b⟩
  rewrite [fR b gl] at f0 f1
  replace hx := hx.on b
  rewrite [cR b kl] at k0 k1 k2
  replace kl := lK b kl
  rewrite [cR b gl] at g0 g1
  replace gl := lK b gl
  replace cc := bK cc b
  clear b
  have hn : Zn w2 bm Am nm cm (flo x0 j.toNat) := hm
  have eb : Box w2 (w.heap.size + 1) false none 0 0 := ⟨g0, g1⟩
  have HZ : Hid (Zn ((w2.setCell ⟨w.heap.size + 1, 0, none⟩ (.bool bm)).setCell ⟨w.heap.size + 1, 1, none⟩ (.slice Am nm cm)) bm Am nm cm (flo x0 j.toNat)) := Lib.hid (hn.put eb _ _)
  clear hn
  go_wp2_with fail
  refine bodyPost_ret (v := .tuple #[.agg #[.bool bm, .slice Am nm cm], .int .i64 0]) (by simp [results, Tryz.results92, go_sem, g0, g1]) rfl ⟨_, _, _, _, rfl, HZ.out, below_put cc (by omega) _ _⟩

theorem dceil_N {w : World} {b0 : Bool} {A0 B0 : Option Addr} {n0 c0 m0 d0 : Nat} {x0 : Rat} (hx : Rt w b0 A0 n0 c0 B0 m0 d0 x0) (s0 : Sz x0 20) {j : Int} (h0 : 0 ≤ j) (h1 : j ≤ 700) :
    Calls Tryz.prog 93 #[.agg #[.bool b0, .slice A0 n0 c0, .slice B0 m0 d0], .int .i64 j] w (GotZp w (cei x0 j.toNat) 0) := by
  have cc := Below.refl w.heap.size w
  go_enter Tryz.func93, Tryz.ntmps93
  go_wp2_with fail
  generalize hv_ : (w.alloc (.cells #[.bool b0, .slice A0 n0 c0, .slice B0 m0 d0] 27)).alloc (.cells #[.bool false, .slice none 0 0] 25) = v1
  obtain ⟨f0, f1⟩ : Fz2 v1 (w.heap.size + 1) := by simp [Fz2, ← hv_, go_sem]
  have bA : Below w.heap.size w v1 := by rw [← hv_]; exact (((Below.refl _ w).alloc (by simp) _).alloc (by simp) _)
  replace hx := hx.on bA
  replace cc := bK cc bA
  clear bA
  obtain ⟨k0, k1, k2⟩ : Cs3 v1 w.heap.size (.bool b0) (.slice A0 n0 c0) (.slice B0 m0 d0) := by simp [Cs3, ← hv_, go_sem]
  have kl : w.heap.size < v1.heap.size := by simp [← hv_] <;> omega
  obtain ⟨g0, g1⟩ : Cs2 v1 (w.heap.size + 1) (.bool false) (.slice none 0 0) := by simp [Cs2, ← hv_, go_sem]
  have gl : w.heap.size + 1 < v1.heap.size := by simp [← hv_] <;> omega
  clear hv_
  refine (rdcei_N hx (s0.le (by omega)) h0 h1 ⟨k0, k1, k2⟩).mono ?_
  rintro e w2 ⟨bm, Am, nm, cm, rfl, hm, b⟩
  rewrite [fR b gl] at f0 f1
  replace hx := hx.on b
  rewrite [cR b kl] at k0 k1 k2
  replace kl := lK b kl
  rewrite [cR b gl] at g0 g1
  replace gl := lK b gl
  replace cc := bK cc b
  clear b
  have hn : Zn w2 bm Am nm cm (cei x0 j.toNat) := hm
  have eb : Box w2 (w.heap.size + 1) false none 0 0 := ⟨g0, g1⟩
  have HZ : Hid (Zn ((w2.setCell ⟨w.heap.size + 1, 0, none⟩ (.bool bm)).setCell ⟨w.heap.size + 1, 1, none⟩ (.slice Am nm cm)) bm Am nm cm (cei x0 j.toNat)) := Lib.hid (hn.put eb _ _)
  clear hn
  go_wp2_with fail
  refine bodyPost_ret (v := .tuple #[.agg #[.bool bm, .slice Am nm cm], .int .i64 0]) (by simp [results, Tryz.results93, go_sem, g0, g1]) rfl ⟨_, _, _, _, rfl, HZ.out, below_put cc (by omega) _ _⟩

theorem dback_N {w : World} {b : Bool} {A : Option Addr} {n c : Nat} {z : Int} (ha : Zn w b A n c z) (hz : (limbs z.natAbs).length ≤ 40) {j : Int} (h0 : 0 ≤ j) (h1 : j ≤ 700) :
    Calls Tryz.prog 94 #[.agg #[.bool b, .slice A n c], .int .i64 j] w (GotRp w (bak z j.toNat) 0) := by
  have je := to_nat h0
  have jl : j.toNat ≤ 700 := by omega
  have hj2 : j ≤ 2000 := by omega
  obtain ⟨k, hk⟩ : ∃ k, j.toNat = k := ⟨_, rfl⟩
  rw [hk] at je jl ⊢
  have lk := len_pow7 jl
  have hp : 2 ^ k ≠ 0 := Nat.ne_of_gt (Nat.pow_pos (by omega))
  have l1 : (limbs 1).length ≤ 300 := Nat.le_trans (len_one (by decide)) (by omega)
  have CS : ∀ {W : World} {A : Option Addr} {m c x : Nat}, Num W A m c x → (limbs x).length ≤ 300 → Calls Tryz.prog 123 #[.slice A m c, .int .i64 j] W (GotP W (x * 2 ^ k) 0) := fun ha hx => by rw [← je]; exact dshl_N ha hx (by omega)
  clear hk je
  have cc := Below.refl w.heap.size w
  go_enter Tryz.func94, Tryz.ntmps94
  go_wp2_with fail
  generalize hv_ : (w.alloc (.cells #[.bool b, .slice A n c] 25)).alloc (.cells #[.bool false, .slice none 0 0, .slice none 0 0] 27) = v1
  obtain ⟨f0, f1, f2⟩ : Fz3 v1 (w.heap.size + 1) := by simp [Fz3, ← hv_, go_sem]
  have bA : Below w.heap.size w v1 := by rw [← hv_]; exact (((Below.refl _ w).alloc (by simp) _).alloc (by simp) _)
  replace ha := ha.on bA
  replace cc := bK cc bA
  clear bA
  obtain ⟨k0, k1⟩ : Cs2 v1 w.heap.size (.bool b) (.slice A n c) := by simp [Cs2, ← hv_, go_sem]
  have kl : w.heap.size < v1.heap.size := by simp [← hv_] <;> omega
  obtain ⟨g0, g1, g2⟩ : Cs3 v1 (w.heap.size + 1) (.bool false) (.slice none 0 0) (.slice none 0 0) := by simp [Cs3, ← hv_, go_sem]
  have gl : w.heap.size + 1 < v1.heap.size := by simp [← hv_] <;> omega
  clear hv_
  refine (isgrid_2 _ h0 hj2).mono ?_
  rintro e w2 ⟨rfl, b⟩
  rewrite [fR b gl] at f0 f1 f2
  replace ha := ha.on b
  rewrite [cR b kl] at k0 k1
  replace kl := lK b kl
  rewrite [cR b gl] at g0 g1 g2
  replace gl := lK b gl
  replace cc := bK cc b
  clear b
  go_wp2_with fail
  refine (of_N _ 1 (by decide)).mono ?_
  rintro e w3 ⟨Ao, no, co, rfl, o, b⟩
  rewrite [fR b gl] at f0 f1 f2
  replace ha := ha.on b
  rewrite [cR b kl] at k0 k1
  replace kl := lK b kl
  rewrite [cR b gl] at g0 g1 g2
  replace gl := lK b gl
  replace cc := bK cc b
  clear b
  go_wp2_with fail
  refine (CS o l1).mono ?_
  rintro e w4 ⟨Aq, nq, cq, rfl, q, b⟩
  rw [Nat.one_mul] at q
  rewrite [fR b gl] at f0 f1 f2
  replace ha := ha.on b
  replace o := o.on b
  rewrite [cR b kl] at k0 k1
  replace kl := lK b kl
  rewrite [cR b gl] at g0 g1 g2
  replace gl := lK b gl
  replace cc := bK cc b
  clear b
  go_wp2_with fail
  refine (qmake_N ha q hp (by omega) (by omega)).mono ?_
  rintro e w5 ⟨bm, Am, nm, cm, Bm, mm, dm, rfl, hm, b⟩
  rewrite [fR b gl] at f0 f1 f2
  replace ha := ha.on b
  replace o := o.on b
  replace q := q.on b
  rewrite [cR b kl] at k0 k1
  replace kl := lK b kl
  rewrite [cR b gl] at g0 g1 g2
  replace gl := lK b gl
  replace cc := bK cc b
  clear b
  have hn : Rt w5 bm Am nm cm Bm mm dm (bak z k) := hm
  have eb : BoxR w5 (w.heap.size + 1) false none 0 0 none 0 0 := ⟨g0, g1, g2⟩
  have HZ : Hid (Rt (putR w5 (w.heap.size + 1) (.bool bm) (.slice Am nm cm) (.slice Bm mm dm)) bm Am nm cm Bm mm dm (bak z k)) := Lib.hid (Rt.putR hn eb _ _ _)
  clear hn
  go_wp2_with fail
  refine bodyPost_ret (v := .tuple #[.agg #[.bool bm, .slice Am nm cm, .slice Bm mm dm], .int .i64 0]) (by simp [results, Tryz.results94, go_sem, g0, g1, g2]) rfl ⟨_, _, _, _, _, _, _, rfl, HZ.out, below_putR cc (by omega) _ _ _⟩

end Go.Proofs.YtanpklbconflmaaGreat
