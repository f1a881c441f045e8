/-
  Several texts in one: E6, E7, E8, E9, QM.
-/
import Derived.Test.YtchbhmcaalkfdaaA6
import Derived.Test.YtchbhmcaalkfdaaA2

/-
  The contracts of the fifth reference: over, Cmp.
-/
namespace Go.Proofs.Ytchbhmcaalkfdaa
open Go.RowKit
set_option linter.unusedVariables false

theorem zn_nat {w : World} {B : Option Addr} {m d q : Nat} (h : Num w B m d q) : Zn w false B m d (q : Int) := ⟨by rw [Int.natAbs_natCast]; exact h, by simp⟩

set_option maxRecDepth 100000 in
set_option maxHeartbeats 8000000 in
theorem over_N {w : World} {b : Bool} {A B : Option Addr} {n c m d q : Nat} {p : Int} (ha : Zn w b A n c p) (hb : Num w B m d q) (hx : (limbs p.natAbs).length ≤ 1000) (hy : (limbs q).length ≤ 1000) :
    Calls Try.prog 54 #[.agg #[.bool b, .slice A n c], .slice B m d] w (GotZ w (p * (q : Int))) := by
  have hz := zn_nat hb
  have hl : (limbs (q : Int).natAbs).length ≤ 1000 := by rw [Int.natAbs_natCast]; exact hy
  have cc := Below.refl w.heap.size w
  go_enter Try.func54, Try.ntmps54
  go_wp2_with fail
  have f0 : ((w.alloc (.cells #[.bool b, .slice A n c] 25)).alloc (.cells #[.bool false, .slice none 0 0] 25)).frozen? ⟨w.heap.size + 1, 0, none⟩ = false := by simp [go_sem]
  have f1 : ((w.alloc (.cells #[.bool b, .slice A n c] 25)).alloc (.cells #[.bool false, .slice none 0 0] 25)).frozen? ⟨w.heap.size + 1, 1, none⟩ = false := by simp [go_sem]
  have bA : Below w.heap.size w ((w.alloc (.cells #[.bool b, .slice A n c] 25)).alloc (.cells #[.bool false, .slice none 0 0] 25)) := (((Below.refl _ w).alloc (by simp) _).alloc (by simp) _)
  replace ha := ha.on bA
  replace hz := hz.on bA
  replace cc := bK cc bA
  clear bA
  have k0 : ((w.alloc (.cells #[.bool b, .slice A n c] 25)).alloc (.cells #[.bool false, .slice none 0 0] 25)).cell? ⟨w.heap.size, 0, none⟩ = some (.bool b) := by simp [go_sem]
  have k1 : ((w.alloc (.cells #[.bool b, .slice A n c] 25)).alloc (.cells #[.bool false, .slice none 0 0] 25)).cell? ⟨w.heap.size, 1, none⟩ = some (.slice A n c) := by simp [go_sem]
  have kl : w.heap.size < ((w.alloc (.cells #[.bool b, .slice A n c] 25)).alloc (.cells #[.bool false, .slice none 0 0] 25)).heap.size := by simp <;> omega
  have g0 : ((w.alloc (.cells #[.bool b, .slice A n c] 25)).alloc (.cells #[.bool false, .slice none 0 0] 25)).cell? ⟨w.heap.size + 1, 0, none⟩ = some (.bool false) := by simp [go_sem]
  have g1 : ((w.alloc (.cells #[.bool b, .slice A n c] 25)).alloc (.cells #[.bool false, .slice none 0 0] 25)).cell? ⟨w.heap.size + 1, 1, none⟩ = some (.slice none 0 0) := by simp [go_sem]
  have gl : w.heap.size + 1 < ((w.alloc (.cells #[.bool b, .slice A n c] 25)).alloc (.cells #[.bool false, .slice none 0 0] 25)).heap.size := by simp <;> omega
  generalize (w.alloc (.cells #[.bool b, .slice A n c] 25)).alloc (.cells #[.bool false, .slice none 0 0] 25) = v1 at *
  refine (rzmul_N ha hz hx hl).mono ?_
  rintro e w2 ⟨bm, Am, nm, cm, rfl, hm, b⟩
  replace f0 := fK b f0 gl
  replace f1 := fK b f1 gl
  replace ha := ha.on b
  replace hz := hz.on b
  replace k0 := cK b k0 kl
  replace k1 := cK b k1 kl
  replace kl := lK b kl
  replace g0 := cK b g0 gl
  replace g1 := cK b g1 gl
  replace gl := lK b gl
  replace cc := bK cc b
  clear b
  go_wp2_with fail
  have eb : Box w2 (w.heap.size + 1) false none 0 0 := ⟨g0, g1⟩
  refine bodyPost_ret (v := .agg #[.bool bm, .slice Am nm cm]) (by simp [results, Try.results54, go_sem, g0, g1]) rfl ⟨_, _, _, _, rfl, hm.put eb _ _, below_put cc (by omega) _ _⟩

set_option maxRecDepth 100000 in
set_option maxHeartbeats 8000000 in
theorem rtcmp_N {w : World} {b0 b1 : Bool} {A0 B0 A1 B1 : Option Addr} {n0 c0 m0 d0 n1 c1 m1 d1 : Nat} {x0 x1 : Rat} (h0 : Rt w b0 A0 n0 c0 B0 m0 d0 x0) (s0 : Sz x0 100) (h1 : Rt w b1 A1 n1 c1 B1 m1 d1 x1) (s1 : Sz x1 100) :
    Calls Try.prog 23 #[.agg #[.bool b0, .slice A0 n0 c0, .slice B0 m0 d0], .agg #[.bool b1, .slice A1 n1 c1, .slice B1 m1 d1]] w (GotV w (.int .i64 (cmpQ x0 x1))) := by
  have p0 := h0.1
  have q0 := h0.2
  have lp0 := s0.1
  have lq0 := s0.2
  have p1 := h1.1
  have q1 := h1.2
  have lp1 := s1.1
  have lq1 := s1.2
  clear h0
  clear h1
  have lA : (limbs (x0.num * (x1.den : Int)).natAbs).length ≤ 200 := by rw [natAbs_over]; exact limbs_length_mul lp0 lq1
  have lB : (limbs (x1.num * (x0.den : Int)).natAbs).length ≤ 200 := by rw [natAbs_over]; exact limbs_length_mul lp1 lq0
  have cc := Below.refl w.heap.size w
  go_enter Try.func23, Try.ntmps23
  go_wp2_with fail
  have bA : Below w.heap.size w ((w.alloc (.cells #[.bool b0, .slice A0 n0 c0, .slice B0 m0 d0] 27)).alloc (.cells #[.bool b1, .slice A1 n1 c1, .slice B1 m1 d1] 27)) := (((Below.refl _ w).alloc (by simp) _).alloc (by simp) _)
  replace p0 := p0.on bA
  replace q0 := q0.on bA
  replace p1 := p1.on bA
  replace q1 := q1.on bA
  replace cc := bK cc bA
  clear bA
  have k0 : ((w.alloc (.cells #[.bool b0, .slice A0 n0 c0, .slice B0 m0 d0] 27)).alloc (.cells #[.bool b1, .slice A1 n1 c1, .slice B1 m1 d1] 27)).cell? ⟨w.heap.size, 0, none⟩ = some (.bool b0) := by simp [go_sem]
  have k1 : ((w.alloc (.cells #[.bool b0, .slice A0 n0 c0, .slice B0 m0 d0] 27)).alloc (.cells #[.bool b1, .slice A1 n1 c1, .slice B1 m1 d1] 27)).cell? ⟨w.heap.size, 1, none⟩ = some (.slice A0 n0 c0) := by simp [go_sem]
  have k2 : ((w.alloc (.cells #[.bool b0, .slice A0 n0 c0, .slice B0 m0 d0] 27)).alloc (.cells #[.bool b1, .slice A1 n1 c1, .slice B1 m1 d1] 27)).cell? ⟨w.heap.size, 2, none⟩ = some (.slice B0 m0 d0) := by simp [go_sem]
  have kl : w.heap.size < ((w.alloc (.cells #[.bool b0, .slice A0 n0 c0, .slice B0 m0 d0] 27)).alloc (.cells #[.bool b1, .slice A1 n1 c1, .slice B1 m1 d1] 27)).heap.size := by simp <;> omega
  have g0 : ((w.alloc (.cells #[.bool b0, .slice A0 n0 c0, .slice B0 m0 d0] 27)).alloc (.cells #[.bool b1, .slice A1 n1 c1, .slice B1 m1 d1] 27)).cell? ⟨w.heap.size + 1, 0, none⟩ = some (.bool b1) := by simp [go_sem]
  have g1 : ((w.alloc (.cells #[.bool b0, .slice A0 n0 c0, .slice B0 m0 d0] 27)).alloc (.cells #[.bool b1, .slice A1 n1 c1, .slice B1 m1 d1] 27)).cell? ⟨w.heap.size + 1, 1, none⟩ = some (.slice A1 n1 c1) := by simp [go_sem]
  have g2 : ((w.alloc (.cells #[.bool b0, .slice A0 n0 c0, .slice B0 m0 d0] 27)).alloc (.cells #[.bool b1, .slice A1 n1 c1, .slice B1 m1 d1] 27)).cell? ⟨w.heap.size + 1, 2, none⟩ = some (.slice B1 m1 d1) := by simp [go_sem]
  have gl : w.heap.size + 1 < ((w.alloc (.cells #[.bool b0, .slice A0 n0 c0, .slice B0 m0 d0] 27)).alloc (.cells #[.bool b1, .slice A1 n1 c1, .slice B1 m1 d1] 27)).heap.size := by simp <;> omega
  generalize (w.alloc (.cells #[.bool b0, .slice A0 n0 c0, .slice B0 m0 d0] 27)).alloc (.cells #[.bool b1, .slice A1 n1 c1, .slice B1 m1 d1] 27) = v1 at *
  have qq : Below v1.heap.size v1 v1.drew := below_drewN (Below.refl _ v1) 1
  have p0' := p0.on qq
  have q0' := q0.on qq
  have p1' := p1.on qq
  have q1' := q1.on qq
  go_region_held3 (fun w' => w'.cell? ⟨w.heap.size, 0, none⟩ = some (.bool b0) ∧ w'.cell? ⟨w.heap.size, 1, none⟩ = some (.slice A0 n0 c0) ∧ w'.cell? ⟨w.heap.size, 2, none⟩ = some (.slice B0 m0 d0) ∧ w'.cell? ⟨w.heap.size + 1, 0, none⟩ = some (.bool b1) ∧ w'.cell? ⟨w.heap.size + 1, 1, none⟩ = some (.slice A1 n1 c1) ∧ w'.cell? ⟨w.heap.size + 1, 2, none⟩ = some (.slice B1 m1 d1))
    (first | with_reducible exact ⟨cK qq k0 kl, cK qq k1 kl, cK qq k2 kl, cK qq g0 gl, cK qq g1 gl, cK qq g2 gl⟩ | go_keep)
    (first
      | (go_at_call 54; (with_reducible refine (over_N p0' q1' (Nat.le_trans lp0 (by omega)) (Nat.le_trans lq1 (by omega))).mono ?_); rintro e wz ⟨bu, Au, nu, cu, rfl, u, q⟩; replace qq := bK qq q; (try replace p0' := p0'.on q); (try replace q0' := q0'.on q); (try replace p1' := p1'.on q); (try replace q1' := q1'.on q); (try replace v := v.on q); clear q)
      | (go_at_call 54; (with_reducible refine (over_N p1' q0' (Nat.le_trans lp1 (by omega)) (Nat.le_trans lq0 (by omega))).mono ?_); rintro e wz ⟨bv, Av, nv, cv, rfl, v, q⟩; replace qq := bK qq q; (try replace p0' := p0'.on q); (try replace q0' := q0'.on q); (try replace p1' := p1'.on q); (try replace q1' := q1'.on q); (try replace u := u.on q); clear q)
      | (go_at_call 29; (with_reducible refine (rzcmp_N u v (Nat.le_trans lA (by omega)) (Nat.le_trans lB (by omega))).mono ?_); rintro e wz ⟨rfl, q⟩; replace qq := bK qq q; (try replace p0' := p0'.on q); (try replace q0' := q0'.on q); (try replace p1' := p1'.on q); (try replace q1' := q1'.on q); (try replace u := u.on q); (try replace v := v.on q); clear q))
  clear p0
  have p0 := p0'
  clear p0'
  clear q0
  have q0 := q0'
  clear q0'
  clear p1
  have p1 := p1'
  clear p1'
  clear q1
  have q1 := q1'
  clear q1'
  replace k0 := cK qq k0 kl
  replace k1 := cK qq k1 kl
  replace k2 := cK qq k2 kl
  replace kl := lK qq kl
  replace g0 := cK qq g0 gl
  replace g1 := cK qq g1 gl
  replace g2 := cK qq g2 gl
  replace gl := lK qq gl
  replace cc := bK cc qq
  clear qq
  go_wp2_with fail
  go_ret
  refine ⟨?_, cc⟩
  rw [cmpQ_eq]
  rfl

set_option maxRecDepth 100000 in
set_option maxHeartbeats 8000000 in
theorem rtadd_N {w : World} {b0 b1 : Bool} {A0 B0 A1 B1 : Option Addr} {n0 c0 m0 d0 n1 c1 m1 d1 : Nat} {x0 x1 : Rat} (h0 : Rt w b0 A0 n0 c0 B0 m0 d0 x0) (s0 : Sz x0 40) (h1 : Rt w b1 A1 n1 c1 B1 m1 d1 x1) (s1 : Sz x1 40) :
    Calls Try.prog 26 #[.agg #[.bool b0, .slice A0 n0 c0, .slice B0 m0 d0], .agg #[.bool b1, .slice A1 n1 c1, .slice B1 m1 d1]] w (GotRt w (x0 + x1)) := by
  have p0 := h0.1
  have q0 := h0.2
  have lp0 := s0.1
  have lq0 := s0.2
  have p1 := h1.1
  have q1 := h1.2
  have lp1 := s1.1
  have lq1 := s1.2
  clear h0
  clear h1
  have hq := den_mul_ne x0 x1
  have lD : (limbs (x0.den * x1.den)).length ≤ 100 := Nat.le_trans (limbs_length_mul lq0 lq1) (by omega)
  have lA : (limbs (x0.num * (x1.den : Int)).natAbs).length ≤ 80 := by rw [natAbs_over]; exact limbs_length_mul lp0 lq1
  have lB : (limbs (x1.num * (x0.den : Int)).natAbs).length ≤ 80 := by rw [natAbs_over]; exact limbs_length_mul lp1 lq0
  have lC : (limbs (x0.num * (x1.den : Int) + x1.num * (x0.den : Int)).natAbs).length ≤ 100 := Nat.le_trans (zlen_add (k := 80) lA lB) (by omega)
  have HE : Hid (x0 + x1 = mkRat (x0.num * (x1.den : Int) + x1.num * (x0.den : Int)) (x0.den * x1.den)) := Lib.hid (Rat.add_def' x0 x1)
  have cc := Below.refl w.heap.size w
  go_enter Try.func26, Try.ntmps26
  go_wp2_with fail
  have f0 : (((w.alloc (.cells #[.bool b0, .slice A0 n0 c0, .slice B0 m0 d0] 27)).alloc (.cells #[.bool b1, .slice A1 n1 c1, .slice B1 m1 d1] 27)).alloc (.cells #[.bool false, .slice none 0 0, .slice none 0 0] 27)).frozen? ⟨w.heap.size + 1 + 1, 0, none⟩ = false := by simp [go_sem]
  have f1 : (((w.alloc (.cells #[.bool b0, .slice A0 n0 c0, .slice B0 m0 d0] 27)).alloc (.cells #[.bool b1, .slice A1 n1 c1, .slice B1 m1 d1] 27)).alloc (.cells #[.bool false, .slice none 0 0, .slice none 0 0] 27)).frozen? ⟨w.heap.size + 1 + 1, 1, none⟩ = false := by simp [go_sem]
  have f2 : (((w.alloc (.cells #[.bool b0, .slice A0 n0 c0, .slice B0 m0 d0] 27)).alloc (.cells #[.bool b1, .slice A1 n1 c1, .slice B1 m1 d1] 27)).alloc (.cells #[.bool false, .slice none 0 0, .slice none 0 0] 27)).frozen? ⟨w.heap.size + 1 + 1, 2, none⟩ = false := by simp [go_sem]
  have bA : Below w.heap.size w (((w.alloc (.cells #[.bool b0, .slice A0 n0 c0, .slice B0 m0 d0] 27)).alloc (.cells #[.bool b1, .slice A1 n1 c1, .slice B1 m1 d1] 27)).alloc (.cells #[.bool false, .slice none 0 0, .slice none 0 0] 27)) := ((((Below.refl _ w).alloc (by simp) _).alloc (by simp) _).alloc (by simp <;> omega) _)
  replace p0 := p0.on bA
  replace q0 := q0.on bA
  replace p1 := p1.on bA
  replace q1 := q1.on bA
  replace cc := bK cc bA
  clear bA
  have k0 : (((w.alloc (.cells #[.bool b0, .slice A0 n0 c0, .slice B0 m0 d0] 27)).alloc (.cells #[.bool b1, .slice A1 n1 c1, .slice B1 m1 d1] 27)).alloc (.cells #[.bool false, .slice none 0 0, .slice none 0 0] 27)).cell? ⟨w.heap.size, 0, none⟩ = some (.bool b0) := by simp [go_sem]
  have k1 : (((w.alloc (.cells #[.bool b0, .slice A0 n0 c0, .slice B0 m0 d0] 27)).alloc (.cells #[.bool b1, .slice A1 n1 c1, .slice B1 m1 d1] 27)).alloc (.cells #[.bool false, .slice none 0 0, .slice none 0 0] 27)).cell? ⟨w.heap.size, 1, none⟩ = some (.slice A0 n0 c0) := by simp [go_sem]
  have k2 : (((w.alloc (.cells #[.bool b0, .slice A0 n0 c0, .slice B0 m0 d0] 27)).alloc (.cells #[.bool b1, .slice A1 n1 c1, .slice B1 m1 d1] 27)).alloc (.cells #[.bool false, .slice none 0 0, .slice none 0 0] 27)).cell? ⟨w.heap.size, 2, none⟩ = some (.slice B0 m0 d0) := by simp [go_sem]
  have kl : w.heap.size < (((w.alloc (.cells #[.bool b0, .slice A0 n0 c0, .slice B0 m0 d0] 27)).alloc (.cells #[.bool b1, .slice A1 n1 c1, .slice B1 m1 d1] 27)).alloc (.cells #[.bool false, .slice none 0 0, .slice none 0 0] 27)).heap.size := by simp <;> omega
  have h0 : (((w.alloc (.cells #[.bool b0, .slice A0 n0 c0, .slice B0 m0 d0] 27)).alloc (.cells #[.bool b1, .slice A1 n1 c1, .slice B1 m1 d1] 27)).alloc (.cells #[.bool false, .slice none 0 0, .slice none 0 0] 27)).cell? ⟨w.heap.size + 1, 0, none⟩ = some (.bool b1) := by simp [go_sem]
  have h1 : (((w.alloc (.cells #[.bool b0, .slice A0 n0 c0, .slice B0 m0 d0] 27)).alloc (.cells #[.bool b1, .slice A1 n1 c1, .slice B1 m1 d1] 27)).alloc (.cells #[.bool false, .slice none 0 0, .slice none 0 0] 27)).cell? ⟨w.heap.size + 1, 1, none⟩ = some (.slice A1 n1 c1) := by simp [go_sem]
  have h2 : (((w.alloc (.cells #[.bool b0, .slice A0 n0 c0, .slice B0 m0 d0] 27)).alloc (.cells #[.bool b1, .slice A1 n1 c1, .slice B1 m1 d1] 27)).alloc (.cells #[.bool false, .slice none 0 0, .slice none 0 0] 27)).cell? ⟨w.heap.size + 1, 2, none⟩ = some (.slice B1 m1 d1) := by simp [go_sem]
  have hl : w.heap.size + 1 < (((w.alloc (.cells #[.bool b0, .slice A0 n0 c0, .slice B0 m0 d0] 27)).alloc (.cells #[.bool b1, .slice A1 n1 c1, .slice B1 m1 d1] 27)).alloc (.cells #[.bool false, .slice none 0 0, .slice none 0 0] 27)).heap.size := by simp <;> omega
  have g0 : (((w.alloc (.cells #[.bool b0, .slice A0 n0 c0, .slice B0 m0 d0] 27)).alloc (.cells #[.bool b1, .slice A1 n1 c1, .slice B1 m1 d1] 27)).alloc (.cells #[.bool false, .slice none 0 0, .slice none 0 0] 27)).cell? ⟨w.heap.size + 1 + 1, 0, none⟩ = some (.bool false) := by simp [go_sem]
  have g1 : (((w.alloc (.cells #[.bool b0, .slice A0 n0 c0, .slice B0 m0 d0] 27)).alloc (.cells #[.bool b1, .slice A1 n1 c1, .slice B1 m1 d1] 27)).alloc (.cells #[.bool false, .slice none 0 0, .slice none 0 0] 27)).cell? ⟨w.heap.size + 1 + 1, 1, none⟩ = some (.slice none 0 0) := by simp [go_sem]
  have g2 : (((w.alloc (.cells #[.bool b0, .slice A0 n0 c0, .slice B0 m0 d0] 27)).alloc (.cells #[.bool b1, .slice A1 n1 c1, .slice B1 m1 d1] 27)).alloc (.cells #[.bool false, .slice none 0 0, .slice none 0 0] 27)).cell? ⟨w.heap.size + 1 + 1, 2, none⟩ = some (.slice none 0 0) := by simp [go_sem]
  have gl : w.heap.size + 1 + 1 < (((w.alloc (.cells #[.bool b0, .slice A0 n0 c0, .slice B0 m0 d0] 27)).alloc (.cells #[.bool b1, .slice A1 n1 c1, .slice B1 m1 d1] 27)).alloc (.cells #[.bool false, .slice none 0 0, .slice none 0 0] 27)).heap.size := by simp <;> omega
  generalize ((w.alloc (.cells #[.bool b0, .slice A0 n0 c0, .slice B0 m0 d0] 27)).alloc (.cells #[.bool b1, .slice A1 n1 c1, .slice B1 m1 d1] 27)).alloc (.cells #[.bool false, .slice none 0 0, .slice none 0 0] 27) = v1 at *
  go_upto_region 1 with fail
  go_cut [5] (fun u wx => ∃ (g : Nat) (b : Bool) (A : Option Addr) (n c : Nat) (B : Option Addr) (m d : Nat), u = .pointer (some ⟨g, 0, none⟩) ∧ Lone v1 wx g b A n c B m d (mkRat (x0.num * (x1.den : Int) + x1.num * (x0.den : Int)) (x0.den * x1.den)))
  case first =>
    have BB0 : Below v1.heap.size v1 v1.drew := below_drewN (Below.refl _ v1) 1
    have BB1 : Below v1.heap.size v1 (v1.alloc (.cells #[.bool false, .slice none 0 0, .slice none 0 0] 27)).drew := below_drewN (below_one _ _) 1
    go_region_held3 (fun w' => w'.cell? ⟨w.heap.size, 0, none⟩ = some (.bool b0) ∧ w'.cell? ⟨w.heap.size, 1, none⟩ = some (.slice A0 n0 c0) ∧ w'.cell? ⟨w.heap.size, 2, none⟩ = some (.slice B0 m0 d0) ∧ w'.cell? ⟨w.heap.size + 1, 0, none⟩ = some (.bool b1) ∧ w'.cell? ⟨w.heap.size + 1, 1, none⟩ = some (.slice A1 n1 c1) ∧ w'.cell? ⟨w.heap.size + 1, 2, none⟩ = some (.slice B1 m1 d1) ∧ w'.cell? ⟨w.heap.size + 1 + 1, 0, none⟩ = some (.bool false) ∧ w'.cell? ⟨w.heap.size + 1 + 1, 1, none⟩ = some (.slice none 0 0) ∧ w'.cell? ⟨w.heap.size + 1 + 1, 2, none⟩ = some (.slice none 0 0))
      (first | with_reducible exact ⟨k0, k1, k2, h0, h1, h2, g0, g1, g2⟩ | with_reducible exact ⟨keep_alloc (k0), keep_alloc (k1), keep_alloc (k2), keep_alloc (h0), keep_alloc (h1), keep_alloc (h2), keep_alloc (g0), keep_alloc (g1), keep_alloc (g2)⟩ | with_reducible exact ⟨keep_alloc (keep_alloc (k0)), keep_alloc (keep_alloc (k1)), keep_alloc (keep_alloc (k2)), keep_alloc (keep_alloc (h0)), keep_alloc (keep_alloc (h1)), keep_alloc (keep_alloc (h2)), keep_alloc (keep_alloc (g0)), keep_alloc (keep_alloc (g1)), keep_alloc (keep_alloc (g2))⟩ | with_reducible exact ⟨(cK qq k0 kl), (cK qq k1 kl), (cK qq k2 kl), (cK qq h0 hl), (cK qq h1 hl), (cK qq h2 hl), (cK qq g0 gl), (cK qq g1 gl), (cK qq g2 gl)⟩ | with_reducible exact ⟨keep_alloc ((cK qq k0 kl)), keep_alloc ((cK qq k1 kl)), keep_alloc ((cK qq k2 kl)), keep_alloc ((cK qq h0 hl)), keep_alloc ((cK qq h1 hl)), keep_alloc ((cK qq h2 hl)), keep_alloc ((cK qq g0 gl)), keep_alloc ((cK qq g1 gl)), keep_alloc ((cK qq g2 gl))⟩ | with_reducible exact ⟨keep_alloc (keep_alloc ((cK qq k0 kl))), keep_alloc (keep_alloc ((cK qq k1 kl))), keep_alloc (keep_alloc ((cK qq k2 kl))), keep_alloc (keep_alloc ((cK qq h0 hl))), keep_alloc (keep_alloc ((cK qq h1 hl))), keep_alloc (keep_alloc ((cK qq h2 hl))), keep_alloc (keep_alloc ((cK qq g0 gl))), keep_alloc (keep_alloc ((cK qq g1 gl))), keep_alloc (keep_alloc ((cK qq g2 gl)))⟩ | with_reducible exact ⟨((cell_putR (by omega)).trans (cK qq k0 kl)), ((cell_putR (by omega)).trans (cK qq k1 kl)), ((cell_putR (by omega)).trans (cK qq k2 kl)), ((cell_putR (by omega)).trans (cK qq h0 hl)), ((cell_putR (by omega)).trans (cK qq h1 hl)), ((cell_putR (by omega)).trans (cK qq h2 hl)), ((cell_putR (by omega)).trans (cK qq g0 gl)), ((cell_putR (by omega)).trans (cK qq g1 gl)), ((cell_putR (by omega)).trans (cK qq g2 gl))⟩ | with_reducible exact ⟨keep_alloc (((cell_putR (by omega)).trans (cK qq k0 kl))), keep_alloc (((cell_putR (by omega)).trans (cK qq k1 kl))), keep_alloc (((cell_putR (by omega)).trans (cK qq k2 kl))), keep_alloc (((cell_putR (by omega)).trans (cK qq h0 hl))), keep_alloc (((cell_putR (by omega)).trans (cK qq h1 hl))), keep_alloc (((cell_putR (by omega)).trans (cK qq h2 hl))), keep_alloc (((cell_putR (by omega)).trans (cK qq g0 gl))), keep_alloc (((cell_putR (by omega)).trans (cK qq g1 gl))), keep_alloc (((cell_putR (by omega)).trans (cK qq g2 gl)))⟩ | with_reducible exact ⟨keep_alloc (keep_alloc (((cell_putR (by omega)).trans (cK qq k0 kl)))), keep_alloc (keep_alloc (((cell_putR (by omega)).trans (cK qq k1 kl)))), keep_alloc (keep_alloc (((cell_putR (by omega)).trans (cK qq k2 kl)))), keep_alloc (keep_alloc (((cell_putR (by omega)).trans (cK qq h0 hl)))), keep_alloc (keep_alloc (((cell_putR (by omega)).trans (cK qq h1 hl)))), keep_alloc (keep_alloc (((cell_putR (by omega)).trans (cK qq h2 hl)))), keep_alloc (keep_alloc (((cell_putR (by omega)).trans (cK qq g0 gl)))), keep_alloc (keep_alloc (((cell_putR (by omega)).trans (cK qq g1 gl)))), keep_alloc (keep_alloc (((cell_putR (by omega)).trans (cK qq g2 gl))))⟩ | with_reducible exact ⟨((cell_putR (by omega)).trans ((cell_putR (by omega)).trans (cK qq k0 kl))), ((cell_putR (by omega)).trans ((cell_putR (by omega)).trans (cK qq k1 kl))), ((cell_putR (by omega)).trans ((cell_putR (by omega)).trans (cK qq k2 kl))), ((cell_putR (by omega)).trans ((cell_putR (by omega)).trans (cK qq h0 hl))), ((cell_putR (by omega)).trans ((cell_putR (by omega)).trans (cK qq h1 hl))), ((cell_putR (by omega)).trans ((cell_putR (by omega)).trans (cK qq h2 hl))), ((cell_putR (by omega)).trans ((cell_putR (by omega)).trans (cK qq g0 gl))), ((cell_putR (by omega)).trans ((cell_putR (by omega)).trans (cK qq g1 gl))), ((cell_putR (by omega)).trans ((cell_putR (by omega)).trans (cK qq g2 gl)))⟩ | with_reducible exact ⟨keep_alloc (((cell_putR (by omega)).trans ((cell_putR (by omega)).trans (cK qq k0 kl)))), keep_alloc (((cell_putR (by omega)).trans ((cell_putR (by omega)).trans (cK qq k1 kl)))), keep_alloc (((cell_putR (by omega)).trans ((cell_putR (by omega)).trans (cK qq k2 kl)))), keep_alloc (((cell_putR (by omega)).trans ((cell_putR (by omega)).trans (cK qq h0 hl)))), keep_alloc (((cell_putR (by omega)).trans ((cell_putR (by omega)).trans (cK qq h1 hl)))), keep_alloc (((cell_putR (by omega)).trans ((cell_putR (by omega)).trans (cK qq h2 hl)))), keep_alloc (((cell_putR (by omega)).trans ((cell_putR (by omega)).trans (cK qq g0 gl)))), keep_alloc (((cell_putR (by omega)).trans ((cell_putR (by omega)).trans (cK qq g1 gl)))), keep_alloc (((cell_putR (by omega)).trans ((cell_putR (by omega)).trans (cK qq g2 gl))))⟩ | with_reducible exact ⟨keep_alloc (keep_alloc (((cell_putR (by omega)).trans ((cell_putR (by omega)).trans (cK qq k0 kl))))), keep_alloc (keep_alloc (((cell_putR (by omega)).trans ((cell_putR (by omega)).trans (cK qq k1 kl))))), keep_alloc (keep_alloc (((cell_putR (by omega)).trans ((cell_putR (by omega)).trans (cK qq k2 kl))))), keep_alloc (keep_alloc (((cell_putR (by omega)).trans ((cell_putR (by omega)).trans (cK qq h0 hl))))), keep_alloc (keep_alloc (((cell_putR (by omega)).trans ((cell_putR (by omega)).trans (cK qq h1 hl))))), keep_alloc (keep_alloc (((cell_putR (by omega)).trans ((cell_putR (by omega)).trans (cK qq h2 hl))))), keep_alloc (keep_alloc (((cell_putR (by omega)).trans ((cell_putR (by omega)).trans (cK qq g0 gl))))), keep_alloc (keep_alloc (((cell_putR (by omega)).trans ((cell_putR (by omega)).trans (cK qq g1 gl))))), keep_alloc (keep_alloc (((cell_putR (by omega)).trans ((cell_putR (by omega)).trans (cK qq g2 gl)))))⟩ | go_keep)
      (first
        | (go_at_call 54; (with_reducible refine (over_N (p0.on BB0) (q1.on BB0) (Nat.le_trans lp0 (by omega)) (Nat.le_trans lq1 (by omega))).mono ?_); rintro e y1 ⟨bu, Au, nu, cu, rfl, u, q⟩; have qq := BB0.trans (q.mono BB0.size); have p0' := (p0.on BB0).on q; have q0' := (q0.on BB0).on q; have p1' := (p1.on BB0).on q; have q1' := (q1.on BB0).on q; have qs1 := qq.size; clear q)
        | (go_at_call 54; (with_reducible refine (over_N (p0.on BB1) (q1.on BB1) (Nat.le_trans lp0 (by omega)) (Nat.le_trans lq1 (by omega))).mono ?_); rintro e y1 ⟨bu, Au, nu, cu, rfl, u, q⟩; have qq := BB1.trans (q.mono BB1.size); have p0' := (p0.on BB1).on q; have q0' := (q0.on BB1).on q; have p1' := (p1.on BB1).on q; have q1' := (q1.on BB1).on q; have qs1 := qq.size; have bo_0 := (q.cell (p := ⟨v1.heap.size, 0, none⟩) (by simp)).trans (show _ = some (.bool false) by simp [go_sem]); have fo_0 := (q.frozen (p := ⟨v1.heap.size, 0, none⟩) (by simp)).trans (show _ = false by simp [go_sem]); have bo_1 := (q.cell (p := ⟨v1.heap.size, 1, none⟩) (by simp)).trans (show _ = some (.slice none 0 0) by simp [go_sem]); have fo_1 := (q.frozen (p := ⟨v1.heap.size, 1, none⟩) (by simp)).trans (show _ = false by simp [go_sem]); have bo_2 := (q.cell (p := ⟨v1.heap.size, 2, none⟩) (by simp)).trans (show _ = some (.slice none 0 0) by simp [go_sem]); have fo_2 := (q.frozen (p := ⟨v1.heap.size, 2, none⟩) (by simp)).trans (show _ = false by simp [go_sem]); have ol : v1.heap.size < y1.heap.size := Nat.lt_of_lt_of_le (by simp) q.size; clear q)
        | (go_at_call 54; have up := Below.refl y1.heap.size y1; (with_reducible refine (over_N (p1'.on up) (q0'.on up) (Nat.le_trans lp1 (by omega)) (Nat.le_trans lq0 (by omega))).mono ?_); rintro e y2 ⟨bv, Av, nv, cv, rfl, v, q⟩; replace qq := (qq.trans (up.mono qq.size)).trans (q.mono (Nat.le_trans qq.size up.size)); replace p0' := (p0'.on up).on q; replace q0' := (q0'.on up).on q; replace p1' := (p1'.on up).on q; replace q1' := (q1'.on up).on q; replace u := (u.on up).on q; (try replace bo_0 := (q.cell (Nat.lt_of_lt_of_le ol up.size)).trans ((up.cell ol).trans bo_0)); (try replace fo_0 := (q.frozen (Nat.lt_of_lt_of_le ol up.size)).trans ((up.frozen ol).trans fo_0)); (try replace bo_1 := (q.cell (Nat.lt_of_lt_of_le ol up.size)).trans ((up.cell ol).trans bo_1)); (try replace fo_1 := (q.frozen (Nat.lt_of_lt_of_le ol up.size)).trans ((up.frozen ol).trans fo_1)); (try replace bo_2 := (q.cell (Nat.lt_of_lt_of_le ol up.size)).trans ((up.cell ol).trans bo_2)); (try replace fo_2 := (q.frozen (Nat.lt_of_lt_of_le ol up.size)).trans ((up.frozen ol).trans fo_2)); (try replace ol := Nat.lt_of_lt_of_le ol (Nat.le_trans up.size q.size)); have qs2 := qq.size; clear q up)
        | (go_at_call 54; have up := below_one y1 (.cells #[.bool false, .slice none 0 0, .slice none 0 0] 27); (with_reducible refine (over_N (p1'.on up) (q0'.on up) (Nat.le_trans lp1 (by omega)) (Nat.le_trans lq0 (by omega))).mono ?_); rintro e y2 ⟨bv, Av, nv, cv, rfl, v, q⟩; replace qq := (qq.trans (up.mono qq.size)).trans (q.mono (Nat.le_trans qq.size up.size)); replace p0' := (p0'.on up).on q; replace q0' := (q0'.on up).on q; replace p1' := (p1'.on up).on q; replace q1' := (q1'.on up).on q; replace u := (u.on up).on q; (try replace bo_0 := (q.cell (Nat.lt_of_lt_of_le ol up.size)).trans ((up.cell ol).trans bo_0)); (try replace fo_0 := (q.frozen (Nat.lt_of_lt_of_le ol up.size)).trans ((up.frozen ol).trans fo_0)); (try replace bo_1 := (q.cell (Nat.lt_of_lt_of_le ol up.size)).trans ((up.cell ol).trans bo_1)); (try replace fo_1 := (q.frozen (Nat.lt_of_lt_of_le ol up.size)).trans ((up.frozen ol).trans fo_1)); (try replace bo_2 := (q.cell (Nat.lt_of_lt_of_le ol up.size)).trans ((up.cell ol).trans bo_2)); (try replace fo_2 := (q.frozen (Nat.lt_of_lt_of_le ol up.size)).trans ((up.frozen ol).trans fo_2)); (try replace ol := Nat.lt_of_lt_of_le ol (Nat.le_trans up.size q.size)); have qs2 := qq.size; have bo_0 := (q.cell (p := ⟨y1.heap.size, 0, none⟩) (by simp)).trans (show _ = some (.bool false) by simp [go_sem]); have fo_0 := (q.frozen (p := ⟨y1.heap.size, 0, none⟩) (by simp)).trans (show _ = false by simp [go_sem]); have bo_1 := (q.cell (p := ⟨y1.heap.size, 1, none⟩) (by simp)).trans (show _ = some (.slice none 0 0) by simp [go_sem]); have fo_1 := (q.frozen (p := ⟨y1.heap.size, 1, none⟩) (by simp)).trans (show _ = false by simp [go_sem]); have bo_2 := (q.cell (p := ⟨y1.heap.size, 2, none⟩) (by simp)).trans (show _ = some (.slice none 0 0) by simp [go_sem]); have fo_2 := (q.frozen (p := ⟨y1.heap.size, 2, none⟩) (by simp)).trans (show _ = false by simp [go_sem]); have ol : y1.heap.size < y2.heap.size := Nat.lt_of_lt_of_le (by simp) q.size; clear q up)
        | (go_at_call 31; have up := Below.refl y2.heap.size y2; (with_reducible refine (rzadd_N (u.on up) (v.on up) (Nat.le_trans lA (by omega)) (Nat.le_trans lB (by omega))).mono ?_); rintro e y3 ⟨bs, As, ns, cs, rfl, s, q⟩; replace qq := (qq.trans (up.mono qq.size)).trans (q.mono (Nat.le_trans qq.size up.size)); replace p0' := (p0'.on up).on q; replace q0' := (q0'.on up).on q; replace p1' := (p1'.on up).on q; replace q1' := (q1'.on up).on q; replace u := (u.on up).on q; replace v := (v.on up).on q; (try replace bo_0 := (q.cell (Nat.lt_of_lt_of_le ol up.size)).trans ((up.cell ol).trans bo_0)); (try replace fo_0 := (q.frozen (Nat.lt_of_lt_of_le ol up.size)).trans ((up.frozen ol).trans fo_0)); (try replace bo_1 := (q.cell (Nat.lt_of_lt_of_le ol up.size)).trans ((up.cell ol).trans bo_1)); (try replace fo_1 := (q.frozen (Nat.lt_of_lt_of_le ol up.size)).trans ((up.frozen ol).trans fo_1)); (try replace bo_2 := (q.cell (Nat.lt_of_lt_of_le ol up.size)).trans ((up.cell ol).trans bo_2)); (try replace fo_2 := (q.frozen (Nat.lt_of_lt_of_le ol up.size)).trans ((up.frozen ol).trans fo_2)); (try replace ol := Nat.lt_of_lt_of_le ol (Nat.le_trans up.size q.size)); have qs3 := qq.size; clear q up)
        | (go_at_call 31; have up := below_one y2 (.cells #[.bool false, .slice none 0 0, .slice none 0 0] 27); (with_reducible refine (rzadd_N (u.on up) (v.on up) (Nat.le_trans lA (by omega)) (Nat.le_trans lB (by omega))).mono ?_); rintro e y3 ⟨bs, As, ns, cs, rfl, s, q⟩; replace qq := (qq.trans (up.mono qq.size)).trans (q.mono (Nat.le_trans qq.size up.size)); replace p0' := (p0'.on up).on q; replace q0' := (q0'.on up).on q; replace p1' := (p1'.on up).on q; replace q1' := (q1'.on up).on q; replace u := (u.on up).on q; replace v := (v.on up).on q; (try replace bo_0 := (q.cell (Nat.lt_of_lt_of_le ol up.size)).trans ((up.cell ol).trans bo_0)); (try replace fo_0 := (q.frozen (Nat.lt_of_lt_of_le ol up.size)).trans ((up.frozen ol).trans fo_0)); (try replace bo_1 := (q.cell (Nat.lt_of_lt_of_le ol up.size)).trans ((up.cell ol).trans bo_1)); (try replace fo_1 := (q.frozen (Nat.lt_of_lt_of_le ol up.size)).trans ((up.frozen ol).trans fo_1)); (try replace bo_2 := (q.cell (Nat.lt_of_lt_of_le ol up.size)).trans ((up.cell ol).trans bo_2)); (try replace fo_2 := (q.frozen (Nat.lt_of_lt_of_le ol up.size)).trans ((up.frozen ol).trans fo_2)); (try replace ol := Nat.lt_of_lt_of_le ol (Nat.le_trans up.size q.size)); have qs3 := qq.size; have bo_0 := (q.cell (p := ⟨y2.heap.size, 0, none⟩) (by simp)).trans (show _ = some (.bool false) by simp [go_sem]); have fo_0 := (q.frozen (p := ⟨y2.heap.size, 0, none⟩) (by simp)).trans (show _ = false by simp [go_sem]); have bo_1 := (q.cell (p := ⟨y2.heap.size, 1, none⟩) (by simp)).trans (show _ = some (.slice none 0 0) by simp [go_sem]); have fo_1 := (q.frozen (p := ⟨y2.heap.size, 1, none⟩) (by simp)).trans (show _ = false by simp [go_sem]); have bo_2 := (q.cell (p := ⟨y2.heap.size, 2, none⟩) (by simp)).trans (show _ = some (.slice none 0 0) by simp [go_sem]); have fo_2 := (q.frozen (p := ⟨y2.heap.size, 2, none⟩) (by simp)).trans (show _ = false by simp [go_sem]); have ol : y2.heap.size < y3.heap.size := Nat.lt_of_lt_of_le (by simp) q.size; clear q up)
        | (go_at_call 55; have up := Below.refl y3.heap.size y3; (with_reducible refine (rmul_N (q0'.on up) (q1'.on up) (Nat.le_trans lq0 (by omega)) (Nat.le_trans lq1 (by omega))).mono ?_); rintro e y4 ⟨At, nt, ct, rfl, t, q⟩; replace qq := (qq.trans (up.mono qq.size)).trans (q.mono (Nat.le_trans qq.size up.size)); replace p0' := (p0'.on up).on q; replace q0' := (q0'.on up).on q; replace p1' := (p1'.on up).on q; replace q1' := (q1'.on up).on q; replace u := (u.on up).on q; replace v := (v.on up).on q; replace s := (s.on up).on q; (try replace bo_0 := (q.cell (Nat.lt_of_lt_of_le ol up.size)).trans ((up.cell ol).trans bo_0)); (try replace fo_0 := (q.frozen (Nat.lt_of_lt_of_le ol up.size)).trans ((up.frozen ol).trans fo_0)); (try replace bo_1 := (q.cell (Nat.lt_of_lt_of_le ol up.size)).trans ((up.cell ol).trans bo_1)); (try replace fo_1 := (q.frozen (Nat.lt_of_lt_of_le ol up.size)).trans ((up.frozen ol).trans fo_1)); (try replace bo_2 := (q.cell (Nat.lt_of_lt_of_le ol up.size)).trans ((up.cell ol).trans bo_2)); (try replace fo_2 := (q.frozen (Nat.lt_of_lt_of_le ol up.size)).trans ((up.frozen ol).trans fo_2)); (try replace ol := Nat.lt_of_lt_of_le ol (Nat.le_trans up.size q.size)); have qs4 := qq.size; clear q up)
        | (go_at_call 55; have up := below_one y3 (.cells #[.bool false, .slice none 0 0, .slice none 0 0] 27); (with_reducible refine (rmul_N (q0'.on up) (q1'.on up) (Nat.le_trans lq0 (by omega)) (Nat.le_trans lq1 (by omega))).mono ?_); rintro e y4 ⟨At, nt, ct, rfl, t, q⟩; replace qq := (qq.trans (up.mono qq.size)).trans (q.mono (Nat.le_trans qq.size up.size)); replace p0' := (p0'.on up).on q; replace q0' := (q0'.on up).on q; replace p1' := (p1'.on up).on q; replace q1' := (q1'.on up).on q; replace u := (u.on up).on q; replace v := (v.on up).on q; replace s := (s.on up).on q; (try replace bo_0 := (q.cell (Nat.lt_of_lt_of_le ol up.size)).trans ((up.cell ol).trans bo_0)); (try replace fo_0 := (q.frozen (Nat.lt_of_lt_of_le ol up.size)).trans ((up.frozen ol).trans fo_0)); (try replace bo_1 := (q.cell (Nat.lt_of_lt_of_le ol up.size)).trans ((up.cell ol).trans bo_1)); (try replace fo_1 := (q.frozen (Nat.lt_of_lt_of_le ol up.size)).trans ((up.frozen ol).trans fo_1)); (try replace bo_2 := (q.cell (Nat.lt_of_lt_of_le ol up.size)).trans ((up.cell ol).trans bo_2)); (try replace fo_2 := (q.frozen (Nat.lt_of_lt_of_le ol up.size)).trans ((up.frozen ol).trans fo_2)); (try replace ol := Nat.lt_of_lt_of_le ol (Nat.le_trans up.size q.size)); have qs4 := qq.size; have bo_0 := (q.cell (p := ⟨y3.heap.size, 0, none⟩) (by simp)).trans (show _ = some (.bool false) by simp [go_sem]); have fo_0 := (q.frozen (p := ⟨y3.heap.size, 0, none⟩) (by simp)).trans (show _ = false by simp [go_sem]); have bo_1 := (q.cell (p := ⟨y3.heap.size, 1, none⟩) (by simp)).trans (show _ = some (.slice none 0 0) by simp [go_sem]); have fo_1 := (q.frozen (p := ⟨y3.heap.size, 1, none⟩) (by simp)).trans (show _ = false by simp [go_sem]); have bo_2 := (q.cell (p := ⟨y3.heap.size, 2, none⟩) (by simp)).trans (show _ = some (.slice none 0 0) by simp [go_sem]); have fo_2 := (q.frozen (p := ⟨y3.heap.size, 2, none⟩) (by simp)).trans (show _ = false by simp [go_sem]); have ol : y3.heap.size < y4.heap.size := Nat.lt_of_lt_of_le (by simp) q.size; clear q up)
        | (go_at_call 51; have up := Below.refl y4.heap.size y4; (with_reducible refine (rtmake_N (s.on up) (t.on up) hq lC lD).mono ?_); rintro e y5 ⟨bo, Ao, no, co, Bo, mo, do_, rfl, o, q⟩; replace qq := (qq.trans (up.mono qq.size)).trans (q.mono (Nat.le_trans qq.size up.size)); replace p0' := (p0'.on up).on q; replace q0' := (q0'.on up).on q; replace p1' := (p1'.on up).on q; replace q1' := (q1'.on up).on q; replace u := (u.on up).on q; replace v := (v.on up).on q; replace s := (s.on up).on q; replace t := (t.on up).on q; (try replace bo_0 := (q.cell (Nat.lt_of_lt_of_le ol up.size)).trans ((up.cell ol).trans bo_0)); (try replace fo_0 := (q.frozen (Nat.lt_of_lt_of_le ol up.size)).trans ((up.frozen ol).trans fo_0)); (try replace bo_1 := (q.cell (Nat.lt_of_lt_of_le ol up.size)).trans ((up.cell ol).trans bo_1)); (try replace fo_1 := (q.frozen (Nat.lt_of_lt_of_le ol up.size)).trans ((up.frozen ol).trans fo_1)); (try replace bo_2 := (q.cell (Nat.lt_of_lt_of_le ol up.size)).trans ((up.cell ol).trans bo_2)); (try replace fo_2 := (q.frozen (Nat.lt_of_lt_of_le ol up.size)).trans ((up.frozen ol).trans fo_2)); (try replace ol := Nat.lt_of_lt_of_le ol (Nat.le_trans up.size q.size)); have qs5 := qq.size; clear q up)
        | (go_at_call 51; have up := below_one y4 (.cells #[.bool false, .slice none 0 0, .slice none 0 0] 27); (with_reducible refine (rtmake_N (s.on up) (t.on up) hq lC lD).mono ?_); rintro e y5 ⟨bo, Ao, no, co, Bo, mo, do_, rfl, o, q⟩; replace qq := (qq.trans (up.mono qq.size)).trans (q.mono (Nat.le_trans qq.size up.size)); replace p0' := (p0'.on up).on q; replace q0' := (q0'.on up).on q; replace p1' := (p1'.on up).on q; replace q1' := (q1'.on up).on q; replace u := (u.on up).on q; replace v := (v.on up).on q; replace s := (s.on up).on q; replace t := (t.on up).on q; (try replace bo_0 := (q.cell (Nat.lt_of_lt_of_le ol up.size)).trans ((up.cell ol).trans bo_0)); (try replace fo_0 := (q.frozen (Nat.lt_of_lt_of_le ol up.size)).trans ((up.frozen ol).trans fo_0)); (try replace bo_1 := (q.cell (Nat.lt_of_lt_of_le ol up.size)).trans ((up.cell ol).trans bo_1)); (try replace fo_1 := (q.frozen (Nat.lt_of_lt_of_le ol up.size)).trans ((up.frozen ol).trans fo_1)); (try replace bo_2 := (q.cell (Nat.lt_of_lt_of_le ol up.size)).trans ((up.cell ol).trans bo_2)); (try replace fo_2 := (q.frozen (Nat.lt_of_lt_of_le ol up.size)).trans ((up.frozen ol).trans fo_2)); (try replace ol := Nat.lt_of_lt_of_le ol (Nat.le_trans up.size q.size)); have qs5 := qq.size; have bo_0 := (q.cell (p := ⟨y4.heap.size, 0, none⟩) (by simp)).trans (show _ = some (.bool false) by simp [go_sem]); have fo_0 := (q.frozen (p := ⟨y4.heap.size, 0, none⟩) (by simp)).trans (show _ = false by simp [go_sem]); have bo_1 := (q.cell (p := ⟨y4.heap.size, 1, none⟩) (by simp)).trans (show _ = some (.slice none 0 0) by simp [go_sem]); have fo_1 := (q.frozen (p := ⟨y4.heap.size, 1, none⟩) (by simp)).trans (show _ = false by simp [go_sem]); have bo_2 := (q.cell (p := ⟨y4.heap.size, 2, none⟩) (by simp)).trans (show _ = some (.slice none 0 0) by simp [go_sem]); have fo_2 := (q.frozen (p := ⟨y4.heap.size, 2, none⟩) (by simp)).trans (show _ = false by simp [go_sem]); have ol : y4.heap.size < y5.heap.size := Nat.lt_of_lt_of_le (by simp) q.size; clear q up))
    all_goals (go_wp2_with fail; go_meet)
    all_goals refine ⟨_, bo, Ao, no, co, Bo, mo, do_, rfl, ?_⟩
    all_goals first
      | with_reducible exact loneA o qq _
      | with_reducible exact loneB bo_0 bo_1 bo_2 o qq (by omega)
  case rest =>
    obtain ⟨gz, bz, Az, nz, cz, Bz, mz, dz, rfl, ⟨z0, z1, z2⟩, ⟨pz, qz⟩, b⟩ := hcut
    have zl := cell_lt z0
    simp only at zl
    replace f0 := fK b f0 gl
    replace f1 := fK b f1 gl
    replace f2 := fK b f2 gl
    replace p0 := p0.on b
    replace q0 := q0.on b
    replace p1 := p1.on b
    replace q1 := q1.on b
    replace k0 := cK b k0 kl
    replace k1 := cK b k1 kl
    replace k2 := cK b k2 kl
    replace kl := lK b kl
    replace h0 := cK b h0 hl
    replace h1 := cK b h1 hl
    replace h2 := cK b h2 hl
    replace hl := lK b hl
    replace g0 := cK b g0 gl
    replace g1 := cK b g1 gl
    replace g2 := cK b g2 gl
    replace gl := lK b gl
    replace cc := bK cc b
    clear b
    have eb : BoxR wc (w.heap.size + 1 + 1) false none 0 0 none 0 0 := ⟨g0, g1, g2⟩
    have HZ : Hid (Rt (putR wc (w.heap.size + 1 + 1) (.bool bz) (.slice Az nz cz) (.slice Bz mz dz)) bz Az nz cz Bz mz dz (x0 + x1)) := Lib.hid (by rw [HE.out]; exact Rt.putR ⟨pz, qz⟩ eb _ _ _)
    go_wp2_with fail
    refine bodyPost_ret (v := .agg #[.bool bz, .slice Az nz cz, .slice Bz mz dz]) (by simp [results, Try.results26, go_sem, g0, g1, g2]) rfl ⟨_, _, _, _, _, _, _, rfl, HZ.out, below_putR cc (by omega) _ _ _⟩


end Go.Proofs.Ytchbhmcaalkfdaa

/-
  The contracts of the fifth reference: Neg, Sub, Div and the rest.
-/
namespace Go.Proofs.Ytchbhmcaalkfdaa
open Go.RowKit
set_option linter.unusedVariables false

set_option maxRecDepth 100000 in
set_option maxHeartbeats 8000000 in
theorem rtneg_N {w : World} {b0 : Bool} {A0 B0 : Option Addr} {n0 c0 m0 d0 : Nat} {x0 : Rat} (h0 : Rt w b0 A0 n0 c0 B0 m0 d0 x0) (s0 : Sz x0 100) :
    Calls Try.prog 27 #[.agg #[.bool b0, .slice A0 n0 c0, .slice B0 m0 d0]] w (GotRt w (-x0)) := by
  have p0 := h0.1
  have q0 := h0.2
  have lp0 := s0.1
  have lq0 := s0.2
  clear h0
  have cc := Below.refl w.heap.size w
  go_enter Try.func27, Try.ntmps27
  go_wp2_with fail
  have f0 : ((w.alloc (.cells #[.bool b0, .slice A0 n0 c0, .slice B0 m0 d0] 27)).alloc (.cells #[.bool false, .slice none 0 0, .slice none 0 0] 27)).frozen? ⟨w.heap.size + 1, 0, none⟩ = false := by simp [go_sem]
  have f1 : ((w.alloc (.cells #[.bool b0, .slice A0 n0 c0, .slice B0 m0 d0] 27)).alloc (.cells #[.bool false, .slice none 0 0, .slice none 0 0] 27)).frozen? ⟨w.heap.size + 1, 1, none⟩ = false := by simp [go_sem]
  have f2 : ((w.alloc (.cells #[.bool b0, .slice A0 n0 c0, .slice B0 m0 d0] 27)).alloc (.cells #[.bool false, .slice none 0 0, .slice none 0 0] 27)).frozen? ⟨w.heap.size + 1, 2, none⟩ = false := by simp [go_sem]
  have bA : Below w.heap.size w ((w.alloc (.cells #[.bool b0, .slice A0 n0 c0, .slice B0 m0 d0] 27)).alloc (.cells #[.bool false, .slice none 0 0, .slice none 0 0] 27)) := (((Below.refl _ w).alloc (by simp) _).alloc (by simp) _)
  replace p0 := p0.on bA
  replace q0 := q0.on bA
  replace cc := bK cc bA
  clear bA
  have k0 : ((w.alloc (.cells #[.bool b0, .slice A0 n0 c0, .slice B0 m0 d0] 27)).alloc (.cells #[.bool false, .slice none 0 0, .slice none 0 0] 27)).cell? ⟨w.heap.size, 0, none⟩ = some (.bool b0) := by simp [go_sem]
  have k1 : ((w.alloc (.cells #[.bool b0, .slice A0 n0 c0, .slice B0 m0 d0] 27)).alloc (.cells #[.bool false, .slice none 0 0, .slice none 0 0] 27)).cell? ⟨w.heap.size, 1, none⟩ = some (.slice A0 n0 c0) := by simp [go_sem]
  have k2 : ((w.alloc (.cells #[.bool b0, .slice A0 n0 c0, .slice B0 m0 d0] 27)).alloc (.cells #[.bool false, .slice none 0 0, .slice none 0 0] 27)).cell? ⟨w.heap.size, 2, none⟩ = some (.slice B0 m0 d0) := by simp [go_sem]
  have kl : w.heap.size < ((w.alloc (.cells #[.bool b0, .slice A0 n0 c0, .slice B0 m0 d0] 27)).alloc (.cells #[.bool false, .slice none 0 0, .slice none 0 0] 27)).heap.size := by simp <;> omega
  have g0 : ((w.alloc (.cells #[.bool b0, .slice A0 n0 c0, .slice B0 m0 d0] 27)).alloc (.cells #[.bool false, .slice none 0 0, .slice none 0 0] 27)).cell? ⟨w.heap.size + 1, 0, none⟩ = some (.bool false) := by simp [go_sem]
  have g1 : ((w.alloc (.cells #[.bool b0, .slice A0 n0 c0, .slice B0 m0 d0] 27)).alloc (.cells #[.bool false, .slice none 0 0, .slice none 0 0] 27)).cell? ⟨w.heap.size + 1, 1, none⟩ = some (.slice none 0 0) := by simp [go_sem]
  have g2 : ((w.alloc (.cells #[.bool b0, .slice A0 n0 c0, .slice B0 m0 d0] 27)).alloc (.cells #[.bool false, .slice none 0 0, .slice none 0 0] 27)).cell? ⟨w.heap.size + 1, 2, none⟩ = some (.slice none 0 0) := by simp [go_sem]
  have gl : w.heap.size + 1 < ((w.alloc (.cells #[.bool b0, .slice A0 n0 c0, .slice B0 m0 d0] 27)).alloc (.cells #[.bool false, .slice none 0 0, .slice none 0 0] 27)).heap.size := by simp <;> omega
  generalize (w.alloc (.cells #[.bool b0, .slice A0 n0 c0, .slice B0 m0 d0] 27)).alloc (.cells #[.bool false, .slice none 0 0, .slice none 0 0] 27) = v1 at *
  have qq : Below v1.heap.size v1 v1.drew := below_drewN (Below.refl _ v1) 1
  have p0' := p0.on qq
  have q0' := q0.on qq
  go_region_held3 (fun w' => w'.cell? ⟨w.heap.size, 0, none⟩ = some (.bool b0) ∧ w'.cell? ⟨w.heap.size, 1, none⟩ = some (.slice A0 n0 c0) ∧ w'.cell? ⟨w.heap.size, 2, none⟩ = some (.slice B0 m0 d0))
    (first | with_reducible exact ⟨cK qq k0 kl, cK qq k1 kl, cK qq k2 kl⟩ | with_reducible exact ⟨(cell_putR (by omega)).trans (cK qq k0 kl), (cell_putR (by omega)).trans (cK qq k1 kl), (cell_putR (by omega)).trans (cK qq k2 kl)⟩ | go_keep)
    (first
      | (go_at_call 28; (with_reducible refine (rzneg_N p0' (Nat.le_trans lp0 (by omega))).mono ?_); rintro e wz ⟨bm, Am, nm, cm, rfl, pm, q⟩; replace qq := bK qq q; (try replace p0' := p0'.on q); (try replace q0' := q0'.on q); clear q; have xa0 := cK qq g0 gl; have ya0 := fK qq f0 gl; have xa1 := cK qq g1 gl; have ya1 := fK qq f1 gl; have xa2 := cK qq g2 gl; have ya2 := fK qq f2 gl))
  have hn : Rt wz bm Am nm cm B0 m0 d0 (-x0) := ⟨pm, q0'⟩
  replace cc := bK cc qq
  have eb : BoxR wz (w.heap.size + 1) false none 0 0 none 0 0 := ⟨xa0, xa1, xa2⟩
  have HZ : Hid (Rt (putR wz (w.heap.size + 1) (.bool bm) (.slice Am nm cm) (.slice B0 m0 d0)) bm Am nm cm B0 m0 d0 (-x0)) := Lib.hid (Rt.putR hn eb _ _ _)
  go_wp2_with fail
  refine bodyPost_ret (v := .agg #[.bool bm, .slice Am nm cm, .slice B0 m0 d0]) (by simp [results, Try.results27, go_sem, xa0, xa1, xa2]) rfl ⟨_, _, _, _, _, _, _, rfl, HZ.out, below_putR cc (by omega) _ _ _⟩

set_option maxRecDepth 100000 in
set_option maxHeartbeats 8000000 in
theorem rtsub_N {w : World} {b0 b1 : Bool} {A0 B0 A1 B1 : Option Addr} {n0 c0 m0 d0 n1 c1 m1 d1 : Nat} {x0 x1 : Rat} (h0 : Rt w b0 A0 n0 c0 B0 m0 d0 x0) (s0 : Sz x0 40) (h1 : Rt w b1 A1 n1 c1 B1 m1 d1 x1) (s1 : Sz x1 40) :
    Calls Try.prog 24 #[.agg #[.bool b0, .slice A0 n0 c0, .slice B0 m0 d0], .agg #[.bool b1, .slice A1 n1 c1, .slice B1 m1 d1]] w (GotRt w (x0 - x1)) := by
  have cc := Below.refl w.heap.size w
  go_enter Try.func24, Try.ntmps24
  go_wp2_with fail
  have f0 : (((w.alloc (.cells #[.bool b0, .slice A0 n0 c0, .slice B0 m0 d0] 27)).alloc (.cells #[.bool b1, .slice A1 n1 c1, .slice B1 m1 d1] 27)).alloc (.cells #[.bool false, .slice none 0 0, .slice none 0 0] 27)).frozen? ⟨w.heap.size + 1 + 1, 0, none⟩ = false := by simp [go_sem]
  have f1 : (((w.alloc (.cells #[.bool b0, .slice A0 n0 c0, .slice B0 m0 d0] 27)).alloc (.cells #[.bool b1, .slice A1 n1 c1, .slice B1 m1 d1] 27)).alloc (.cells #[.bool false, .slice none 0 0, .slice none 0 0] 27)).frozen? ⟨w.heap.size + 1 + 1, 1, none⟩ = false := by simp [go_sem]
  have f2 : (((w.alloc (.cells #[.bool b0, .slice A0 n0 c0, .slice B0 m0 d0] 27)).alloc (.cells #[.bool b1, .slice A1 n1 c1, .slice B1 m1 d1] 27)).alloc (.cells #[.bool false, .slice none 0 0, .slice none 0 0] 27)).frozen? ⟨w.heap.size + 1 + 1, 2, none⟩ = false := by simp [go_sem]
  have bA : Below w.heap.size w (((w.alloc (.cells #[.bool b0, .slice A0 n0 c0, .slice B0 m0 d0] 27)).alloc (.cells #[.bool b1, .slice A1 n1 c1, .slice B1 m1 d1] 27)).alloc (.cells #[.bool false, .slice none 0 0, .slice none 0 0] 27)) := ((((Below.refl _ w).alloc (by simp) _).alloc (by simp) _).alloc (by simp <;> omega) _)
  replace h0 := h0.on bA
  replace h1 := h1.on bA
  replace cc := bK cc bA
  clear bA
  have k0 : (((w.alloc (.cells #[.bool b0, .slice A0 n0 c0, .slice B0 m0 d0] 27)).alloc (.cells #[.bool b1, .slice A1 n1 c1, .slice B1 m1 d1] 27)).alloc (.cells #[.bool false, .slice none 0 0, .slice none 0 0] 27)).cell? ⟨w.heap.size, 0, none⟩ = some (.bool b0) := by simp [go_sem]
  have k1 : (((w.alloc (.cells #[.bool b0, .slice A0 n0 c0, .slice B0 m0 d0] 27)).alloc (.cells #[.bool b1, .slice A1 n1 c1, .slice B1 m1 d1] 27)).alloc (.cells #[.bool false, .slice none 0 0, .slice none 0 0] 27)).cell? ⟨w.heap.size, 1, none⟩ = some (.slice A0 n0 c0) := by simp [go_sem]
  have k2 : (((w.alloc (.cells #[.bool b0, .slice A0 n0 c0, .slice B0 m0 d0] 27)).alloc (.cells #[.bool b1, .slice A1 n1 c1, .slice B1 m1 d1] 27)).alloc (.cells #[.bool false, .slice none 0 0, .slice none 0 0] 27)).cell? ⟨w.heap.size, 2, none⟩ = some (.slice B0 m0 d0) := by simp [go_sem]
  have kl : w.heap.size < (((w.alloc (.cells #[.bool b0, .slice A0 n0 c0, .slice B0 m0 d0] 27)).alloc (.cells #[.bool b1, .slice A1 n1 c1, .slice B1 m1 d1] 27)).alloc (.cells #[.bool false, .slice none 0 0, .slice none 0 0] 27)).heap.size := by simp <;> omega
  have r0 : (((w.alloc (.cells #[.bool b0, .slice A0 n0 c0, .slice B0 m0 d0] 27)).alloc (.cells #[.bool b1, .slice A1 n1 c1, .slice B1 m1 d1] 27)).alloc (.cells #[.bool false, .slice none 0 0, .slice none 0 0] 27)).cell? ⟨w.heap.size + 1, 0, none⟩ = some (.bool b1) := by simp [go_sem]
  have r1 : (((w.alloc (.cells #[.bool b0, .slice A0 n0 c0, .slice B0 m0 d0] 27)).alloc (.cells #[.bool b1, .slice A1 n1 c1, .slice B1 m1 d1] 27)).alloc (.cells #[.bool false, .slice none 0 0, .slice none 0 0] 27)).cell? ⟨w.heap.size + 1, 1, none⟩ = some (.slice A1 n1 c1) := by simp [go_sem]
  have r2 : (((w.alloc (.cells #[.bool b0, .slice A0 n0 c0, .slice B0 m0 d0] 27)).alloc (.cells #[.bool b1, .slice A1 n1 c1, .slice B1 m1 d1] 27)).alloc (.cells #[.bool false, .slice none 0 0, .slice none 0 0] 27)).cell? ⟨w.heap.size + 1, 2, none⟩ = some (.slice B1 m1 d1) := by simp [go_sem]
  have rl : w.heap.size + 1 < (((w.alloc (.cells #[.bool b0, .slice A0 n0 c0, .slice B0 m0 d0] 27)).alloc (.cells #[.bool b1, .slice A1 n1 c1, .slice B1 m1 d1] 27)).alloc (.cells #[.bool false, .slice none 0 0, .slice none 0 0] 27)).heap.size := by simp <;> omega
  have g0 : (((w.alloc (.cells #[.bool b0, .slice A0 n0 c0, .slice B0 m0 d0] 27)).alloc (.cells #[.bool b1, .slice A1 n1 c1, .slice B1 m1 d1] 27)).alloc (.cells #[.bool false, .slice none 0 0, .slice none 0 0] 27)).cell? ⟨w.heap.size + 1 + 1, 0, none⟩ = some (.bool false) := by simp [go_sem]
  have g1 : (((w.alloc (.cells #[.bool b0, .slice A0 n0 c0, .slice B0 m0 d0] 27)).alloc (.cells #[.bool b1, .slice A1 n1 c1, .slice B1 m1 d1] 27)).alloc (.cells #[.bool false, .slice none 0 0, .slice none 0 0] 27)).cell? ⟨w.heap.size + 1 + 1, 1, none⟩ = some (.slice none 0 0) := by simp [go_sem]
  have g2 : (((w.alloc (.cells #[.bool b0, .slice A0 n0 c0, .slice B0 m0 d0] 27)).alloc (.cells #[.bool b1, .slice A1 n1 c1, .slice B1 m1 d1] 27)).alloc (.cells #[.bool false, .slice none 0 0, .slice none 0 0] 27)).cell? ⟨w.heap.size + 1 + 1, 2, none⟩ = some (.slice none 0 0) := by simp [go_sem]
  have gl : w.heap.size + 1 + 1 < (((w.alloc (.cells #[.bool b0, .slice A0 n0 c0, .slice B0 m0 d0] 27)).alloc (.cells #[.bool b1, .slice A1 n1 c1, .slice B1 m1 d1] 27)).alloc (.cells #[.bool false, .slice none 0 0, .slice none 0 0] 27)).heap.size := by simp <;> omega
  generalize ((w.alloc (.cells #[.bool b0, .slice A0 n0 c0, .slice B0 m0 d0] 27)).alloc (.cells #[.bool b1, .slice A1 n1 c1, .slice B1 m1 d1] 27)).alloc (.cells #[.bool false, .slice none 0 0, .slice none 0 0] 27) = v1 at *
  have qq : Below v1.heap.size v1 v1.drew := below_drewN (Below.refl _ v1) 1
  have h0' := h0.on qq
  have h1' := h1.on qq
  go_region_held3 (fun w' => w'.cell? ⟨w.heap.size, 0, none⟩ = some (.bool b0) ∧ w'.cell? ⟨w.heap.size, 1, none⟩ = some (.slice A0 n0 c0) ∧ w'.cell? ⟨w.heap.size, 2, none⟩ = some (.slice B0 m0 d0) ∧ w'.cell? ⟨w.heap.size + 1, 0, none⟩ = some (.bool b1) ∧ w'.cell? ⟨w.heap.size + 1, 1, none⟩ = some (.slice A1 n1 c1) ∧ w'.cell? ⟨w.heap.size + 1, 2, none⟩ = some (.slice B1 m1 d1))
    (first | with_reducible exact ⟨cK qq k0 kl, cK qq k1 kl, cK qq k2 kl, cK qq r0 rl, cK qq r1 rl, cK qq r2 rl⟩ | with_reducible exact ⟨(cell_putR (by omega)).trans (cK qq k0 kl), (cell_putR (by omega)).trans (cK qq k1 kl), (cell_putR (by omega)).trans (cK qq k2 kl), (cell_putR (by omega)).trans (cK qq r0 rl), (cell_putR (by omega)).trans (cK qq r1 rl), (cell_putR (by omega)).trans (cK qq r2 rl)⟩ | go_keep)
    (first
      | (go_at_call 27; (with_reducible refine (rtneg_N h1' (s1.le (by omega))).mono ?_); rintro e wz ⟨bv, Av, nv, cv, Bv, mv, dv, rfl, v, q⟩; replace qq := bK qq q; (try replace h0' := h0'.on q); (try replace h1' := h1'.on q); (try replace hm := hm.on q); clear q; have xa0 := cK qq g0 gl; have ya0 := fK qq f0 gl; have xa1 := cK qq g1 gl; have ya1 := fK qq f1 gl; have xa2 := cK qq g2 gl; have ya2 := fK qq f2 gl)
      | (go_at_call 26; (with_reducible refine (rtadd_N h0' s0 v s1.neg).mono ?_); rintro e wz ⟨bm, Am, nm, cm, Bm, mm, dm, rfl, hm, q⟩; replace qq := bK qq q; (try replace h0' := h0'.on q); (try replace h1' := h1'.on q); (try replace v := v.on q); clear q; have xa0 := cK qq g0 gl; have ya0 := fK qq f0 gl; have xa1 := cK qq g1 gl; have ya1 := fK qq f1 gl; have xa2 := cK qq g2 gl; have ya2 := fK qq f2 gl))
  replace cc := bK cc qq
  have eb : BoxR wz (w.heap.size + 1 + 1) false none 0 0 none 0 0 := ⟨xa0, xa1, xa2⟩
  have HZ : Hid (Rt (putR wz (w.heap.size + 1 + 1) (.bool bm) (.slice Am nm cm) (.slice Bm mm dm)) bm Am nm cm Bm mm dm (x0 - x1)) := Lib.hid (by rw [Rat.sub_eq_add_neg]; exact Rt.putR hm eb _ _ _)
  go_wp2_with fail
  refine bodyPost_ret (v := .agg #[.bool bm, .slice Am nm cm, .slice Bm mm dm]) (by simp [results, Try.results24, go_sem, xa0, xa1, xa2]) rfl ⟨_, _, _, _, _, _, _, rfl, HZ.out, below_putR cc (by omega) _ _ _⟩

theorem zn_side {w : World} {b : Bool} {A B : Option Addr} {n c m d q : Nat} {p : Int} (h : Zn w b A n c p) (hB : Num w B m d q) (hq : q ≠ 0) : Zn w b B m d (sgn (decide (p < 0)) q) := by
  refine ⟨by rw [sgn_abs]; exact hB, ?_⟩
  rw [h.2]; unfold sgn
  by_cases h1 : p < 0
  · simp [h1]; omega
  · simp [h1]


set_option maxRecDepth 100000 in
set_option maxHeartbeats 8000000 in
theorem rtmake_zero {w : World} {b : Bool} {A B : Option Addr} {n c d : Nat} :
    Calls Try.prog 51 #[.agg #[.bool b, .slice A n c], .slice B 0 d] w (GotV w (.tuple #[.agg #[.bool false, .slice none 0 0, .slice none 0 0], .int .i64 4])) := by
  have cc := Below.refl w.heap.size w
  go_enter Try.func51, Try.ntmps51
  go_wp2_with fail
  have f0 : ((w.alloc (.cells #[.bool b, .slice A n c] 25)).alloc (.cells #[.bool false, .slice none 0 0, .slice none 0 0] 27)).frozen? ⟨w.heap.size + 1, 0, none⟩ = false := by simp [go_sem]
  have f1 : ((w.alloc (.cells #[.bool b, .slice A n c] 25)).alloc (.cells #[.bool false, .slice none 0 0, .slice none 0 0] 27)).frozen? ⟨w.heap.size + 1, 1, none⟩ = false := by simp [go_sem]
  have f2 : ((w.alloc (.cells #[.bool b, .slice A n c] 25)).alloc (.cells #[.bool false, .slice none 0 0, .slice none 0 0] 27)).frozen? ⟨w.heap.size + 1, 2, none⟩ = false := by simp [go_sem]
  have bA : Below w.heap.size w ((w.alloc (.cells #[.bool b, .slice A n c] 25)).alloc (.cells #[.bool false, .slice none 0 0, .slice none 0 0] 27)) := (((Below.refl _ w).alloc (by simp) _).alloc (by simp) _)
  replace cc := bK cc bA
  clear bA
  have k0 : ((w.alloc (.cells #[.bool b, .slice A n c] 25)).alloc (.cells #[.bool false, .slice none 0 0, .slice none 0 0] 27)).cell? ⟨w.heap.size, 0, none⟩ = some (.bool b) := by simp [go_sem]
  have k1 : ((w.alloc (.cells #[.bool b, .slice A n c] 25)).alloc (.cells #[.bool false, .slice none 0 0, .slice none 0 0] 27)).cell? ⟨w.heap.size, 1, none⟩ = some (.slice A n c) := by simp [go_sem]
  have kl : w.heap.size < ((w.alloc (.cells #[.bool b, .slice A n c] 25)).alloc (.cells #[.bool false, .slice none 0 0, .slice none 0 0] 27)).heap.size := by simp <;> omega
  have g0 : ((w.alloc (.cells #[.bool b, .slice A n c] 25)).alloc (.cells #[.bool false, .slice none 0 0, .slice none 0 0] 27)).cell? ⟨w.heap.size + 1, 0, none⟩ = some (.bool false) := by simp [go_sem]
  have g1 : ((w.alloc (.cells #[.bool b, .slice A n c] 25)).alloc (.cells #[.bool false, .slice none 0 0, .slice none 0 0] 27)).cell? ⟨w.heap.size + 1, 1, none⟩ = some (.slice none 0 0) := by simp [go_sem]
  have g2 : ((w.alloc (.cells #[.bool b, .slice A n c] 25)).alloc (.cells #[.bool false, .slice none 0 0, .slice none 0 0] 27)).cell? ⟨w.heap.size + 1, 2, none⟩ = some (.slice none 0 0) := by simp [go_sem]
  have gl : w.heap.size + 1 < ((w.alloc (.cells #[.bool b, .slice A n c] 25)).alloc (.cells #[.bool false, .slice none 0 0, .slice none 0 0] 27)).heap.size := by simp <;> omega
  generalize (w.alloc (.cells #[.bool b, .slice A n c] 25)).alloc (.cells #[.bool false, .slice none 0 0, .slice none 0 0] 27) = v1 at *
  go_wp2_with fail
  exact bodyPost_ret (v := .tuple #[.agg #[.bool false, .slice none 0 0, .slice none 0 0], .int .i64 4]) (by simp [results, Try.results51, go_sem, g0, g1, g2]) rfl ⟨rfl, cc⟩


end Go.Proofs.Ytchbhmcaalkfdaa

/-
  The contracts of the fifth reference: Of, Same, Right, Few.
-/
namespace Go.Proofs.Ytchbhmcaalkfdaa
open Go.RowKit
set_option linter.unusedVariables false

theorem nsame_N {w : World} {A B : Option Addr} {n c m d x y : Nat} (r : Bool) (ha : Num w A n c x) (hb : Num w B m d y) (hx : (limbs x).length ≤ 1000000) (hy : (limbs y).length ≤ 1000000) (hr : decide (x = y) = r) : Calls Try.prog 52 #[.slice A n c, .slice B m d] w (GotV w (.bool r)) := by
  cases r with
  | true => exact same_N ha hb (by omega) (by omega) (of_decide_eq_true hr)
  | false => exact same_not_N ha hb (by omega) (by omega) (of_decide_eq_false hr)


set_option maxRecDepth 100000 in
set_option maxHeartbeats 8000000 in
theorem rtsame_no {w : World} {b0 b1 : Bool} {A0 B0 A1 B1 : Option Addr} {n0 c0 m0 d0 n1 c1 m1 d1 : Nat} {p0 p1 : Int} {q0 q1 : Nat} (h0 : Rw w b0 A0 n0 c0 B0 m0 d0 p0 q0) (h1 : Rw w b1 A1 n1 c1 B1 m1 d1 p1 q1) (lp0 : (limbs p0.natAbs).length ≤ 1000) (lq0 : (limbs q0).length ≤ 1000) (lp1 : (limbs p1.natAbs).length ≤ 1000) (lq1 : (limbs q1).length ≤ 1000) (hp : decide (p0 = p1) = false) :
    Calls Try.prog 21 #[.agg #[.bool b0, .slice A0 n0 c0, .slice B0 m0 d0], .agg #[.bool b1, .slice A1 n1 c1, .slice B1 m1 d1]] w (GotV w (.bool false)) := by
  have u0 := h0.1
  have v0 := h0.2
  have u1 := h1.1
  have v1 := h1.2
  clear h0 h1
  have cc := Below.refl w.heap.size w
  go_enter Try.func21, Try.ntmps21
  go_wp2_with fail
  have bA : Below w.heap.size w ((w.alloc (.cells #[.bool b0, .slice A0 n0 c0, .slice B0 m0 d0] 27)).alloc (.cells #[.bool b1, .slice A1 n1 c1, .slice B1 m1 d1] 27)) := (((Below.refl _ w).alloc (by simp) _).alloc (by simp) _)
  replace u0 := u0.on bA
  replace v0 := v0.on bA
  replace u1 := u1.on bA
  replace v1 := v1.on bA
  replace cc := bK cc bA
  clear bA
  have k0 : ((w.alloc (.cells #[.bool b0, .slice A0 n0 c0, .slice B0 m0 d0] 27)).alloc (.cells #[.bool b1, .slice A1 n1 c1, .slice B1 m1 d1] 27)).cell? ⟨w.heap.size, 0, none⟩ = some (.bool b0) := by simp [go_sem]
  have k1 : ((w.alloc (.cells #[.bool b0, .slice A0 n0 c0, .slice B0 m0 d0] 27)).alloc (.cells #[.bool b1, .slice A1 n1 c1, .slice B1 m1 d1] 27)).cell? ⟨w.heap.size, 1, none⟩ = some (.slice A0 n0 c0) := by simp [go_sem]
  have k2 : ((w.alloc (.cells #[.bool b0, .slice A0 n0 c0, .slice B0 m0 d0] 27)).alloc (.cells #[.bool b1, .slice A1 n1 c1, .slice B1 m1 d1] 27)).cell? ⟨w.heap.size, 2, none⟩ = some (.slice B0 m0 d0) := by simp [go_sem]
  have kl : w.heap.size < ((w.alloc (.cells #[.bool b0, .slice A0 n0 c0, .slice B0 m0 d0] 27)).alloc (.cells #[.bool b1, .slice A1 n1 c1, .slice B1 m1 d1] 27)).heap.size := by simp <;> omega
  have g0 : ((w.alloc (.cells #[.bool b0, .slice A0 n0 c0, .slice B0 m0 d0] 27)).alloc (.cells #[.bool b1, .slice A1 n1 c1, .slice B1 m1 d1] 27)).cell? ⟨w.heap.size + 1, 0, none⟩ = some (.bool b1) := by simp [go_sem]
  have g1 : ((w.alloc (.cells #[.bool b0, .slice A0 n0 c0, .slice B0 m0 d0] 27)).alloc (.cells #[.bool b1, .slice A1 n1 c1, .slice B1 m1 d1] 27)).cell? ⟨w.heap.size + 1, 1, none⟩ = some (.slice A1 n1 c1) := by simp [go_sem]
  have g2 : ((w.alloc (.cells #[.bool b0, .slice A0 n0 c0, .slice B0 m0 d0] 27)).alloc (.cells #[.bool b1, .slice A1 n1 c1, .slice B1 m1 d1] 27)).cell? ⟨w.heap.size + 1, 2, none⟩ = some (.slice B1 m1 d1) := by simp [go_sem]
  have gl : w.heap.size + 1 < ((w.alloc (.cells #[.bool b0, .slice A0 n0 c0, .slice B0 m0 d0] 27)).alloc (.cells #[.bool b1, .slice A1 n1 c1, .slice B1 m1 d1] 27)).heap.size := by simp <;> omega
  generalize (w.alloc (.cells #[.bool b0, .slice A0 n0 c0, .slice B0 m0 d0] 27)).alloc (.cells #[.bool b1, .slice A1 n1 c1, .slice B1 m1 d1] 27) = v2 at *
  refine (zsame_N false u0 u1 (Nat.le_trans lp0 (by omega)) (Nat.le_trans lp1 (by omega)) hp).mono ?_
  rintro e w3 ⟨rfl, b⟩
  replace u0 := u0.on b
  replace v0 := v0.on b
  replace u1 := u1.on b
  replace v1 := v1.on b
  replace k0 := cK b k0 kl
  replace k1 := cK b k1 kl
  replace k2 := cK b k2 kl
  replace kl := lK b kl
  replace g0 := cK b g0 gl
  replace g1 := cK b g1 gl
  replace g2 := cK b g2 gl
  replace gl := lK b gl
  replace cc := bK cc b
  clear b
  go_wp2_with fail
  go_ret
  exact ⟨rfl, cc⟩

set_option maxRecDepth 100000 in
set_option maxHeartbeats 8000000 in
theorem rtsame_yes {w : World} {b0 b1 : Bool} {A0 B0 A1 B1 : Option Addr} {n0 c0 m0 d0 n1 c1 m1 d1 : Nat} {p0 p1 : Int} {q0 q1 : Nat} (h0 : Rw w b0 A0 n0 c0 B0 m0 d0 p0 q0) (h1 : Rw w b1 A1 n1 c1 B1 m1 d1 p1 q1) (lp0 : (limbs p0.natAbs).length ≤ 1000) (lq0 : (limbs q0).length ≤ 1000) (lp1 : (limbs p1.natAbs).length ≤ 1000) (lq1 : (limbs q1).length ≤ 1000) (r : Bool) (hp : decide (p0 = p1) = true) (hq : decide (q0 = q1) = r) :
    Calls Try.prog 21 #[.agg #[.bool b0, .slice A0 n0 c0, .slice B0 m0 d0], .agg #[.bool b1, .slice A1 n1 c1, .slice B1 m1 d1]] w (GotV w (.bool r)) := by
  have u0 := h0.1
  have v0 := h0.2
  have u1 := h1.1
  have v1 := h1.2
  clear h0 h1
  have cc := Below.refl w.heap.size w
  go_enter Try.func21, Try.ntmps21
  go_wp2_with fail
  have bA : Below w.heap.size w ((w.alloc (.cells #[.bool b0, .slice A0 n0 c0, .slice B0 m0 d0] 27)).alloc (.cells #[.bool b1, .slice A1 n1 c1, .slice B1 m1 d1] 27)) := (((Below.refl _ w).alloc (by simp) _).alloc (by simp) _)
  replace u0 := u0.on bA
  replace v0 := v0.on bA
  replace u1 := u1.on bA
  replace v1 := v1.on bA
  replace cc := bK cc bA
  clear bA
  have k0 : ((w.alloc (.cells #[.bool b0, .slice A0 n0 c0, .slice B0 m0 d0] 27)).alloc (.cells #[.bool b1, .slice A1 n1 c1, .slice B1 m1 d1] 27)).cell? ⟨w.heap.size, 0, none⟩ = some (.bool b0) := by simp [go_sem]
  have k1 : ((w.alloc (.cells #[.bool b0, .slice A0 n0 c0, .slice B0 m0 d0] 27)).alloc (.cells #[.bool b1, .slice A1 n1 c1, .slice B1 m1 d1] 27)).cell? ⟨w.heap.size, 1, none⟩ = some (.slice A0 n0 c0) := by simp [go_sem]
  have k2 : ((w.alloc (.cells #[.bool b0, .slice A0 n0 c0, .slice B0 m0 d0] 27)).alloc (.cells #[.bool b1, .slice A1 n1 c1, .slice B1 m1 d1] 27)).cell? ⟨w.heap.size, 2, none⟩ = some (.slice B0 m0 d0) := by simp [go_sem]
  have kl : w.heap.size < ((w.alloc (.cells #[.bool b0, .slice A0 n0 c0, .slice B0 m0 d0] 27)).alloc (.cells #[.bool b1, .slice A1 n1 c1, .slice B1 m1 d1] 27)).heap.size := by simp <;> omega
  have g0 : ((w.alloc (.cells #[.bool b0, .slice A0 n0 c0, .slice B0 m0 d0] 27)).alloc (.cells #[.bool b1, .slice A1 n1 c1, .slice B1 m1 d1] 27)).cell? ⟨w.heap.size + 1, 0, none⟩ = some (.bool b1) := by simp [go_sem]
  have g1 : ((w.alloc (.cells #[.bool b0, .slice A0 n0 c0, .slice B0 m0 d0] 27)).alloc (.cells #[.bool b1, .slice A1 n1 c1, .slice B1 m1 d1] 27)).cell? ⟨w.heap.size + 1, 1, none⟩ = some (.slice A1 n1 c1) := by simp [go_sem]
  have g2 : ((w.alloc (.cells #[.bool b0, .slice A0 n0 c0, .slice B0 m0 d0] 27)).alloc (.cells #[.bool b1, .slice A1 n1 c1, .slice B1 m1 d1] 27)).cell? ⟨w.heap.size + 1, 2, none⟩ = some (.slice B1 m1 d1) := by simp [go_sem]
  have gl : w.heap.size + 1 < ((w.alloc (.cells #[.bool b0, .slice A0 n0 c0, .slice B0 m0 d0] 27)).alloc (.cells #[.bool b1, .slice A1 n1 c1, .slice B1 m1 d1] 27)).heap.size := by simp <;> omega
  generalize (w.alloc (.cells #[.bool b0, .slice A0 n0 c0, .slice B0 m0 d0] 27)).alloc (.cells #[.bool b1, .slice A1 n1 c1, .slice B1 m1 d1] 27) = v2 at *
  refine (zsame_N true u0 u1 (Nat.le_trans lp0 (by omega)) (Nat.le_trans lp1 (by omega)) hp).mono ?_
  rintro e w3 ⟨rfl, b⟩
  replace u0 := u0.on b
  replace v0 := v0.on b
  replace u1 := u1.on b
  replace v1 := v1.on b
  replace k0 := cK b k0 kl
  replace k1 := cK b k1 kl
  replace k2 := cK b k2 kl
  replace kl := lK b kl
  replace g0 := cK b g0 gl
  replace g1 := cK b g1 gl
  replace g2 := cK b g2 gl
  replace gl := lK b gl
  replace cc := bK cc b
  clear b
  go_wp2_with fail
  refine (nsame_N r v0 v1 (Nat.le_trans lq0 (by omega)) (Nat.le_trans lq1 (by omega)) hq).mono ?_
  rintro e w4 ⟨rfl, b⟩
  replace u0 := u0.on b
  replace v0 := v0.on b
  replace u1 := u1.on b
  replace v1 := v1.on b
  replace k0 := cK b k0 kl
  replace k1 := cK b k1 kl
  replace k2 := cK b k2 kl
  replace kl := lK b kl
  replace g0 := cK b g0 gl
  replace g1 := cK b g1 gl
  replace g2 := cK b g2 gl
  replace gl := lK b gl
  replace cc := bK cc b
  clear b
  go_wp2_with fail
  go_ret
  exact ⟨rfl, cc⟩

set_option maxRecDepth 100000 in
set_option maxHeartbeats 8000000 in
theorem rtsame_any {w : World} {b0 b1 : Bool} {A0 B0 A1 B1 : Option Addr} {n0 c0 m0 d0 n1 c1 m1 d1 : Nat} {p0 p1 : Int} {q0 q1 : Nat} (h0 : Rw w b0 A0 n0 c0 B0 m0 d0 p0 q0) (h1 : Rw w b1 A1 n1 c1 B1 m1 d1 p1 q1) (lp0 : (limbs p0.natAbs).length ≤ 1000) (lq0 : (limbs q0).length ≤ 1000) (lp1 : (limbs p1.natAbs).length ≤ 1000) (lq1 : (limbs q1).length ≤ 1000) (r : Bool) (hr : decide (p0 = p1 ∧ q0 = q1) = r) :
    Calls Try.prog 21 #[.agg #[.bool b0, .slice A0 n0 c0, .slice B0 m0 d0], .agg #[.bool b1, .slice A1 n1 c1, .slice B1 m1 d1]] w (GotV w (.bool r)) := by
  by_cases hp : p0 = p1
  · exact rtsame_yes h0 h1 lp0 lq0 lp1 lq1 r (decide_eq_true hp) (by rw [← hr]; simp [hp])
  · have : r = false := by rw [← hr]; simp [hp]
    subst this
    exact rtsame_no h0 h1 lp0 lq0 lp1 lq1 (decide_eq_false hp)

set_option maxRecDepth 100000 in
set_option maxHeartbeats 8000000 in
theorem rtsame_N {w : World} {b0 b1 : Bool} {A0 B0 A1 B1 : Option Addr} {n0 c0 m0 d0 n1 c1 m1 d1 : Nat} {x0 x1 : Rat} (h0 : Rt w b0 A0 n0 c0 B0 m0 d0 x0) (s0 : Sz x0 1000) (h1 : Rt w b1 A1 n1 c1 B1 m1 d1 x1) (s1 : Sz x1 1000) (r : Bool) (hr : decide (x0 = x1) = r) :
    Calls Try.prog 21 #[.agg #[.bool b0, .slice A0 n0 c0, .slice B0 m0 d0], .agg #[.bool b1, .slice A1 n1 c1, .slice B1 m1 d1]] w (GotV w (.bool r)) := by
  exact rtsame_any h0 h1 s0.1 s0.2 s1.1 s1.2 r (by rw [rat_inj]; exact hr)

/-- A rational's form is right. -/
def okR (b : Bool) (n : Nat) (l : List Nat) (m : Nat) (l2 : List Nat) : Bool := okZ b n l && (canon l2 && (decide (0 < m) && decide (Nat.gcd (val l) (val l2) = 1)))

set_option maxRecDepth 100000 in
set_option maxHeartbeats 8000000 in
theorem rtright_0 {w : World} {b : Bool} {A B : Option Addr} {n c m d : Nat} {l l2 : List Nat} (h : Lim w.heap.size w A n c l) (h2 : Lim w.heap.size w B m d l2) (hn : n ≤ 100) (hm : m ≤ 100) (h3 : okZ b n l = false) :
    Calls Try.prog 30 #[.agg #[.bool b, .slice A n c, .slice B m d]] w (GotV w (.bool false)) := by
  have cc := Below.refl w.heap.size w
  go_enter Try.func30, Try.ntmps30
  go_wp2_with fail
  have bA : Below w.heap.size w (w.alloc (.cells #[.bool b, .slice A n c, .slice B m d] 27)) := ((Below.refl _ w).alloc (by simp) _)
  replace h := h.on bA
  replace h2 := h2.on bA
  replace cc := bK cc bA
  clear bA
  have k0 : (w.alloc (.cells #[.bool b, .slice A n c, .slice B m d] 27)).cell? ⟨w.heap.size, 0, none⟩ = some (.bool b) := by simp [go_sem]
  have k1 : (w.alloc (.cells #[.bool b, .slice A n c, .slice B m d] 27)).cell? ⟨w.heap.size, 1, none⟩ = some (.slice A n c) := by simp [go_sem]
  have k2 : (w.alloc (.cells #[.bool b, .slice A n c, .slice B m d] 27)).cell? ⟨w.heap.size, 2, none⟩ = some (.slice B m d) := by simp [go_sem]
  have kl : w.heap.size < (w.alloc (.cells #[.bool b, .slice A n c, .slice B m d] 27)).heap.size := by simp <;> omega
  generalize w.alloc (.cells #[.bool b, .slice A n c, .slice B m d] 27) = v1 at *
  refine (rzright_any false h (by omega) h3).mono ?_
  rintro e w2 ⟨rfl, b⟩
  replace h := h.on b
  replace h2 := h2.on b
  replace k0 := cK b k0 kl
  replace k1 := cK b k1 kl
  replace k2 := cK b k2 kl
  replace kl := lK b kl
  replace cc := bK cc b
  clear b
  go_wp2_with fail
  go_ret
  exact ⟨rfl, cc⟩

theorem okZ_canon {b : Bool} {n : Nat} {l : List Nat} (h : okZ b n l = true) : canon l = true := by
  unfold okZ at h
  rw [Bool.and_eq_true] at h
  exact h.1
theorem num_ne {w : World} {A : Option Addr} {n c x : Nat} (h : Num w A n c x) (h0 : 0 < n) : x ≠ 0 := by
  intro e
  have hl := h.len
  rw [e, limbs_zero] at hl
  simp at hl
  omega

set_option maxRecDepth 100000 in
set_option maxHeartbeats 8000000 in
theorem rtright_1 {w : World} {b : Bool} {A B : Option Addr} {n c m d : Nat} {l l2 : List Nat} (h : Lim w.heap.size w A n c l) (h2 : Lim w.heap.size w B m d l2) (hn : n ≤ 100) (hm : m ≤ 100) (h3 : okZ b n l = true) (h4 : canon l2 = false) :
    Calls Try.prog 30 #[.agg #[.bool b, .slice A n c, .slice B m d]] w (GotV w (.bool false)) := by
  have cc := Below.refl w.heap.size w
  go_enter Try.func30, Try.ntmps30
  go_wp2_with fail
  have bA : Below w.heap.size w (w.alloc (.cells #[.bool b, .slice A n c, .slice B m d] 27)) := ((Below.refl _ w).alloc (by simp) _)
  replace h := h.on bA
  replace h2 := h2.on bA
  replace cc := bK cc bA
  clear bA
  have k0 : (w.alloc (.cells #[.bool b, .slice A n c, .slice B m d] 27)).cell? ⟨w.heap.size, 0, none⟩ = some (.bool b) := by simp [go_sem]
  have k1 : (w.alloc (.cells #[.bool b, .slice A n c, .slice B m d] 27)).cell? ⟨w.heap.size, 1, none⟩ = some (.slice A n c) := by simp [go_sem]
  have k2 : (w.alloc (.cells #[.bool b, .slice A n c, .slice B m d] 27)).cell? ⟨w.heap.size, 2, none⟩ = some (.slice B m d) := by simp [go_sem]
  have kl : w.heap.size < (w.alloc (.cells #[.bool b, .slice A n c, .slice B m d] 27)).heap.size := by simp <;> omega
  generalize w.alloc (.cells #[.bool b, .slice A n c, .slice B m d] 27) = v1 at *
  refine (rzright_any true h (by omega) h3).mono ?_
  rintro e w2 ⟨rfl, b⟩
  replace h := h.on b
  replace h2 := h2.on b
  replace k0 := cK b k0 kl
  replace k1 := cK b k1 kl
  replace k2 := cK b k2 kl
  replace kl := lK b kl
  replace cc := bK cc b
  clear b
  go_wp2_with fail
  refine (rright_any _ _ _ _ _ false _ h2 (by omega) h4).mono ?_
  rintro e w' ⟨rfl, rfl⟩
  go_wp2_with fail
  go_ret
  exact ⟨rfl, cc⟩

set_option maxRecDepth 100000 in
set_option maxHeartbeats 8000000 in
theorem rtright_2 {w : World} {b : Bool} {A B : Option Addr} {n c d : Nat} {l l2 : List Nat} (h : Lim w.heap.size w A n c l) (h2 : Lim w.heap.size w B 0 d l2) (hn : n ≤ 100) (h3 : okZ b n l = true) (h4 : canon l2 = true) :
    Calls Try.prog 30 #[.agg #[.bool b, .slice A n c, .slice B 0 d]] w (GotV w (.bool false)) := by
  have cc := Below.refl w.heap.size w
  go_enter Try.func30, Try.ntmps30
  go_wp2_with fail
  have bA : Below w.heap.size w (w.alloc (.cells #[.bool b, .slice A n c, .slice B 0 d] 27)) := ((Below.refl _ w).alloc (by simp) _)
  replace h := h.on bA
  replace h2 := h2.on bA
  replace cc := bK cc bA
  clear bA
  have k0 : (w.alloc (.cells #[.bool b, .slice A n c, .slice B 0 d] 27)).cell? ⟨w.heap.size, 0, none⟩ = some (.bool b) := by simp [go_sem]
  have k1 : (w.alloc (.cells #[.bool b, .slice A n c, .slice B 0 d] 27)).cell? ⟨w.heap.size, 1, none⟩ = some (.slice A n c) := by simp [go_sem]
  have k2 : (w.alloc (.cells #[.bool b, .slice A n c, .slice B 0 d] 27)).cell? ⟨w.heap.size, 2, none⟩ = some (.slice B 0 d) := by simp [go_sem]
  have kl : w.heap.size < (w.alloc (.cells #[.bool b, .slice A n c, .slice B 0 d] 27)).heap.size := by simp <;> omega
  generalize w.alloc (.cells #[.bool b, .slice A n c, .slice B 0 d] 27) = v1 at *
  refine (rzright_any true h (by omega) h3).mono ?_
  rintro e w2 ⟨rfl, b⟩
  replace h := h.on b
  replace h2 := h2.on b
  replace k0 := cK b k0 kl
  replace k1 := cK b k1 kl
  replace k2 := cK b k2 kl
  replace kl := lK b kl
  replace cc := bK cc b
  clear b
  go_wp2_with fail
  refine (rright_any _ _ _ _ _ true _ h2 (by omega) h4).mono ?_
  rintro e w' ⟨rfl, rfl⟩
  go_wp2_with fail
  go_ret
  exact ⟨rfl, cc⟩

set_option maxRecDepth 100000 in
set_option maxHeartbeats 8000000 in
theorem rtright_3 {w : World} {b : Bool} {A B : Option Addr} {n c m d : Nat} {l l2 : List Nat} (h : Lim w.heap.size w A n c l) (h2 : Lim w.heap.size w B m d l2) (hn : n ≤ 100) (hm : m ≤ 100) (h3 : okZ b n l = true) (h4 : canon l2 = true) (h5 : 0 < m) (r : Bool) (h6 : decide (Nat.gcd (val l) (val l2) = 1) = r) :
    Calls Try.prog 30 #[.agg #[.bool b, .slice A n c, .slice B m d]] w (GotV w (.bool r)) := by
  have h5z : ((m : Int) == 0) = false := beq_eq_false_iff_ne.2 (by omega)
  have hN := h.num (okZ_canon h3)
  have hM := h2.num h4
  have lN : (limbs (val l)).length ≤ 100 := by rw [← hN.len]; exact hn
  have lM : (limbs (val l2)).length ≤ 100 := by rw [← hM.len]; exact hm
  have hv : val l2 ≠ 0 := num_ne hM h5
  have lG := gcd_len (p := val l) hv lM
  have l1 : (limbs 1).length ≤ 1000000 := Nat.le_trans (len_one (by decide)) (by omega)
  clear h5
  have cc := Below.refl w.heap.size w
  go_enter Try.func30, Try.ntmps30
  go_wp2_with fail
  have bA : Below w.heap.size w (w.alloc (.cells #[.bool b, .slice A n c, .slice B m d] 27)) := ((Below.refl _ w).alloc (by simp) _)
  replace h := h.on bA
  replace h2 := h2.on bA
  replace hN := hN.on bA
  replace hM := hM.on bA
  replace cc := bK cc bA
  clear bA
  have k0 : (w.alloc (.cells #[.bool b, .slice A n c, .slice B m d] 27)).cell? ⟨w.heap.size, 0, none⟩ = some (.bool b) := by simp [go_sem]
  have k1 : (w.alloc (.cells #[.bool b, .slice A n c, .slice B m d] 27)).cell? ⟨w.heap.size, 1, none⟩ = some (.slice A n c) := by simp [go_sem]
  have k2 : (w.alloc (.cells #[.bool b, .slice A n c, .slice B m d] 27)).cell? ⟨w.heap.size, 2, none⟩ = some (.slice B m d) := by simp [go_sem]
  have kl : w.heap.size < (w.alloc (.cells #[.bool b, .slice A n c, .slice B m d] 27)).heap.size := by simp <;> omega
  generalize w.alloc (.cells #[.bool b, .slice A n c, .slice B m d] 27) = v1 at *
  refine (rzright_any true h (by omega) h3).mono ?_
  rintro e w2 ⟨rfl, b⟩
  replace h := h.on b
  replace h2 := h2.on b
  replace hN := hN.on b
  replace hM := hM.on b
  replace k0 := cK b k0 kl
  replace k1 := cK b k1 kl
  replace k2 := cK b k2 kl
  replace kl := lK b kl
  replace cc := bK cc b
  clear b
  go_wp2_with fail
  refine (rright_any _ _ _ _ _ true _ h2 (by omega) h4).mono ?_
  rintro e w' ⟨rfl, rfl⟩
  go_wp2_with fail
  refine (rgcd_N hN hM (Nat.le_trans lN (by omega)) (Nat.le_trans lM (by omega))).mono ?_
  rintro e w3 ⟨Ag, ng, cg, rfl, hg, b⟩
  replace h := h.on b
  replace h2 := h2.on b
  replace hN := hN.on b
  replace hM := hM.on b
  replace k0 := cK b k0 kl
  replace k1 := cK b k1 kl
  replace k2 := cK b k2 kl
  replace kl := lK b kl
  replace cc := bK cc b
  clear b
  go_wp2_with fail
  refine (rof_N w3 1 (by decide)).mono ?_
  rintro e w4 ⟨Ao, no, co, rfl, ho, b⟩
  replace h := h.on b
  replace h2 := h2.on b
  replace hN := hN.on b
  replace hM := hM.on b
  replace hg := hg.on b
  replace k0 := cK b k0 kl
  replace k1 := cK b k1 kl
  replace k2 := cK b k2 kl
  replace kl := lK b kl
  replace cc := bK cc b
  clear b
  go_wp2_with fail
  refine (nsame_N r hg ho (Nat.le_trans lG (by omega)) l1 h6).mono ?_
  rintro e w5 ⟨rfl, b⟩
  replace h := h.on b
  replace h2 := h2.on b
  replace hN := hN.on b
  replace hM := hM.on b
  replace hg := hg.on b
  replace ho := ho.on b
  replace k0 := cK b k0 kl
  replace k1 := cK b k1 kl
  replace k2 := cK b k2 kl
  replace kl := lK b kl
  replace cc := bK cc b
  clear b
  go_wp2_with fail
  go_ret
  exact ⟨rfl, cc⟩

set_option maxRecDepth 100000 in
set_option maxHeartbeats 8000000 in
theorem rtright_any {w : World} {b : Bool} {A B : Option Addr} {n c m d : Nat} {l l2 : List Nat} (h : Lim w.heap.size w A n c l) (h2 : Lim w.heap.size w B m d l2) (hn : n ≤ 100) (hm : m ≤ 100) (r : Bool) (hr : okR b n l m l2 = r) :
    Calls Try.prog 30 #[.agg #[.bool b, .slice A n c, .slice B m d]] w (GotV w (.bool r)) := by
  unfold okR at hr
  cases h3 : okZ b n l with
  | false => rw [h3] at hr; simp at hr; subst hr; exact rtright_0 h h2 hn hm h3
  | true =>
    cases h4 : canon l2 with
    | false => rw [h3, h4] at hr; simp at hr; subst hr; exact rtright_1 h h2 hn hm h3 h4
    | true =>
      rw [h3, h4, Bool.true_and, Bool.true_and] at hr
      rcases Nat.eq_zero_or_pos m with h5 | h5
      · subst h5; simp at hr; subst hr; exact rtright_2 h h2 hn h3 h4
      · exact rtright_3 h h2 hn hm h3 h4 h5 r (by rw [← hr]; simp [h5])

set_option maxRecDepth 100000 in
set_option maxHeartbeats 8000000 in
theorem rtfew_0 {w : World} {b : Bool} {A B : Option Addr} {n c m d : Nat} {l l2 : List Nat} (h : Lim w.heap.size w A n c l) (h2 : Lim w.heap.size w B m d l2) {most : Int} (h3 : ¬ (n : Int) ≤ most) :
    Calls Try.prog 9 #[.agg #[.bool b, .slice A n c, .slice B m d], .int .i64 most] w (GotV w (.bool false)) := by
  have cc := Below.refl w.heap.size w
  go_enter Try.func9, Try.ntmps9
  go_wp2_with fail
  have bA : Below w.heap.size w (w.alloc (.cells #[.bool b, .slice A n c, .slice B m d] 27)) := ((Below.refl _ w).alloc (by simp) _)
  replace h := h.on bA
  replace h2 := h2.on bA
  replace cc := bK cc bA
  clear bA
  have k0 : (w.alloc (.cells #[.bool b, .slice A n c, .slice B m d] 27)).cell? ⟨w.heap.size, 0, none⟩ = some (.bool b) := by simp [go_sem]
  have k1 : (w.alloc (.cells #[.bool b, .slice A n c, .slice B m d] 27)).cell? ⟨w.heap.size, 1, none⟩ = some (.slice A n c) := by simp [go_sem]
  have k2 : (w.alloc (.cells #[.bool b, .slice A n c, .slice B m d] 27)).cell? ⟨w.heap.size, 2, none⟩ = some (.slice B m d) := by simp [go_sem]
  have kl : w.heap.size < (w.alloc (.cells #[.bool b, .slice A n c, .slice B m d] 27)).heap.size := by simp <;> omega
  generalize w.alloc (.cells #[.bool b, .slice A n c, .slice B m d] 27) = v1 at *
  go_wp2_with fail
  go_ret
  exact ⟨rfl, cc⟩

set_option maxRecDepth 100000 in
set_option maxHeartbeats 8000000 in
theorem rtfew_1 {w : World} {b : Bool} {A B : Option Addr} {n c m d : Nat} {l l2 : List Nat} (h : Lim w.heap.size w A n c l) (h2 : Lim w.heap.size w B m d l2) {most : Int} (h3 : (n : Int) ≤ most) (h4 : ¬ (m : Int) ≤ most) :
    Calls Try.prog 9 #[.agg #[.bool b, .slice A n c, .slice B m d], .int .i64 most] w (GotV w (.bool false)) := by
  have cc := Below.refl w.heap.size w
  go_enter Try.func9, Try.ntmps9
  go_wp2_with fail
  have bA : Below w.heap.size w (w.alloc (.cells #[.bool b, .slice A n c, .slice B m d] 27)) := ((Below.refl _ w).alloc (by simp) _)
  replace h := h.on bA
  replace h2 := h2.on bA
  replace cc := bK cc bA
  clear bA
  have k0 : (w.alloc (.cells #[.bool b, .slice A n c, .slice B m d] 27)).cell? ⟨w.heap.size, 0, none⟩ = some (.bool b) := by simp [go_sem]
  have k1 : (w.alloc (.cells #[.bool b, .slice A n c, .slice B m d] 27)).cell? ⟨w.heap.size, 1, none⟩ = some (.slice A n c) := by simp [go_sem]
  have k2 : (w.alloc (.cells #[.bool b, .slice A n c, .slice B m d] 27)).cell? ⟨w.heap.size, 2, none⟩ = some (.slice B m d) := by simp [go_sem]
  have kl : w.heap.size < (w.alloc (.cells #[.bool b, .slice A n c, .slice B m d] 27)).heap.size := by simp <;> omega
  generalize w.alloc (.cells #[.bool b, .slice A n c, .slice B m d] 27) = v1 at *
  go_wp2_with fail
  go_ret
  exact ⟨rfl, cc⟩

set_option maxRecDepth 100000 in
set_option maxHeartbeats 8000000 in
theorem rtfew_2 {w : World} {b : Bool} {A B : Option Addr} {n c m d : Nat} {l l2 : List Nat} (h : Lim w.heap.size w A n c l) (h2 : Lim w.heap.size w B m d l2) {most : Int} (h3 : (n : Int) ≤ most) (h4 : (m : Int) ≤ most) (h100 : most ≤ 100) (r : Bool) (h5 : okR b n l m l2 = r) :
    Calls Try.prog 9 #[.agg #[.bool b, .slice A n c, .slice B m d], .int .i64 most] w (GotV w (.bool r)) := by
  have cc := Below.refl w.heap.size w
  go_enter Try.func9, Try.ntmps9
  go_wp2_with fail
  have bA : Below w.heap.size w (w.alloc (.cells #[.bool b, .slice A n c, .slice B m d] 27)) := ((Below.refl _ w).alloc (by simp) _)
  replace h := h.on bA
  replace h2 := h2.on bA
  replace cc := bK cc bA
  clear bA
  have k0 : (w.alloc (.cells #[.bool b, .slice A n c, .slice B m d] 27)).cell? ⟨w.heap.size, 0, none⟩ = some (.bool b) := by simp [go_sem]
  have k1 : (w.alloc (.cells #[.bool b, .slice A n c, .slice B m d] 27)).cell? ⟨w.heap.size, 1, none⟩ = some (.slice A n c) := by simp [go_sem]
  have k2 : (w.alloc (.cells #[.bool b, .slice A n c, .slice B m d] 27)).cell? ⟨w.heap.size, 2, none⟩ = some (.slice B m d) := by simp [go_sem]
  have kl : w.heap.size < (w.alloc (.cells #[.bool b, .slice A n c, .slice B m d] 27)).heap.size := by simp <;> omega
  generalize w.alloc (.cells #[.bool b, .slice A n c, .slice B m d] 27) = v1 at *
  refine (rtright_any h h2 (by omega) (by omega) r h5).mono ?_
  rintro e w2 ⟨rfl, b⟩
  replace h := h.on b
  replace h2 := h2.on b
  replace k0 := cK b k0 kl
  replace k1 := cK b k1 kl
  replace k2 := cK b k2 kl
  replace kl := lK b kl
  replace cc := bK cc b
  clear b
  go_wp2_with fail
  go_ret
  exact ⟨rfl, cc⟩

set_option maxRecDepth 100000 in
set_option maxHeartbeats 8000000 in
theorem rtfew_any {w : World} {b : Bool} {A B : Option Addr} {n c m d : Nat} {l l2 : List Nat} (h : Lim w.heap.size w A n c l) (h2 : Lim w.heap.size w B m d l2) (most : Int) (h100 : most ≤ 100) (r : Bool) (hr : (decide ((n : Int) ≤ most) && (decide ((m : Int) ≤ most) && okR b n l m l2)) = r) :
    Calls Try.prog 9 #[.agg #[.bool b, .slice A n c, .slice B m d], .int .i64 most] w (GotV w (.bool r)) := by
  by_cases h3 : (n : Int) ≤ most
  · by_cases h4 : (m : Int) ≤ most
    · exact rtfew_2 h h2 h3 h4 h100 r (by rw [← hr]; simp [h3, h4])
    · have : r = false := by rw [← hr]; simp [h4]
      subst this; exact rtfew_1 h h2 h3 h4
  · have : r = false := by rw [← hr]; simp [h3]
    subst this; exact rtfew_0 h h2 h3

end Go.Proofs.Ytchbhmcaalkfdaa

/-
  The contracts of the fifth reference: Frac.
-/
namespace Go.Proofs.Ytchbhmcaalkfdaa
open Go.RowKit
set_option linter.unusedVariables false

/-- The parts of a struct that is no variable. -/
theorem field_N (b : Bool) (A : Option Addr) (n c : Nat) (w : World) : Sem.run Try.prog (Instr.field 25 (.agg #[.bool b, .slice A n c]) 1) w = .ok (.slice A n c) w := by rfl
theorem field_P (b : Bool) (A B : Option Addr) (n c m d : Nat) (w : World) : Sem.run Try.prog (Instr.field 27 (.agg #[.bool b, .slice A n c, .slice B m d]) 0) w = .ok (.agg #[.bool b, .slice A n c]) w := by rfl
theorem field_Q (b : Bool) (A B : Option Addr) (n c m d : Nat) (w : World) : Sem.run Try.prog (Instr.field 27 (.agg #[.bool b, .slice A n c, .slice B m d]) 1) w = .ok (.slice B m d) w := by rfl
attribute [local go_sem] field_N field_P field_Q

set_option maxRecDepth 100000 in
set_option maxHeartbeats 8000000 in
theorem rtfrac_N (w : World) {p q : Int} (h : I64 p) (h2 : I64 q) (hne : q ≠ 0) :
    Calls Try.prog 34 #[.int .i64 p, .int .i64 q] w (GotRt w (mkRat p q.natAbs)) := by
  have la := h.abs
  have lb := h2.abs
  have lC : (limbs p.natAbs).length ≤ 100 := Nat.le_trans (len_one la) (by omega)
  have lD : (limbs q.natAbs).length ≤ 100 := Nat.le_trans (len_one lb) (by omega)
  have hq : q.natAbs ≠ 0 := by omega
  have cc := Below.refl w.heap.size w
  go_enter Try.func34, Try.ntmps34
  go_wp2_with fail
  have f0 : (w.alloc (.cells #[.bool false, .slice none 0 0, .slice none 0 0] 27)).frozen? ⟨w.heap.size, 0, none⟩ = false := by simp [go_sem]
  have f1 : (w.alloc (.cells #[.bool false, .slice none 0 0, .slice none 0 0] 27)).frozen? ⟨w.heap.size, 1, none⟩ = false := by simp [go_sem]
  have f2 : (w.alloc (.cells #[.bool false, .slice none 0 0, .slice none 0 0] 27)).frozen? ⟨w.heap.size, 2, none⟩ = false := by simp [go_sem]
  have bA : Below w.heap.size w (w.alloc (.cells #[.bool false, .slice none 0 0, .slice none 0 0] 27)) := ((Below.refl _ w).alloc (by simp) _)
  replace cc := bK cc bA
  clear bA
  have g0 : (w.alloc (.cells #[.bool false, .slice none 0 0, .slice none 0 0] 27)).cell? ⟨w.heap.size, 0, none⟩ = some (.bool false) := by simp [go_sem]
  have g1 : (w.alloc (.cells #[.bool false, .slice none 0 0, .slice none 0 0] 27)).cell? ⟨w.heap.size, 1, none⟩ = some (.slice none 0 0) := by simp [go_sem]
  have g2 : (w.alloc (.cells #[.bool false, .slice none 0 0, .slice none 0 0] 27)).cell? ⟨w.heap.size, 2, none⟩ = some (.slice none 0 0) := by simp [go_sem]
  have gl : w.heap.size < (w.alloc (.cells #[.bool false, .slice none 0 0, .slice none 0 0] 27)).heap.size := by simp <;> omega
  generalize w.alloc (.cells #[.bool false, .slice none 0 0, .slice none 0 0] 27) = v1 at *
  refine (rzof_N _ p h).mono ?_
  rintro e w2 ⟨bs, As, ns, cs, rfl, s, b⟩
  replace f0 := fK b f0 gl
  replace f1 := fK b f1 gl
  replace f2 := fK b f2 gl
  replace g0 := cK b g0 gl
  replace g1 := cK b g1 gl
  replace g2 := cK b g2 gl
  replace gl := lK b gl
  replace cc := bK cc b
  clear b
  go_wp2_with fail
  refine (rzof_N _ q h2).mono ?_
  rintro e w3 ⟨bt, At, nt, ct, rfl, tz, b⟩
  have t := tz.1
  clear tz
  replace f0 := fK b f0 gl
  replace f1 := fK b f1 gl
  replace f2 := fK b f2 gl
  replace s := s.on b
  replace g0 := cK b g0 gl
  replace g1 := cK b g1 gl
  replace g2 := cK b g2 gl
  replace gl := lK b gl
  replace cc := bK cc b
  clear b
  go_wp2_with fail
  refine (rtmake_N s t hq lC lD).mono ?_
  rintro e w4 ⟨bz, Az, nz, cz, Bz, mz, dz, rfl, o, b⟩
  replace f0 := fK b f0 gl
  replace f1 := fK b f1 gl
  replace f2 := fK b f2 gl
  replace s := s.on b
  replace t := t.on b
  replace g0 := cK b g0 gl
  replace g1 := cK b g1 gl
  replace g2 := cK b g2 gl
  replace gl := lK b gl
  replace cc := bK cc b
  clear b
  have eb : BoxR w4 w.heap.size false none 0 0 none 0 0 := ⟨g0, g1, g2⟩
  have HZ := Lib.hid ((o.putR eb (.bool bz) (.slice Az nz cz) (.slice Bz mz dz)).alloc (.cells #[.bool bz, .slice Az nz cz, .slice Bz mz dz] 27))
  have HC := Lib.hid ((eb.put bz Az nz cz Bz mz dz).alloc (.cells #[.bool bz, .slice Az nz cz, .slice Bz mz dz] 27))
  have HB := Lib.hid ((below_putR cc (Nat.le_refl _) (.bool bz) (.slice Az nz cz) (.slice Bz mz dz)).alloc (by simp; omega) (.cells #[.bool bz, .slice Az nz cz, .slice Bz mz dz] 27))
  clear eb
  go_wp2_with fail
  obtain ⟨e0, e1, e2⟩ := HC.out
  refine bodyPost_ret (v := .agg #[.bool bz, .slice Az nz cz, .slice Bz mz dz]) (by simp only [results, Try.results34]; simp [go_sem, e0, e1, e2]) rfl ⟨_, _, _, _, _, _, _, rfl, HZ.out, HB.out⟩

end Go.Proofs.Ytchbhmcaalkfdaa

/-
  Rationals over the fifth reference: which is greater, few limbs, the same.
-/
namespace Go.Proofs.Ytchbhmcaalkfdaa
open Go.RowKit
set_option linter.unusedVariables false
set_option linter.unusedSimpArgs false

theorem cmpQ_swap (a b : Rat) : cmpQ b a = -cmpQ a b := by unfold cmpQ; grind
theorem cmpQ_same (a b : Rat) : (cmpQ a b == 0) = decide (a = b) := by unfold cmpQ; grind
theorem cmpQ_plus (a b c : Rat) : cmpQ (a + c) (b + c) = cmpQ a b := by unfold cmpQ; grind
theorem cmpQ_diff (a b : Rat) : cmpQ (a - b) ((0 : Int) : Rat) = cmpQ a b := by
  rw [show ((0 : Int) : Rat) = 0 from rfl]; unfold cmpQ; grind
theorem cmpQ_times (a b c : Rat) (h : 0 < c) : cmpQ (a * c) (b * c) = cmpQ a b := by
  have e1 : (a * c < b * c) ↔ a < b := by
    constructor
    · intro h1; exact Rat.lt_of_mul_lt_mul_right h1 (Rat.le_of_lt h)
    · intro h1; exact Rat.mul_lt_mul_of_pos_right h1 h
  have e2 : (b * c < a * c) ↔ b < a := by
    constructor
    · intro h1; exact Rat.lt_of_mul_lt_mul_right h1 (Rat.le_of_lt h)
    · intro h1; exact Rat.mul_lt_mul_of_pos_right h1 h
  unfold cmpQ; simp only [e1, e2]
theorem cmpQ_trans (a b c : Rat) (h : cmpQ a b ≤ 0) (h2 : cmpQ b c ≤ 0) : cmpQ a c ≤ 0 := by unfold cmpQ at *; grind
theorem cmpQ_low (a b : Rat) : cmpQ a ((a + b) / ((2 : Int) : Rat)) = cmpQ a b := by
  rw [show ((2 : Int) : Rat) = 2 from rfl]; unfold cmpQ; grind
theorem cmpQ_high (a b : Rat) : cmpQ ((a + b) / ((2 : Int) : Rat)) b = cmpQ a b := by
  rw [show ((2 : Int) : Rat) = 2 from rfl]; unfold cmpQ; grind
theorem q1 (a b : Rat) : a + b - b = a := by grind
theorem q2 (a : Rat) : a - ((0 : Int) : Rat) = a := by rw [show ((0 : Int) : Rat) = 0 from rfl]; grind
theorem q3 (a : Rat) : a * ((1 : Int) : Rat) = a := by rw [show ((1 : Int) : Rat) = 1 from rfl]; grind
theorem q4 (a b : Rat) (h : b ≠ 0) : a * b / b = a := by grind
theorem q5 (a b : Rat) : b + (a - b) = a := by grind
theorem q6 (a b c : Rat) : a + b + c = a + (b + c) := by grind
theorem q7 (a b c : Rat) : a * b * c = a * (b * c) := by grind
theorem q8 (a b c : Rat) : (a + b) * c = a * c + b * c := by grind
theorem q9 (a b c : Rat) : a * b  = b * a := by grind
theorem mk_cross (p p' : Int) (q q' : Nat) (h : q ≠ 0) (h' : q' ≠ 0) : decide (mkRat p q = mkRat p' q') = decide (p * (q' : Int) = p' * (q : Int)) := by
  simp only [Rat.mkRat_eq_iff h h']
theorem mk_more (p : Int) (q c : Nat) (h : c ≠ 0) : mkRat p q = mkRat (p * (c : Int)) (q * c) := by
  rw [Rat.mkRat_mul_right h]

/-- Behind 'x, e := f(..)': a box, and what it holds; the box is new. -/
def LoneR (V U : World) (g : Nat) (b : Bool) (A : Option Addr) (n k : Nat) (B : Option Addr) (m d : Nat) (r : Rat) : Prop := BoxR U g b A n k B m d ∧ Rt U b A n k B m d r ∧ Below V.heap.size V U ∧ V.heap.size ≤ g
section
variable {V wz : World} {g : Nat} {b : Bool} {A B : Option Addr} {n k m d : Nat} {r : Rat}
theorem loneRA (h : Rt wz b A n k B m d r) (qq : Below V.heap.size V wz) (T : TypeId) : LoneR V (wz.alloc (.cells #[.bool b, .slice A n k, .slice B m d] T)) wz.heap.size b A n k B m d r := have o := loneA h qq T; ⟨o.1, o.2.1, o.2.2, qq.size⟩
theorem loneRB (o0 : wz.cell? ⟨g, 0, none⟩ = some (.bool false)) (o1 : wz.cell? ⟨g, 1, none⟩ = some (.slice none 0 0)) (o2 : wz.cell? ⟨g, 2, none⟩ = some (.slice none 0 0)) (h : Rt wz b A n k B m d r) (qq : Below V.heap.size V wz) (l : V.heap.size ≤ g) : LoneR V (putR wz g (.bool b) (.slice A n k) (.slice B m d)) g b A n k B m d r := have o := loneB o0 o1 o2 h qq l; ⟨o.1, o.2.1, o.2.2, l⟩
end
/-- Behind 'top := ..': a box of two cells, and what it holds. -/
def LoneZ (V U : World) (g : Nat) (b : Bool) (A : Option Addr) (n k : Nat) (z : Int) : Prop := Box U g b A n k ∧ Zn U b A n k z ∧ Below V.heap.size V U ∧ V.heap.size ≤ g
section
variable {V wz : World} {g : Nat} {b : Bool} {A : Option Addr} {n k : Nat} {z : Int}
theorem loneZA (h : Zn wz b A n k z) (qq : Below V.heap.size V wz) (T : TypeId) : LoneZ V (wz.alloc (.cells #[.bool b, .slice A n k] T)) wz.heap.size b A n k z := ⟨Box.new wz b A n k T, h.alloc _, qq.alloc qq.size _, qq.size⟩
theorem loneZB (o0 : wz.cell? ⟨g, 0, none⟩ = some (.bool false)) (o1 : wz.cell? ⟨g, 1, none⟩ = some (.slice none 0 0)) (h : Zn wz b A n k z) (qq : Below V.heap.size V wz) (l : V.heap.size ≤ g) : LoneZ V ((wz.setCell ⟨g, 0, none⟩ (.bool b)).setCell ⟨g, 1, none⟩ (.slice A n k)) g b A n k z := have o : Box wz g false none 0 0 := ⟨o0, o1⟩; ⟨o.put b A n k, h.put o _ _, below_put qq l _ _, l⟩
end
/-- Behind 'x, e := f(..)' that was refused: a new box of noughts. -/
def LoneO (V U : World) (g : Nat) : Prop := BoxR U g false none 0 0 none 0 0 ∧ Below V.heap.size V U ∧ V.heap.size ≤ g
section
variable {V wz : World} {g : Nat}
theorem loneOA (qq : Below V.heap.size V wz) (T : TypeId) : LoneO V (wz.alloc (.cells #[.bool false, .slice none 0 0, .slice none 0 0] T)) wz.heap.size := ⟨BoxR.new wz false none 0 0 none 0 0 T, qq.alloc qq.size _, qq.size⟩
theorem loneOB (o0 : wz.cell? ⟨g, 0, none⟩ = some (.bool false)) (o1 : wz.cell? ⟨g, 1, none⟩ = some (.slice none 0 0)) (o2 : wz.cell? ⟨g, 2, none⟩ = some (.slice none 0 0)) (qq : Below V.heap.size V wz) (l : V.heap.size ≤ g) : LoneO V (putR wz g (.bool false) (.slice none 0 0) (.slice none 0 0)) g := have o : BoxR wz g false none 0 0 none 0 0 := ⟨o0, o1, o2⟩; ⟨o.put false none 0 0 none 0 0, below_putR qq l _ _ _, l⟩
end
/-- Behind 'x, y := f(..), g(..)': two boxes, and what they hold. -/
def BothR (V U : World) (gx gy : Nat) (bx : Bool) (Ax : Option Addr) (nx kx : Nat) (Cx : Option Addr) (mx dx : Nat) (bY : Bool) (Ay : Option Addr) (ny ky : Nat) (Cy : Option Addr) (my dy : Nat) (rx ry : Rat) : Prop :=
  BoxR U gx bx Ax nx kx Cx mx dx ∧ BoxR U gy bY Ay ny ky Cy my dy ∧ Rt U bx Ax nx kx Cx mx dx rx ∧ Rt U bY Ay ny ky Cy my dy ry ∧ Below V.heap.size V U ∧ V.heap.size ≤ gx ∧ V.heap.size ≤ gy ∧ gx ≠ gy
section
variable {V wz : World} {gx gy : Nat} {bx bY : Bool} {Ax Ay Cx Cy : Option Addr} {nx kx ny ky mx dx my dy : Nat} {rx ry : Rat}
theorem pairRA (hx : Rt wz bx Ax nx kx Cx mx dx rx) (hy : Rt wz bY Ay ny ky Cy my dy ry) (qq : Below V.heap.size V wz) (T : TypeId) : BothR V ((wz.alloc (.cells #[.bool bx, .slice Ax nx kx, .slice Cx mx dx] T)).alloc (.cells #[.bool bY, .slice Ay ny ky, .slice Cy my dy] T)) wz.heap.size (wz.heap.size + 1) bx Ax nx kx Cx mx dx bY Ay ny ky Cy my dy rx ry :=
  ⟨(BoxR.new wz bx Ax nx kx Cx mx dx T).alloc _, by have := BoxR.new (wz.alloc (.cells #[.bool bx, .slice Ax nx kx, .slice Cx mx dx] T)) bY Ay ny ky Cy my dy T; simpa using this, (hx.alloc _).alloc _, (hy.alloc _).alloc _, (qq.alloc qq.size _).alloc (by have := qq.size; simp; omega) _, qq.size, Nat.le_succ_of_le qq.size, by omega⟩
theorem pairRA' (hx : Rt wz bx Ax nx kx Cx mx dx rx) (hy : Rt wz bY Ay ny ky Cy my dy ry) (qq : Below V.heap.size V wz) (T : TypeId) : BothR V ((wz.alloc (.cells #[.bool bY, .slice Ay ny ky, .slice Cy my dy] T)).alloc (.cells #[.bool bx, .slice Ax nx kx, .slice Cx mx dx] T)) (wz.heap.size + 1) wz.heap.size bx Ax nx kx Cx mx dx bY Ay ny ky Cy my dy rx ry :=
  ⟨by have := BoxR.new (wz.alloc (.cells #[.bool bY, .slice Ay ny ky, .slice Cy my dy] T)) bx Ax nx kx Cx mx dx T; simpa using this, (BoxR.new wz bY Ay ny ky Cy my dy T).alloc _, (hx.alloc _).alloc _, (hy.alloc _).alloc _, (qq.alloc qq.size _).alloc (by have := qq.size; simp; omega) _, Nat.le_succ_of_le qq.size, qq.size, by omega⟩
theorem pairRB (c0 : wz.cell? ⟨gx, 0, none⟩ = some (.bool false)) (c1 : wz.cell? ⟨gx, 1, none⟩ = some (.slice none 0 0)) (c2 : wz.cell? ⟨gx, 2, none⟩ = some (.slice none 0 0)) (hx : Rt wz bx Ax nx kx Cx mx dx rx) (hy : Rt wz bY Ay ny ky Cy my dy ry) (qq : Below V.heap.size V wz) (lx : V.heap.size ≤ gx) (T : TypeId) :
    BothR V ((putR wz gx (.bool bx) (.slice Ax nx kx) (.slice Cx mx dx)).alloc (.cells #[.bool bY, .slice Ay ny ky, .slice Cy my dy] T)) gx wz.heap.size bx Ax nx kx Cx mx dx bY Ay ny ky Cy my dy rx ry :=
  have B : BoxR wz gx false none 0 0 none 0 0 := ⟨c0, c1, c2⟩
  ⟨(B.put bx Ax nx kx Cx mx dx).alloc _, by have := BoxR.new (putR wz gx (.bool bx) (.slice Ax nx kx) (.slice Cx mx dx)) bY Ay ny ky Cy my dy T; simpa using this, (hx.putR B _ _ _).alloc _, (hy.putR B _ _ _).alloc _, (below_putR qq lx _ _ _).alloc (by have := qq.size; simp; omega) _, lx, qq.size, by have := cell_lt c0; simp only at this; omega⟩
theorem pairRB' (c0 : wz.cell? ⟨gy, 0, none⟩ = some (.bool false)) (c1 : wz.cell? ⟨gy, 1, none⟩ = some (.slice none 0 0)) (c2 : wz.cell? ⟨gy, 2, none⟩ = some (.slice none 0 0)) (hx : Rt wz bx Ax nx kx Cx mx dx rx) (hy : Rt wz bY Ay ny ky Cy my dy ry) (qq : Below V.heap.size V wz) (ly : V.heap.size ≤ gy) (T : TypeId) :
    BothR V ((putR wz gy (.bool bY) (.slice Ay ny ky) (.slice Cy my dy)).alloc (.cells #[.bool bx, .slice Ax nx kx, .slice Cx mx dx] T)) wz.heap.size gy bx Ax nx kx Cx mx dx bY Ay ny ky Cy my dy rx ry :=
  have B : BoxR wz gy false none 0 0 none 0 0 := ⟨c0, c1, c2⟩
  ⟨by have := BoxR.new (putR wz gy (.bool bY) (.slice Ay ny ky) (.slice Cy my dy)) bx Ax nx kx Cx mx dx T; simpa using this, (B.put bY Ay ny ky Cy my dy).alloc _, (hx.putR B _ _ _).alloc _, (hy.putR B _ _ _).alloc _, (below_putR qq ly _ _ _).alloc (by have := qq.size; simp; omega) _, qq.size, ly, by have := cell_lt c0; simp only at this; omega⟩
theorem pairRC (c0 : wz.cell? ⟨gx, 0, none⟩ = some (.bool false)) (c1 : wz.cell? ⟨gx, 1, none⟩ = some (.slice none 0 0)) (c2 : wz.cell? ⟨gx, 2, none⟩ = some (.slice none 0 0)) (d0 : wz.cell? ⟨gy, 0, none⟩ = some (.bool false)) (d1 : wz.cell? ⟨gy, 1, none⟩ = some (.slice none 0 0)) (d2 : wz.cell? ⟨gy, 2, none⟩ = some (.slice none 0 0)) (hx : Rt wz bx Ax nx kx Cx mx dx rx) (hy : Rt wz bY Ay ny ky Cy my dy ry) (qq : Below V.heap.size V wz) (lx : V.heap.size ≤ gx) (ly : V.heap.size ≤ gy) (hne : gx ≠ gy) :
    BothR V (putR (putR wz gx (.bool bx) (.slice Ax nx kx) (.slice Cx mx dx)) gy (.bool bY) (.slice Ay ny ky) (.slice Cy my dy)) gx gy bx Ax nx kx Cx mx dx bY Ay ny ky Cy my dy rx ry :=
  have B : BoxR wz gx false none 0 0 none 0 0 := ⟨c0, c1, c2⟩
  have D : BoxR (putR wz gx (.bool bx) (.slice Ax nx kx) (.slice Cx mx dx)) gy false none 0 0 none 0 0 := BoxR.other ⟨d0, d1, d2⟩ (Ne.symm hne)
  ⟨(B.put bx Ax nx kx Cx mx dx).other hne, D.put bY Ay ny ky Cy my dy, (hx.putR B _ _ _).putR D _ _ _, (hy.putR B _ _ _).putR D _ _ _, below_putR (below_putR qq lx _ _ _) ly _ _ _, lx, ly, hne⟩
end

theorem num_nil (w : World) (A : Option Addr) (c : Nat) : Num w A 0 c 0 := by unfold Num; rw [limbs_zero]; exact Lim.nil _ _ _ _
theorem len_nil : (limbs 0).length ≤ 300 := by rw [limbs_zero]; simp
theorem okR_rt {w : World} {b : Bool} {A B : Option Addr} {n c m d : Nat} {r : Rat} (h : Rt w b A n c B m d r) : okR b n (limbs r.num.natAbs) m (limbs r.den) = true := by
  unfold okR
  have h1 : 0 < m := h.2.some_len r.den_nz
  have h2 := r.reduced
  unfold Nat.Coprime at h2
  simp only [h.1.ok, limbs_canon, val_limbs, Bool.true_and, decide_eq_true h1]
  exact decide_eq_true h2
theorem num_one {x : Nat} (hx : x < B64) (h0 : x ≠ 0) (w : World) : Num (w.alloc (.cells #[.int .u64 (x : Int)] 43)) (some ⟨w.heap.size, 0, none⟩) 1 1 x := by
  have h := (lim_one hx w).num (by simp [canon]; omega)
  have hv : val [x] = x := by simp [val_cons, val_nil]
  rwa [hv] at h

theorem rtright_N {w : World} {b : Bool} {A B : Option Addr} {n c m d : Nat} {r : Rat} (h : Rt w b A n c B m d r) (s : Sz r 30) : Calls Try.prog 30 #[.agg #[.bool b, .slice A n c, .slice B m d]] w (GotV w (.bool true)) := rtright_any h.1.1 h.2 (by rw [h.1.1.len]; exact Nat.le_trans s.1 (by omega)) (by rw [h.2.len]; exact Nat.le_trans s.2 (by omega)) true (okR_rt h)

theorem rtcmp_v {w : World} {b0 b1 : Bool} {A0 B0 A1 B1 : Option Addr} {n0 c0 m0 d0 n1 c1 m1 d1 : Nat} {x0 x1 : Rat} (r : Int) (h0 : Rt w b0 A0 n0 c0 B0 m0 d0 x0) (s0 : Sz x0 100) (h1 : Rt w b1 A1 n1 c1 B1 m1 d1 x1) (s1 : Sz x1 100) (h : cmpQ x0 x1 = r) : Calls Try.prog 23 #[.agg #[.bool b0, .slice A0 n0 c0, .slice B0 m0 d0], .agg #[.bool b1, .slice A1 n1 c1, .slice B1 m1 d1]] w (GotV w (.int .i64 r)) := by
  subst h
  exact rtcmp_N h0 s0 h1 s1

theorem rtsame_eq {w : World} {b0 b1 : Bool} {A0 B0 A1 B1 : Option Addr} {n0 c0 m0 d0 n1 c1 m1 d1 : Nat} {x0 x1 : Rat} (h0 : Rt w b0 A0 n0 c0 B0 m0 d0 x0) (s0 : Sz x0 100) (h1 : Rt w b1 A1 n1 c1 B1 m1 d1 x1) (s1 : Sz x1 100) (h : Hid (x0 = x1)) : Calls Try.prog 21 #[.agg #[.bool b0, .slice A0 n0 c0, .slice B0 m0 d0], .agg #[.bool b1, .slice A1 n1 c1, .slice B1 m1 d1]] w (GotV w (.bool true)) := rtsame_N h0 (s0.le (by omega)) h1 (s1.le (by omega)) true (decide_eq_true h.out)

theorem rtsame_self {w : World} {b0 b1 : Bool} {A0 B0 A1 B1 : Option Addr} {n0 c0 m0 d0 n1 c1 m1 d1 : Nat} {x : Rat} (h0 : Rt w b0 A0 n0 c0 B0 m0 d0 x) (s0 : Sz x 100) (h1 : Rt w b1 A1 n1 c1 B1 m1 d1 x) : Calls Try.prog 21 #[.agg #[.bool b0, .slice A0 n0 c0, .slice B0 m0 d0], .agg #[.bool b1, .slice A1 n1 c1, .slice B1 m1 d1]] w (GotV w (.bool true)) := rtsame_eq h0 s0 h1 s0 (Lib.hid rfl)

theorem rtsame_none (w : World) : Calls Try.prog 21 #[.agg #[.bool false, .slice none 0 0, .slice none 0 0], .agg #[.bool false, .slice none 0 0, .slice none 0 0]] w (GotV w (.bool true)) := by
  have h : Rw w false none 0 0 none 0 0 0 0 := ⟨⟨num_zero w, rfl⟩, num_zero w⟩
  have l : (limbs 0).length ≤ 1000 := Nat.le_trans len_nil (by omega)
  exact rtsame_any h h l l l l true (by simp)

/-- A rational that is right and of few limbs. -/
theorem few_rt {w : World} {b : Bool} {A B : Option Addr} {n c m d : Nat} {l l2 : List Nat} (k : Nat) (h : Lim w.heap.size w A n c l) (h2 : Lim w.heap.size w B m d l2) (hr : (decide ((n : Int) ≤ (k : Int)) && (decide ((m : Int) ≤ (k : Int)) && okR b n l m l2)) = true) : ∃ r : Rat, Rt w b A n c B m d r ∧ Sz r k := by
  rw [Bool.and_eq_true, Bool.and_eq_true] at hr
  obtain ⟨e1, e2, e3⟩ := hr
  unfold okR at e3
  rw [Bool.and_eq_true, Bool.and_eq_true, Bool.and_eq_true] at e3
  obtain ⟨e4, e5, e6, e7⟩ := e3
  have hz := okZ_zn h e4
  have hN := h2.num e5
  have h0 := num_ne hN (of_decide_eq_true e6)
  have hg : Nat.gcd (sgn b (val l)).natAbs (val l2) = 1 := by rw [sgn_abs]; exact of_decide_eq_true e7
  obtain ⟨r, r1, r2⟩ := rat_of _ _ h0 hg
  refine ⟨r, ⟨by rw [r1]; exact hz, by rw [r2]; exact hN⟩, ?_, ?_⟩
  · rw [r1, ← hz.1.len]; have := of_decide_eq_true e1; omega
  · rw [r2, ← hN.len]; have := of_decide_eq_true e2; omega
theorem rt_nought {w : World} {b : Bool} {A B : Option Addr} {n c m d : Nat} {x : Rat} (h : Rt w b A n c B m d x) (hn : 0 < n) : x.num ≠ 0 := by
  have := num_ne h.1.1 hn
  omega
theorem rt_zero {w : World} {b : Bool} {A B : Option Addr} {n c m d : Nat} {x : Rat} (h : Rt w b A n c B m d x) (hx : x.num = 0) : n = 0 := by
  have := h.1.1.len
  rw [hx] at this
  rw [this, show (0 : Int).natAbs = 0 from rfl, limbs_zero]; rfl
theorem rt_above {w : World} {b : Bool} {A B : Option Addr} {n c m d : Nat} {x : Rat} (h : Rt w b A n c B m d x) (hn : 0 < n) (hb : b = false) : 0 < x := by
  have h1 := rt_nought h hn
  have h2 := h.1.2
  rw [hb] at h2
  have h3 : ¬ x.num < 0 := of_decide_eq_false h2.symm
  rw [Rat.lt_iff]
  show 0 * (x.den : Int) < x.num * ((1 : Nat) : Int)
  omega
theorem rat_zero {x : Rat} (h : x.num = 0) : x = 0 := Rat.num_eq_zero.1 h

end Go.Proofs.Ytchbhmcaalkfdaa
