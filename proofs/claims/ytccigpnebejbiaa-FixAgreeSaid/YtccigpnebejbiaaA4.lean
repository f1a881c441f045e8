/-
  Several texts in one: E6, E7, E8, E9.
-/
import Derived.Test.YtccigpnebejbiaaA3

/-
  The contracts of the fifth reference: over, Cmp.
-/
namespace Go.Proofs.Ytccigpnebejbiaa
set_option maxRecDepth 100000
open Go.RowKit
set_option linter.unusedVariables false

theorem zn_nat {w : World} {B : Option Addr} {m d q : Nat} (h : Num w B m d q) : Zn w false B m d (q : Int) := ⟨by rw [Int.natAbs_natCast]; exact h, by simp⟩

set_option maxRecDepth 100000 in
set_option maxHeartbeats 8000000 in
theorem over_N {w : World} {b : Bool} {A B : Option Addr} {n c m d q : Nat} {p : Int} (ha : Zn w b A n c p) (hb : Num w B m d q) (hx : (limbs p.natAbs).length ≤ 1000) (hy : (limbs q).length ≤ 1000) :
    Calls Try.prog 45 #[.agg #[.bool b, .slice A n c], .slice B m d] w (GotZ w (p * (q : Int))) := by
  have hz := zn_nat hb
  have hl : (limbs (q : Int).natAbs).length ≤ 1000 := by rw [Int.natAbs_natCast]; exact hy
  have cc := Below.refl w.heap.size w
  go_enter Try.func45, Try.ntmps45
  go_wp2_with fail
  have f0 : ((w.alloc (.cells #[.bool b, .slice A n c] 33)).alloc (.cells #[.bool false, .slice none 0 0] 33)).frozen? ⟨w.heap.size + 1, 0, none⟩ = false := by simp [go_sem]
  have f1 : ((w.alloc (.cells #[.bool b, .slice A n c] 33)).alloc (.cells #[.bool false, .slice none 0 0] 33)).frozen? ⟨w.heap.size + 1, 1, none⟩ = false := by simp [go_sem]
  have bA : Below w.heap.size w ((w.alloc (.cells #[.bool b, .slice A n c] 33)).alloc (.cells #[.bool false, .slice none 0 0] 33)) := (((Below.refl _ w).alloc (by simp) _).alloc (by simp) _)
  replace ha := ha.on bA
  replace hz := hz.on bA
  replace cc := bK cc bA
  clear bA
  have k0 : ((w.alloc (.cells #[.bool b, .slice A n c] 33)).alloc (.cells #[.bool false, .slice none 0 0] 33)).cell? ⟨w.heap.size, 0, none⟩ = some (.bool b) := by simp [go_sem]
  have k1 : ((w.alloc (.cells #[.bool b, .slice A n c] 33)).alloc (.cells #[.bool false, .slice none 0 0] 33)).cell? ⟨w.heap.size, 1, none⟩ = some (.slice A n c) := by simp [go_sem]
  have kl : w.heap.size < ((w.alloc (.cells #[.bool b, .slice A n c] 33)).alloc (.cells #[.bool false, .slice none 0 0] 33)).heap.size := by simp <;> omega
  have g0 : ((w.alloc (.cells #[.bool b, .slice A n c] 33)).alloc (.cells #[.bool false, .slice none 0 0] 33)).cell? ⟨w.heap.size + 1, 0, none⟩ = some (.bool false) := by simp [go_sem]
  have g1 : ((w.alloc (.cells #[.bool b, .slice A n c] 33)).alloc (.cells #[.bool false, .slice none 0 0] 33)).cell? ⟨w.heap.size + 1, 1, none⟩ = some (.slice none 0 0) := by simp [go_sem]
  have gl : w.heap.size + 1 < ((w.alloc (.cells #[.bool b, .slice A n c] 33)).alloc (.cells #[.bool false, .slice none 0 0] 33)).heap.size := by simp <;> omega
  generalize (w.alloc (.cells #[.bool b, .slice A n c] 33)).alloc (.cells #[.bool false, .slice none 0 0] 33) = v1 at *
  refine (rzmul_N ha hz hx hl).mono ?_
  rintro e w2 ⟨bm, Am, nm, cm, rfl, hm, b⟩
  replace f0 := fK b f0 gl
  replace f1 := fK b f1 gl
  replace ha := ha.on b
  replace hz := hz.on b
  replace k0 := cK b k0 kl
  replace k1 := cK b k1 kl
  replace kl := lK b kl
  replace g0 := cK b g0 gl
  replace g1 := cK b g1 gl
  replace gl := lK b gl
  replace cc := bK cc b
  clear b
  go_wp2_with fail
  have eb : Box w2 (w.heap.size + 1) false none 0 0 := ⟨g0, g1⟩
  refine bodyPost_ret (v := .agg #[.bool bm, .slice Am nm cm]) (by simp [results, Try.results45, go_sem, g0, g1]) rfl ⟨_, _, _, _, rfl, hm.put eb _ _, below_put cc (by omega) _ _⟩

set_option maxRecDepth 100000 in
set_option maxHeartbeats 8000000 in
theorem rtcmp_N {w : World} {b0 b1 : Bool} {A0 B0 A1 B1 : Option Addr} {n0 c0 m0 d0 n1 c1 m1 d1 : Nat} {x0 x1 : Rat} (h0 : Rt w b0 A0 n0 c0 B0 m0 d0 x0) (s0 : Sz x0 100) (h1 : Rt w b1 A1 n1 c1 B1 m1 d1 x1) (s1 : Sz x1 100) :
    Calls Try.prog 20 #[.agg #[.bool b0, .slice A0 n0 c0, .slice B0 m0 d0], .agg #[.bool b1, .slice A1 n1 c1, .slice B1 m1 d1]] w (GotV w (.int .i64 (cmpQ x0 x1))) := by
  have p0 := h0.1
  have q0 := h0.2
  have lp0 := s0.1
  have lq0 := s0.2
  have p1 := h1.1
  have q1 := h1.2
  have lp1 := s1.1
  have lq1 := s1.2
  clear h0
  clear h1
  have lA : (limbs (x0.num * (x1.den : Int)).natAbs).length ≤ 200 := by rw [natAbs_over]; exact limbs_length_mul lp0 lq1
  have lB : (limbs (x1.num * (x0.den : Int)).natAbs).length ≤ 200 := by rw [natAbs_over]; exact limbs_length_mul lp1 lq0
  have cc := Below.refl w.heap.size w
  go_enter Try.func20, Try.ntmps20
  go_wp2_with fail
  have bA : Below w.heap.size w ((w.alloc (.cells #[.bool b0, .slice A0 n0 c0, .slice B0 m0 d0] 35)).alloc (.cells #[.bool b1, .slice A1 n1 c1, .slice B1 m1 d1] 35)) := (((Below.refl _ w).alloc (by simp) _).alloc (by simp) _)
  replace p0 := p0.on bA
  replace q0 := q0.on bA
  replace p1 := p1.on bA
  replace q1 := q1.on bA
  replace cc := bK cc bA
  clear bA
  have k0 : ((w.alloc (.cells #[.bool b0, .slice A0 n0 c0, .slice B0 m0 d0] 35)).alloc (.cells #[.bool b1, .slice A1 n1 c1, .slice B1 m1 d1] 35)).cell? ⟨w.heap.size, 0, none⟩ = some (.bool b0) := by simp [go_sem]
  have k1 : ((w.alloc (.cells #[.bool b0, .slice A0 n0 c0, .slice B0 m0 d0] 35)).alloc (.cells #[.bool b1, .slice A1 n1 c1, .slice B1 m1 d1] 35)).cell? ⟨w.heap.size, 1, none⟩ = some (.slice A0 n0 c0) := by simp [go_sem]
  have k2 : ((w.alloc (.cells #[.bool b0, .slice A0 n0 c0, .slice B0 m0 d0] 35)).alloc (.cells #[.bool b1, .slice A1 n1 c1, .slice B1 m1 d1] 35)).cell? ⟨w.heap.size, 2, none⟩ = some (.slice B0 m0 d0) := by simp [go_sem]
  have kl : w.heap.size < ((w.alloc (.cells #[.bool b0, .slice A0 n0 c0, .slice B0 m0 d0] 35)).alloc (.cells #[.bool b1, .slice A1 n1 c1, .slice B1 m1 d1] 35)).heap.size := by simp <;> omega
  have g0 : ((w.alloc (.cells #[.bool b0, .slice A0 n0 c0, .slice B0 m0 d0] 35)).alloc (.cells #[.bool b1, .slice A1 n1 c1, .slice B1 m1 d1] 35)).cell? ⟨w.heap.size + 1, 0, none⟩ = some (.bool b1) := by simp [go_sem]
  have g1 : ((w.alloc (.cells #[.bool b0, .slice A0 n0 c0, .slice B0 m0 d0] 35)).alloc (.cells #[.bool b1, .slice A1 n1 c1, .slice B1 m1 d1] 35)).cell? ⟨w.heap.size + 1, 1, none⟩ = some (.slice A1 n1 c1) := by simp [go_sem]
  have g2 : ((w.alloc (.cells #[.bool b0, .slice A0 n0 c0, .slice B0 m0 d0] 35)).alloc (.cells #[.bool b1, .slice A1 n1 c1, .slice B1 m1 d1] 35)).cell? ⟨w.heap.size + 1, 2, none⟩ = some (.slice B1 m1 d1) := by simp [go_sem]
  have gl : w.heap.size + 1 < ((w.alloc (.cells #[.bool b0, .slice A0 n0 c0, .slice B0 m0 d0] 35)).alloc (.cells #[.bool b1, .slice A1 n1 c1, .slice B1 m1 d1] 35)).heap.size := by simp <;> omega
  generalize (w.alloc (.cells #[.bool b0, .slice A0 n0 c0, .slice B0 m0 d0] 35)).alloc (.cells #[.bool b1, .slice A1 n1 c1, .slice B1 m1 d1] 35) = v1 at *
  have qq : Below v1.heap.size v1 v1.drew := below_drewN (Below.refl _ v1) 1
  have p0' := p0.on qq
  have q0' := q0.on qq
  have p1' := p1.on qq
  have q1' := q1.on qq
  go_region_held3 (fun w' => w'.cell? ⟨w.heap.size, 0, none⟩ = some (.bool b0) ∧ w'.cell? ⟨w.heap.size, 1, none⟩ = some (.slice A0 n0 c0) ∧ w'.cell? ⟨w.heap.size, 2, none⟩ = some (.slice B0 m0 d0) ∧ w'.cell? ⟨w.heap.size + 1, 0, none⟩ = some (.bool b1) ∧ w'.cell? ⟨w.heap.size + 1, 1, none⟩ = some (.slice A1 n1 c1) ∧ w'.cell? ⟨w.heap.size + 1, 2, none⟩ = some (.slice B1 m1 d1))
    (first | with_reducible exact ⟨cK qq k0 kl, cK qq k1 kl, cK qq k2 kl, cK qq g0 gl, cK qq g1 gl, cK qq g2 gl⟩ | go_keep)
    (first
      | (go_at_call 45; (with_reducible refine (over_N p0' q1' (Nat.le_trans lp0 (by omega)) (Nat.le_trans lq1 (by omega))).mono ?_); rintro e wz ⟨bu, Au, nu, cu, rfl, u, q⟩; replace qq := bK qq q; (try replace p0' := p0'.on q); (try replace q0' := q0'.on q); (try replace p1' := p1'.on q); (try replace q1' := q1'.on q); (try replace v := v.on q); clear q)
      | (go_at_call 45; (with_reducible refine (over_N p1' q0' (Nat.le_trans lp1 (by omega)) (Nat.le_trans lq0 (by omega))).mono ?_); rintro e wz ⟨bv, Av, nv, cv, rfl, v, q⟩; replace qq := bK qq q; (try replace p0' := p0'.on q); (try replace q0' := q0'.on q); (try replace p1' := p1'.on q); (try replace q1' := q1'.on q); (try replace u := u.on q); clear q)
      | (go_at_call 44; (with_reducible refine (rzcmp_N u v (Nat.le_trans lA (by omega)) (Nat.le_trans lB (by omega))).mono ?_); rintro e wz ⟨rfl, q⟩; replace qq := bK qq q; (try replace p0' := p0'.on q); (try replace q0' := q0'.on q); (try replace p1' := p1'.on q); (try replace q1' := q1'.on q); (try replace u := u.on q); (try replace v := v.on q); clear q))
  clear p0
  have p0 := p0'
  clear p0'
  clear q0
  have q0 := q0'
  clear q0'
  clear p1
  have p1 := p1'
  clear p1'
  clear q1
  have q1 := q1'
  clear q1'
  replace k0 := cK qq k0 kl
  replace k1 := cK qq k1 kl
  replace k2 := cK qq k2 kl
  replace kl := lK qq kl
  replace g0 := cK qq g0 gl
  replace g1 := cK qq g1 gl
  replace g2 := cK qq g2 gl
  replace gl := lK qq gl
  replace cc := bK cc qq
  clear qq
  go_wp2_with fail
  go_ret
  refine ⟨?_, cc⟩
  rw [cmpQ_eq]
  rfl

set_option maxRecDepth 100000 in
set_option maxHeartbeats 8000000 in
theorem rtadd_N {w : World} {b0 b1 : Bool} {A0 B0 A1 B1 : Option Addr} {n0 c0 m0 d0 n1 c1 m1 d1 : Nat} {x0 x1 : Rat} (h0 : Rt w b0 A0 n0 c0 B0 m0 d0 x0) (s0 : Sz x0 40) (h1 : Rt w b1 A1 n1 c1 B1 m1 d1 x1) (s1 : Sz x1 40) :
    Calls Try.prog 66 #[.agg #[.bool b0, .slice A0 n0 c0, .slice B0 m0 d0], .agg #[.bool b1, .slice A1 n1 c1, .slice B1 m1 d1]] w (GotRt w (x0 + x1)) := by
  have p0 := h0.1
  have q0 := h0.2
  have lp0 := s0.1
  have lq0 := s0.2
  have p1 := h1.1
  have q1 := h1.2
  have lp1 := s1.1
  have lq1 := s1.2
  clear h0
  clear h1
  have hq := den_mul_ne x0 x1
  have lD : (limbs (x0.den * x1.den)).length ≤ 100 := Nat.le_trans (limbs_length_mul lq0 lq1) (by omega)
  have lA : (limbs (x0.num * (x1.den : Int)).natAbs).length ≤ 80 := by rw [natAbs_over]; exact limbs_length_mul lp0 lq1
  have lB : (limbs (x1.num * (x0.den : Int)).natAbs).length ≤ 80 := by rw [natAbs_over]; exact limbs_length_mul lp1 lq0
  have lC : (limbs (x0.num * (x1.den : Int) + x1.num * (x0.den : Int)).natAbs).length ≤ 100 := Nat.le_trans (zlen_add (k := 80) lA lB) (by omega)
  have HE : Hid (x0 + x1 = mkRat (x0.num * (x1.den : Int) + x1.num * (x0.den : Int)) (x0.den * x1.den)) := Lib.hid (Rat.add_def' x0 x1)
  have cc := Below.refl w.heap.size w
  go_enter Try.func66, Try.ntmps66
  go_wp2_with fail
  have f0 : (((w.alloc (.cells #[.bool b0, .slice A0 n0 c0, .slice B0 m0 d0] 35)).alloc (.cells #[.bool b1, .slice A1 n1 c1, .slice B1 m1 d1] 35)).alloc (.cells #[.bool false, .slice none 0 0, .slice none 0 0] 35)).frozen? ⟨w.heap.size + 1 + 1, 0, none⟩ = false := by simp [go_sem]
  have f1 : (((w.alloc (.cells #[.bool b0, .slice A0 n0 c0, .slice B0 m0 d0] 35)).alloc (.cells #[.bool b1, .slice A1 n1 c1, .slice B1 m1 d1] 35)).alloc (.cells #[.bool false, .slice none 0 0, .slice none 0 0] 35)).frozen? ⟨w.heap.size + 1 + 1, 1, none⟩ = false := by simp [go_sem]
  have f2 : (((w.alloc (.cells #[.bool b0, .slice A0 n0 c0, .slice B0 m0 d0] 35)).alloc (.cells #[.bool b1, .slice A1 n1 c1, .slice B1 m1 d1] 35)).alloc (.cells #[.bool false, .slice none 0 0, .slice none 0 0] 35)).frozen? ⟨w.heap.size + 1 + 1, 2, none⟩ = false := by simp [go_sem]
  have bA : Below w.heap.size w (((w.alloc (.cells #[.bool b0, .slice A0 n0 c0, .slice B0 m0 d0] 35)).alloc (.cells #[.bool b1, .slice A1 n1 c1, .slice B1 m1 d1] 35)).alloc (.cells #[.bool false, .slice none 0 0, .slice none 0 0] 35)) := ((((Below.refl _ w).alloc (by simp) _).alloc (by simp) _).alloc (by simp <;> omega) _)
  replace p0 := p0.on bA
  replace q0 := q0.on bA
  replace p1 := p1.on bA
  replace q1 := q1.on bA
  replace cc := bK cc bA
  clear bA
  have k0 : (((w.alloc (.cells #[.bool b0, .slice A0 n0 c0, .slice B0 m0 d0] 35)).alloc (.cells #[.bool b1, .slice A1 n1 c1, .slice B1 m1 d1] 35)).alloc (.cells #[.bool false, .slice none 0 0, .slice none 0 0] 35)).cell? ⟨w.heap.size, 0, none⟩ = some (.bool b0) := by simp [go_sem]
  have k1 : (((w.alloc (.cells #[.bool b0, .slice A0 n0 c0, .slice B0 m0 d0] 35)).alloc (.cells #[.bool b1, .slice A1 n1 c1, .slice B1 m1 d1] 35)).alloc (.cells #[.bool false, .slice none 0 0, .slice none 0 0] 35)).cell? ⟨w.heap.size, 1, none⟩ = some (.slice A0 n0 c0) := by simp [go_sem]
  have k2 : (((w.alloc (.cells #[.bool b0, .slice A0 n0 c0, .slice B0 m0 d0] 35)).alloc (.cells #[.bool b1, .slice A1 n1 c1, .slice B1 m1 d1] 35)).alloc (.cells #[.bool false, .slice none 0 0, .slice none 0 0] 35)).cell? ⟨w.heap.size, 2, none⟩ = some (.slice B0 m0 d0) := by simp [go_sem]
  have kl : w.heap.size < (((w.alloc (.cells #[.bool b0, .slice A0 n0 c0, .slice B0 m0 d0] 35)).alloc (.cells #[.bool b1, .slice A1 n1 c1, .slice B1 m1 d1] 35)).alloc (.cells #[.bool false, .slice none 0 0, .slice none 0 0] 35)).heap.size := by simp <;> omega
  have h0 : (((w.alloc (.cells #[.bool b0, .slice A0 n0 c0, .slice B0 m0 d0] 35)).alloc (.cells #[.bool b1, .slice A1 n1 c1, .slice B1 m1 d1] 35)).alloc (.cells #[.bool false, .slice none 0 0, .slice none 0 0] 35)).cell? ⟨w.heap.size + 1, 0, none⟩ = some (.bool b1) := by simp [go_sem]
  have h1 : (((w.alloc (.cells #[.bool b0, .slice A0 n0 c0, .slice B0 m0 d0] 35)).alloc (.cells #[.bool b1, .slice A1 n1 c1, .slice B1 m1 d1] 35)).alloc (.cells #[.bool false, .slice none 0 0, .slice none 0 0] 35)).cell? ⟨w.heap.size + 1, 1, none⟩ = some (.slice A1 n1 c1) := by simp [go_sem]
  have h2 : (((w.alloc (.cells #[.bool b0, .slice A0 n0 c0, .slice B0 m0 d0] 35)).alloc (.cells #[.bool b1, .slice A1 n1 c1, .slice B1 m1 d1] 35)).alloc (.cells #[.bool false, .slice none 0 0, .slice none 0 0] 35)).cell? ⟨w.heap.size + 1, 2, none⟩ = some (.slice B1 m1 d1) := by simp [go_sem]
  have hl : w.heap.size + 1 < (((w.alloc (.cells #[.bool b0, .slice A0 n0 c0, .slice B0 m0 d0] 35)).alloc (.cells #[.bool b1, .slice A1 n1 c1, .slice B1 m1 d1] 35)).alloc (.cells #[.bool false, .slice none 0 0, .slice none 0 0] 35)).heap.size := by simp <;> omega
  have g0 : (((w.alloc (.cells #[.bool b0, .slice A0 n0 c0, .slice B0 m0 d0] 35)).alloc (.cells #[.bool b1, .slice A1 n1 c1, .slice B1 m1 d1] 35)).alloc (.cells #[.bool false, .slice none 0 0, .slice none 0 0] 35)).cell? ⟨w.heap.size + 1 + 1, 0, none⟩ = some (.bool false) := by simp [go_sem]
  have g1 : (((w.alloc (.cells #[.bool b0, .slice A0 n0 c0, .slice B0 m0 d0] 35)).alloc (.cells #[.bool b1, .slice A1 n1 c1, .slice B1 m1 d1] 35)).alloc (.cells #[.bool false, .slice none 0 0, .slice none 0 0] 35)).cell? ⟨w.heap.size + 1 + 1, 1, none⟩ = some (.slice none 0 0) := by simp [go_sem]
  have g2 : (((w.alloc (.cells #[.bool b0, .slice A0 n0 c0, .slice B0 m0 d0] 35)).alloc (.cells #[.bool b1, .slice A1 n1 c1, .slice B1 m1 d1] 35)).alloc (.cells #[.bool false, .slice none 0 0, .slice none 0 0] 35)).cell? ⟨w.heap.size + 1 + 1, 2, none⟩ = some (.slice none 0 0) := by simp [go_sem]
  have gl : w.heap.size + 1 + 1 < (((w.alloc (.cells #[.bool b0, .slice A0 n0 c0, .slice B0 m0 d0] 35)).alloc (.cells #[.bool b1, .slice A1 n1 c1, .slice B1 m1 d1] 35)).alloc (.cells #[.bool false, .slice none 0 0, .slice none 0 0] 35)).heap.size := by simp <;> omega
  generalize ((w.alloc (.cells #[.bool b0, .slice A0 n0 c0, .slice B0 m0 d0] 35)).alloc (.cells #[.bool b1, .slice A1 n1 c1, .slice B1 m1 d1] 35)).alloc (.cells #[.bool false, .slice none 0 0, .slice none 0 0] 35) = v1 at *
  go_upto_region 1 with fail
  go_cut [5] (fun u wx => ∃ (g : Nat) (b : Bool) (A : Option Addr) (n c : Nat) (B : Option Addr) (m d : Nat), u = .pointer (some ⟨g, 0, none⟩) ∧ Lone v1 wx g b A n c B m d (mkRat (x0.num * (x1.den : Int) + x1.num * (x0.den : Int)) (x0.den * x1.den)))
  case first =>
    have BB0 : Below v1.heap.size v1 v1.drew := below_drewN (Below.refl _ v1) 1
    have BB1 : Below v1.heap.size v1 (v1.alloc (.cells #[.bool false, .slice none 0 0, .slice none 0 0] 35)).drew := below_drewN (below_one _ _) 1
    go_region_held3 (fun w' => w'.cell? ⟨w.heap.size, 0, none⟩ = some (.bool b0) ∧ w'.cell? ⟨w.heap.size, 1, none⟩ = some (.slice A0 n0 c0) ∧ w'.cell? ⟨w.heap.size, 2, none⟩ = some (.slice B0 m0 d0) ∧ w'.cell? ⟨w.heap.size + 1, 0, none⟩ = some (.bool b1) ∧ w'.cell? ⟨w.heap.size + 1, 1, none⟩ = some (.slice A1 n1 c1) ∧ w'.cell? ⟨w.heap.size + 1, 2, none⟩ = some (.slice B1 m1 d1) ∧ w'.cell? ⟨w.heap.size + 1 + 1, 0, none⟩ = some (.bool false) ∧ w'.cell? ⟨w.heap.size + 1 + 1, 1, none⟩ = some (.slice none 0 0) ∧ w'.cell? ⟨w.heap.size + 1 + 1, 2, none⟩ = some (.slice none 0 0))
      (first | with_reducible exact ⟨k0, k1, k2, h0, h1, h2, g0, g1, g2⟩ | with_reducible exact ⟨keep_alloc (k0), keep_alloc (k1), keep_alloc (k2), keep_alloc (h0), keep_alloc (h1), keep_alloc (h2), keep_alloc (g0), keep_alloc (g1), keep_alloc (g2)⟩ | with_reducible exact ⟨keep_alloc (keep_alloc (k0)), keep_alloc (keep_alloc (k1)), keep_alloc (keep_alloc (k2)), keep_alloc (keep_alloc (h0)), keep_alloc (keep_alloc (h1)), keep_alloc (keep_alloc (h2)), keep_alloc (keep_alloc (g0)), keep_alloc (keep_alloc (g1)), keep_alloc (keep_alloc (g2))⟩ | with_reducible exact ⟨(cK qq k0 kl), (cK qq k1 kl), (cK qq k2 kl), (cK qq h0 hl), (cK qq h1 hl), (cK qq h2 hl), (cK qq g0 gl), (cK qq g1 gl), (cK qq g2 gl)⟩ | with_reducible exact ⟨keep_alloc ((cK qq k0 kl)), keep_alloc ((cK qq k1 kl)), keep_alloc ((cK qq k2 kl)), keep_alloc ((cK qq h0 hl)), keep_alloc ((cK qq h1 hl)), keep_alloc ((cK qq h2 hl)), keep_alloc ((cK qq g0 gl)), keep_alloc ((cK qq g1 gl)), keep_alloc ((cK qq g2 gl))⟩ | with_reducible exact ⟨keep_alloc (keep_alloc ((cK qq k0 kl))), keep_alloc (keep_alloc ((cK qq k1 kl))), keep_alloc (keep_alloc ((cK qq k2 kl))), keep_alloc (keep_alloc ((cK qq h0 hl))), keep_alloc (keep_alloc ((cK qq h1 hl))), keep_alloc (keep_alloc ((cK qq h2 hl))), keep_alloc (keep_alloc ((cK qq g0 gl))), keep_alloc (keep_alloc ((cK qq g1 gl))), keep_alloc (keep_alloc ((cK qq g2 gl)))⟩ | with_reducible exact ⟨((cell_putR (by omega)).trans (cK qq k0 kl)), ((cell_putR (by omega)).trans (cK qq k1 kl)), ((cell_putR (by omega)).trans (cK qq k2 kl)), ((cell_putR (by omega)).trans (cK qq h0 hl)), ((cell_putR (by omega)).trans (cK qq h1 hl)), ((cell_putR (by omega)).trans (cK qq h2 hl)), ((cell_putR (by omega)).trans (cK qq g0 gl)), ((cell_putR (by omega)).trans (cK qq g1 gl)), ((cell_putR (by omega)).trans (cK qq g2 gl))⟩ | with_reducible exact ⟨keep_alloc (((cell_putR (by omega)).trans (cK qq k0 kl))), keep_alloc (((cell_putR (by omega)).trans (cK qq k1 kl))), keep_alloc (((cell_putR (by omega)).trans (cK qq k2 kl))), keep_alloc (((cell_putR (by omega)).trans (cK qq h0 hl))), keep_alloc (((cell_putR (by omega)).trans (cK qq h1 hl))), keep_alloc (((cell_putR (by omega)).trans (cK qq h2 hl))), keep_alloc (((cell_putR (by omega)).trans (cK qq g0 gl))), keep_alloc (((cell_putR (by omega)).trans (cK qq g1 gl))), keep_alloc (((cell_putR (by omega)).trans (cK qq g2 gl)))⟩ | with_reducible exact ⟨keep_alloc (keep_alloc (((cell_putR (by omega)).trans (cK qq k0 kl)))), keep_alloc (keep_alloc (((cell_putR (by omega)).trans (cK qq k1 kl)))), keep_alloc (keep_alloc (((cell_putR (by omega)).trans (cK qq k2 kl)))), keep_alloc (keep_alloc (((cell_putR (by omega)).trans (cK qq h0 hl)))), keep_alloc (keep_alloc (((cell_putR (by omega)).trans (cK qq h1 hl)))), keep_alloc (keep_alloc (((cell_putR (by omega)).trans (cK qq h2 hl)))), keep_alloc (keep_alloc (((cell_putR (by omega)).trans (cK qq g0 gl)))), keep_alloc (keep_alloc (((cell_putR (by omega)).trans (cK qq g1 gl)))), keep_alloc (keep_alloc (((cell_putR (by omega)).trans (cK qq g2 gl))))⟩ | with_reducible exact ⟨((cell_putR (by omega)).trans ((cell_putR (by omega)).trans (cK qq k0 kl))), ((cell_putR (by omega)).trans ((cell_putR (by omega)).trans (cK qq k1 kl))), ((cell_putR (by omega)).trans ((cell_putR (by omega)).trans (cK qq k2 kl))), ((cell_putR (by omega)).trans ((cell_putR (by omega)).trans (cK qq h0 hl))), ((cell_putR (by omega)).trans ((cell_putR (by omega)).trans (cK qq h1 hl))), ((cell_putR (by omega)).trans ((cell_putR (by omega)).trans (cK qq h2 hl))), ((cell_putR (by omega)).trans ((cell_putR (by omega)).trans (cK qq g0 gl))), ((cell_putR (by omega)).trans ((cell_putR (by omega)).trans (cK qq g1 gl))), ((cell_putR (by omega)).trans ((cell_putR (by omega)).trans (cK qq g2 gl)))⟩ | with_reducible exact ⟨keep_alloc (((cell_putR (by omega)).trans ((cell_putR (by omega)).trans (cK qq k0 kl)))), keep_alloc (((cell_putR (by omega)).trans ((cell_putR (by omega)).trans (cK qq k1 kl)))), keep_alloc (((cell_putR (by omega)).trans ((cell_putR (by omega)).trans (cK qq k2 kl)))), keep_alloc (((cell_putR (by omega)).trans ((cell_putR (by omega)).trans (cK qq h0 hl)))), keep_alloc (((cell_putR (by omega)).trans ((cell_putR (by omega)).trans (cK qq h1 hl)))), keep_alloc (((cell_putR (by omega)).trans ((cell_putR (by omega)).trans (cK qq h2 hl)))), keep_alloc (((cell_putR (by omega)).trans ((cell_putR (by omega)).trans (cK qq g0 gl)))), keep_alloc (((cell_putR (by omega)).trans ((cell_putR (by omega)).trans (cK qq g1 gl)))), keep_alloc (((cell_putR (by omega)).trans ((cell_putR (by omega)).trans (cK qq g2 gl))))⟩ | with_reducible exact ⟨keep_alloc (keep_alloc (((cell_putR (by omega)).trans ((cell_putR (by omega)).trans (cK qq k0 kl))))), keep_alloc (keep_alloc (((cell_putR (by omega)).trans ((cell_putR (by omega)).trans (cK qq k1 kl))))), keep_alloc (keep_alloc (((cell_putR (by omega)).trans ((cell_putR (by omega)).trans (cK qq k2 kl))))), keep_alloc (keep_alloc (((cell_putR (by omega)).trans ((cell_putR (by omega)).trans (cK qq h0 hl))))), keep_alloc (keep_alloc (((cell_putR (by omega)).trans ((cell_putR (by omega)).trans (cK qq h1 hl))))), keep_alloc (keep_alloc (((cell_putR (by omega)).trans ((cell_putR (by omega)).trans (cK qq h2 hl))))), keep_alloc (keep_alloc (((cell_putR (by omega)).trans ((cell_putR (by omega)).trans (cK qq g0 gl))))), keep_alloc (keep_alloc (((cell_putR (by omega)).trans ((cell_putR (by omega)).trans (cK qq g1 gl))))), keep_alloc (keep_alloc (((cell_putR (by omega)).trans ((cell_putR (by omega)).trans (cK qq g2 gl)))))⟩ | go_keep)
      (first
        | (go_at_call 45; (with_reducible refine (over_N (p0.on BB0) (q1.on BB0) (Nat.le_trans lp0 (by omega)) (Nat.le_trans lq1 (by omega))).mono ?_); rintro e y1 ⟨bu, Au, nu, cu, rfl, u, q⟩; have qq := BB0.trans (q.mono BB0.size); have p0' := (p0.on BB0).on q; have q0' := (q0.on BB0).on q; have p1' := (p1.on BB0).on q; have q1' := (q1.on BB0).on q; have qs1 := qq.size; clear q)
        | (go_at_call 45; (with_reducible refine (over_N (p0.on BB1) (q1.on BB1) (Nat.le_trans lp0 (by omega)) (Nat.le_trans lq1 (by omega))).mono ?_); rintro e y1 ⟨bu, Au, nu, cu, rfl, u, q⟩; have qq := BB1.trans (q.mono BB1.size); have p0' := (p0.on BB1).on q; have q0' := (q0.on BB1).on q; have p1' := (p1.on BB1).on q; have q1' := (q1.on BB1).on q; have qs1 := qq.size; have bo_0 := (q.cell (p := ⟨v1.heap.size, 0, none⟩) (by simp)).trans (show _ = some (.bool false) by simp [go_sem]); have fo_0 := (q.frozen (p := ⟨v1.heap.size, 0, none⟩) (by simp)).trans (show _ = false by simp [go_sem]); have bo_1 := (q.cell (p := ⟨v1.heap.size, 1, none⟩) (by simp)).trans (show _ = some (.slice none 0 0) by simp [go_sem]); have fo_1 := (q.frozen (p := ⟨v1.heap.size, 1, none⟩) (by simp)).trans (show _ = false by simp [go_sem]); have bo_2 := (q.cell (p := ⟨v1.heap.size, 2, none⟩) (by simp)).trans (show _ = some (.slice none 0 0) by simp [go_sem]); have fo_2 := (q.frozen (p := ⟨v1.heap.size, 2, none⟩) (by simp)).trans (show _ = false by simp [go_sem]); have ol : v1.heap.size < y1.heap.size := Nat.lt_of_lt_of_le (by simp) q.size; clear q)
        | (go_at_call 45; have up := Below.refl y1.heap.size y1; (with_reducible refine (over_N (p1'.on up) (q0'.on up) (Nat.le_trans lp1 (by omega)) (Nat.le_trans lq0 (by omega))).mono ?_); rintro e y2 ⟨bv, Av, nv, cv, rfl, v, q⟩; replace qq := (qq.trans (up.mono qq.size)).trans (q.mono (Nat.le_trans qq.size up.size)); replace p0' := (p0'.on up).on q; replace q0' := (q0'.on up).on q; replace p1' := (p1'.on up).on q; replace q1' := (q1'.on up).on q; replace u := (u.on up).on q; (try replace bo_0 := (q.cell (Nat.lt_of_lt_of_le ol up.size)).trans ((up.cell ol).trans bo_0)); (try replace fo_0 := (q.frozen (Nat.lt_of_lt_of_le ol up.size)).trans ((up.frozen ol).trans fo_0)); (try replace bo_1 := (q.cell (Nat.lt_of_lt_of_le ol up.size)).trans ((up.cell ol).trans bo_1)); (try replace fo_1 := (q.frozen (Nat.lt_of_lt_of_le ol up.size)).trans ((up.frozen ol).trans fo_1)); (try replace bo_2 := (q.cell (Nat.lt_of_lt_of_le ol up.size)).trans ((up.cell ol).trans bo_2)); (try replace fo_2 := (q.frozen (Nat.lt_of_lt_of_le ol up.size)).trans ((up.frozen ol).trans fo_2)); (try replace ol := Nat.lt_of_lt_of_le ol (Nat.le_trans up.size q.size)); have qs2 := qq.size; clear q up)
        | (go_at_call 45; have up := below_one y1 (.cells #[.bool false, .slice none 0 0, .slice none 0 0] 35); (with_reducible refine (over_N (p1'.on up) (q0'.on up) (Nat.le_trans lp1 (by omega)) (Nat.le_trans lq0 (by omega))).mono ?_); rintro e y2 ⟨bv, Av, nv, cv, rfl, v, q⟩; replace qq := (qq.trans (up.mono qq.size)).trans (q.mono (Nat.le_trans qq.size up.size)); replace p0' := (p0'.on up).on q; replace q0' := (q0'.on up).on q; replace p1' := (p1'.on up).on q; replace q1' := (q1'.on up).on q; replace u := (u.on up).on q; (try replace bo_0 := (q.cell (Nat.lt_of_lt_of_le ol up.size)).trans ((up.cell ol).trans bo_0)); (try replace fo_0 := (q.frozen (Nat.lt_of_lt_of_le ol up.size)).trans ((up.frozen ol).trans fo_0)); (try replace bo_1 := (q.cell (Nat.lt_of_lt_of_le ol up.size)).trans ((up.cell ol).trans bo_1)); (try replace fo_1 := (q.frozen (Nat.lt_of_lt_of_le ol up.size)).trans ((up.frozen ol).trans fo_1)); (try replace bo_2 := (q.cell (Nat.lt_of_lt_of_le ol up.size)).trans ((up.cell ol).trans bo_2)); (try replace fo_2 := (q.frozen (Nat.lt_of_lt_of_le ol up.size)).trans ((up.frozen ol).trans fo_2)); (try replace ol := Nat.lt_of_lt_of_le ol (Nat.le_trans up.size q.size)); have qs2 := qq.size; have bo_0 := (q.cell (p := ⟨y1.heap.size, 0, none⟩) (by simp)).trans (show _ = some (.bool false) by simp [go_sem]); have fo_0 := (q.frozen (p := ⟨y1.heap.size, 0, none⟩) (by simp)).trans (show _ = false by simp [go_sem]); have bo_1 := (q.cell (p := ⟨y1.heap.size, 1, none⟩) (by simp)).trans (show _ = some (.slice none 0 0) by simp [go_sem]); have fo_1 := (q.frozen (p := ⟨y1.heap.size, 1, none⟩) (by simp)).trans (show _ = false by simp [go_sem]); have bo_2 := (q.cell (p := ⟨y1.heap.size, 2, none⟩) (by simp)).trans (show _ = some (.slice none 0 0) by simp [go_sem]); have fo_2 := (q.frozen (p := ⟨y1.heap.size, 2, none⟩) (by simp)).trans (show _ = false by simp [go_sem]); have ol : y1.heap.size < y2.heap.size := Nat.lt_of_lt_of_le (by simp) q.size; clear q up)
        | (go_at_call 89; have up := Below.refl y2.heap.size y2; (with_reducible refine (rzadd_N (u.on up) (v.on up) (Nat.le_trans lA (by omega)) (Nat.le_trans lB (by omega))).mono ?_); rintro e y3 ⟨bs, As, ns, cs, rfl, s, q⟩; replace qq := (qq.trans (up.mono qq.size)).trans (q.mono (Nat.le_trans qq.size up.size)); replace p0' := (p0'.on up).on q; replace q0' := (q0'.on up).on q; replace p1' := (p1'.on up).on q; replace q1' := (q1'.on up).on q; replace u := (u.on up).on q; replace v := (v.on up).on q; (try replace bo_0 := (q.cell (Nat.lt_of_lt_of_le ol up.size)).trans ((up.cell ol).trans bo_0)); (try replace fo_0 := (q.frozen (Nat.lt_of_lt_of_le ol up.size)).trans ((up.frozen ol).trans fo_0)); (try replace bo_1 := (q.cell (Nat.lt_of_lt_of_le ol up.size)).trans ((up.cell ol).trans bo_1)); (try replace fo_1 := (q.frozen (Nat.lt_of_lt_of_le ol up.size)).trans ((up.frozen ol).trans fo_1)); (try replace bo_2 := (q.cell (Nat.lt_of_lt_of_le ol up.size)).trans ((up.cell ol).trans bo_2)); (try replace fo_2 := (q.frozen (Nat.lt_of_lt_of_le ol up.size)).trans ((up.frozen ol).trans fo_2)); (try replace ol := Nat.lt_of_lt_of_le ol (Nat.le_trans up.size q.size)); have qs3 := qq.size; clear q up)
        | (go_at_call 89; have up := below_one y2 (.cells #[.bool false, .slice none 0 0, .slice none 0 0] 35); (with_reducible refine (rzadd_N (u.on up) (v.on up) (Nat.le_trans lA (by omega)) (Nat.le_trans lB (by omega))).mono ?_); rintro e y3 ⟨bs, As, ns, cs, rfl, s, q⟩; replace qq := (qq.trans (up.mono qq.size)).trans (q.mono (Nat.le_trans qq.size up.size)); replace p0' := (p0'.on up).on q; replace q0' := (q0'.on up).on q; replace p1' := (p1'.on up).on q; replace q1' := (q1'.on up).on q; replace u := (u.on up).on q; replace v := (v.on up).on q; (try replace bo_0 := (q.cell (Nat.lt_of_lt_of_le ol up.size)).trans ((up.cell ol).trans bo_0)); (try replace fo_0 := (q.frozen (Nat.lt_of_lt_of_le ol up.size)).trans ((up.frozen ol).trans fo_0)); (try replace bo_1 := (q.cell (Nat.lt_of_lt_of_le ol up.size)).trans ((up.cell ol).trans bo_1)); (try replace fo_1 := (q.frozen (Nat.lt_of_lt_of_le ol up.size)).trans ((up.frozen ol).trans fo_1)); (try replace bo_2 := (q.cell (Nat.lt_of_lt_of_le ol up.size)).trans ((up.cell ol).trans bo_2)); (try replace fo_2 := (q.frozen (Nat.lt_of_lt_of_le ol up.size)).trans ((up.frozen ol).trans fo_2)); (try replace ol := Nat.lt_of_lt_of_le ol (Nat.le_trans up.size q.size)); have qs3 := qq.size; have bo_0 := (q.cell (p := ⟨y2.heap.size, 0, none⟩) (by simp)).trans (show _ = some (.bool false) by simp [go_sem]); have fo_0 := (q.frozen (p := ⟨y2.heap.size, 0, none⟩) (by simp)).trans (show _ = false by simp [go_sem]); have bo_1 := (q.cell (p := ⟨y2.heap.size, 1, none⟩) (by simp)).trans (show _ = some (.slice none 0 0) by simp [go_sem]); have fo_1 := (q.frozen (p := ⟨y2.heap.size, 1, none⟩) (by simp)).trans (show _ = false by simp [go_sem]); have bo_2 := (q.cell (p := ⟨y2.heap.size, 2, none⟩) (by simp)).trans (show _ = some (.slice none 0 0) by simp [go_sem]); have fo_2 := (q.frozen (p := ⟨y2.heap.size, 2, none⟩) (by simp)).trans (show _ = false by simp [go_sem]); have ol : y2.heap.size < y3.heap.size := Nat.lt_of_lt_of_le (by simp) q.size; clear q up)
        | (go_at_call 43; have up := Below.refl y3.heap.size y3; (with_reducible refine (rmul_N (q0'.on up) (q1'.on up) (Nat.le_trans lq0 (by omega)) (Nat.le_trans lq1 (by omega))).mono ?_); rintro e y4 ⟨At, nt, ct, rfl, t, q⟩; replace qq := (qq.trans (up.mono qq.size)).trans (q.mono (Nat.le_trans qq.size up.size)); replace p0' := (p0'.on up).on q; replace q0' := (q0'.on up).on q; replace p1' := (p1'.on up).on q; replace q1' := (q1'.on up).on q; replace u := (u.on up).on q; replace v := (v.on up).on q; replace s := (s.on up).on q; (try replace bo_0 := (q.cell (Nat.lt_of_lt_of_le ol up.size)).trans ((up.cell ol).trans bo_0)); (try replace fo_0 := (q.frozen (Nat.lt_of_lt_of_le ol up.size)).trans ((up.frozen ol).trans fo_0)); (try replace bo_1 := (q.cell (Nat.lt_of_lt_of_le ol up.size)).trans ((up.cell ol).trans bo_1)); (try replace fo_1 := (q.frozen (Nat.lt_of_lt_of_le ol up.size)).trans ((up.frozen ol).trans fo_1)); (try replace bo_2 := (q.cell (Nat.lt_of_lt_of_le ol up.size)).trans ((up.cell ol).trans bo_2)); (try replace fo_2 := (q.frozen (Nat.lt_of_lt_of_le ol up.size)).trans ((up.frozen ol).trans fo_2)); (try replace ol := Nat.lt_of_lt_of_le ol (Nat.le_trans up.size q.size)); have qs4 := qq.size; clear q up)
        | (go_at_call 43; have up := below_one y3 (.cells #[.bool false, .slice none 0 0, .slice none 0 0] 35); (with_reducible refine (rmul_N (q0'.on up) (q1'.on up) (Nat.le_trans lq0 (by omega)) (Nat.le_trans lq1 (by omega))).mono ?_); rintro e y4 ⟨At, nt, ct, rfl, t, q⟩; replace qq := (qq.trans (up.mono qq.size)).trans (q.mono (Nat.le_trans qq.size up.size)); replace p0' := (p0'.on up).on q; replace q0' := (q0'.on up).on q; replace p1' := (p1'.on up).on q; replace q1' := (q1'.on up).on q; replace u := (u.on up).on q; replace v := (v.on up).on q; replace s := (s.on up).on q; (try replace bo_0 := (q.cell (Nat.lt_of_lt_of_le ol up.size)).trans ((up.cell ol).trans bo_0)); (try replace fo_0 := (q.frozen (Nat.lt_of_lt_of_le ol up.size)).trans ((up.frozen ol).trans fo_0)); (try replace bo_1 := (q.cell (Nat.lt_of_lt_of_le ol up.size)).trans ((up.cell ol).trans bo_1)); (try replace fo_1 := (q.frozen (Nat.lt_of_lt_of_le ol up.size)).trans ((up.frozen ol).trans fo_1)); (try replace bo_2 := (q.cell (Nat.lt_of_lt_of_le ol up.size)).trans ((up.cell ol).trans bo_2)); (try replace fo_2 := (q.frozen (Nat.lt_of_lt_of_le ol up.size)).trans ((up.frozen ol).trans fo_2)); (try replace ol := Nat.lt_of_lt_of_le ol (Nat.le_trans up.size q.size)); have qs4 := qq.size; have bo_0 := (q.cell (p := ⟨y3.heap.size, 0, none⟩) (by simp)).trans (show _ = some (.bool false) by simp [go_sem]); have fo_0 := (q.frozen (p := ⟨y3.heap.size, 0, none⟩) (by simp)).trans (show _ = false by simp [go_sem]); have bo_1 := (q.cell (p := ⟨y3.heap.size, 1, none⟩) (by simp)).trans (show _ = some (.slice none 0 0) by simp [go_sem]); have fo_1 := (q.frozen (p := ⟨y3.heap.size, 1, none⟩) (by simp)).trans (show _ = false by simp [go_sem]); have bo_2 := (q.cell (p := ⟨y3.heap.size, 2, none⟩) (by simp)).trans (show _ = some (.slice none 0 0) by simp [go_sem]); have fo_2 := (q.frozen (p := ⟨y3.heap.size, 2, none⟩) (by simp)).trans (show _ = false by simp [go_sem]); have ol : y3.heap.size < y4.heap.size := Nat.lt_of_lt_of_le (by simp) q.size; clear q up)
        | (go_at_call 39; have up := Below.refl y4.heap.size y4; (with_reducible refine (rtmake_N (s.on up) (t.on up) hq lC lD).mono ?_); rintro e y5 ⟨bo, Ao, no, co, Bo, mo, do_, rfl, o, q⟩; replace qq := (qq.trans (up.mono qq.size)).trans (q.mono (Nat.le_trans qq.size up.size)); replace p0' := (p0'.on up).on q; replace q0' := (q0'.on up).on q; replace p1' := (p1'.on up).on q; replace q1' := (q1'.on up).on q; replace u := (u.on up).on q; replace v := (v.on up).on q; replace s := (s.on up).on q; replace t := (t.on up).on q; (try replace bo_0 := (q.cell (Nat.lt_of_lt_of_le ol up.size)).trans ((up.cell ol).trans bo_0)); (try replace fo_0 := (q.frozen (Nat.lt_of_lt_of_le ol up.size)).trans ((up.frozen ol).trans fo_0)); (try replace bo_1 := (q.cell (Nat.lt_of_lt_of_le ol up.size)).trans ((up.cell ol).trans bo_1)); (try replace fo_1 := (q.frozen (Nat.lt_of_lt_of_le ol up.size)).trans ((up.frozen ol).trans fo_1)); (try replace bo_2 := (q.cell (Nat.lt_of_lt_of_le ol up.size)).trans ((up.cell ol).trans bo_2)); (try replace fo_2 := (q.frozen (Nat.lt_of_lt_of_le ol up.size)).trans ((up.frozen ol).trans fo_2)); (try replace ol := Nat.lt_of_lt_of_le ol (Nat.le_trans up.size q.size)); have qs5 := qq.size; clear q up)
        | (go_at_call 39; have up := below_one y4 (.cells #[.bool false, .slice none 0 0, .slice none 0 0] 35); (with_reducible refine (rtmake_N (s.on up) (t.on up) hq lC lD).mono ?_); rintro e y5 ⟨bo, Ao, no, co, Bo, mo, do_, rfl, o, q⟩; replace qq := (qq.trans (up.mono qq.size)).trans (q.mono (Nat.le_trans qq.size up.size)); replace p0' := (p0'.on up).on q; replace q0' := (q0'.on up).on q; replace p1' := (p1'.on up).on q; replace q1' := (q1'.on up).on q; replace u := (u.on up).on q; replace v := (v.on up).on q; replace s := (s.on up).on q; replace t := (t.on up).on q; (try replace bo_0 := (q.cell (Nat.lt_of_lt_of_le ol up.size)).trans ((up.cell ol).trans bo_0)); (try replace fo_0 := (q.frozen (Nat.lt_of_lt_of_le ol up.size)).trans ((up.frozen ol).trans fo_0)); (try replace bo_1 := (q.cell (Nat.lt_of_lt_of_le ol up.size)).trans ((up.cell ol).trans bo_1)); (try replace fo_1 := (q.frozen (Nat.lt_of_lt_of_le ol up.size)).trans ((up.frozen ol).trans fo_1)); (try replace bo_2 := (q.cell (Nat.lt_of_lt_of_le ol up.size)).trans ((up.cell ol).trans bo_2)); (try replace fo_2 := (q.frozen (Nat.lt_of_lt_of_le ol up.size)).trans ((up.frozen ol).trans fo_2)); (try replace ol := Nat.lt_of_lt_of_le ol (Nat.le_trans up.size q.size)); have qs5 := qq.size; have bo_0 := (q.cell (p := ⟨y4.heap.size, 0, none⟩) (by simp)).trans (show _ = some (.bool false) by simp [go_sem]); have fo_0 := (q.frozen (p := ⟨y4.heap.size, 0, none⟩) (by simp)).trans (show _ = false by simp [go_sem]); have bo_1 := (q.cell (p := ⟨y4.heap.size, 1, none⟩) (by simp)).trans (show _ = some (.slice none 0 0) by simp [go_sem]); have fo_1 := (q.frozen (p := ⟨y4.heap.size, 1, none⟩) (by simp)).trans (show _ = false by simp [go_sem]); have bo_2 := (q.cell (p := ⟨y4.heap.size, 2, none⟩) (by simp)).trans (show _ = some (.slice none 0 0) by simp [go_sem]); have fo_2 := (q.frozen (p := ⟨y4.heap.size, 2, none⟩) (by simp)).trans (show _ = false by simp [go_sem]); have ol : y4.heap.size < y5.heap.size := Nat.lt_of_lt_of_le (by simp) q.size; clear q up))
    all_goals (go_wp2_with fail; go_meet)
    all_goals refine ⟨_, bo, Ao, no, co, Bo, mo, do_, rfl, ?_⟩
    all_goals first
      | with_reducible exact loneA o qq _
      | with_reducible exact loneB bo_0 bo_1 bo_2 o qq (by omega)
  case rest =>
    obtain ⟨gz, bz, Az, nz, cz, Bz, mz, dz, rfl, ⟨z0, z1, z2⟩, ⟨pz, qz⟩, b⟩ := hcut
    have zl := cell_lt z0
    simp only at zl
    replace f0 := fK b f0 gl
    replace f1 := fK b f1 gl
    replace f2 := fK b f2 gl
    replace p0 := p0.on b
    replace q0 := q0.on b
    replace p1 := p1.on b
    replace q1 := q1.on b
    replace k0 := cK b k0 kl
    replace k1 := cK b k1 kl
    replace k2 := cK b k2 kl
    replace kl := lK b kl
    replace h0 := cK b h0 hl
    replace h1 := cK b h1 hl
    replace h2 := cK b h2 hl
    replace hl := lK b hl
    replace g0 := cK b g0 gl
    replace g1 := cK b g1 gl
    replace g2 := cK b g2 gl
    replace gl := lK b gl
    replace cc := bK cc b
    clear b
    have eb : BoxR wc (w.heap.size + 1 + 1) false none 0 0 none 0 0 := ⟨g0, g1, g2⟩
    have HZ : Hid (Rt (putR wc (w.heap.size + 1 + 1) (.bool bz) (.slice Az nz cz) (.slice Bz mz dz)) bz Az nz cz Bz mz dz (x0 + x1)) := Lib.hid (by rw [HE.out]; exact Rt.putR ⟨pz, qz⟩ eb _ _ _)
    go_wp2_with fail
    refine bodyPost_ret (v := .agg #[.bool bz, .slice Az nz cz, .slice Bz mz dz]) (by simp [results, Try.results66, go_sem, g0, g1, g2]) rfl ⟨_, _, _, _, _, _, _, rfl, HZ.out, below_putR cc (by omega) _ _ _⟩

set_option maxRecDepth 100000 in
set_option maxHeartbeats 8000000 in
theorem rtmul_N {w : World} {b0 b1 : Bool} {A0 B0 A1 B1 : Option Addr} {n0 c0 m0 d0 n1 c1 m1 d1 : Nat} {x0 x1 : Rat} (h0 : Rt w b0 A0 n0 c0 B0 m0 d0 x0) (s0 : Sz x0 40) (h1 : Rt w b1 A1 n1 c1 B1 m1 d1 x1) (s1 : Sz x1 40) :
    Calls Try.prog 18 #[.agg #[.bool b0, .slice A0 n0 c0, .slice B0 m0 d0], .agg #[.bool b1, .slice A1 n1 c1, .slice B1 m1 d1]] w (GotRt w (x0 * x1)) := by
  have p0 := h0.1
  have q0 := h0.2
  have lp0 := s0.1
  have lq0 := s0.2
  have p1 := h1.1
  have q1 := h1.2
  have lp1 := s1.1
  have lq1 := s1.2
  clear h0
  clear h1
  have hq := den_mul_ne x0 x1
  have lD : (limbs (x0.den * x1.den)).length ≤ 100 := Nat.le_trans (limbs_length_mul lq0 lq1) (by omega)
  have lC : (limbs (x0.num * x1.num).natAbs).length ≤ 100 := Nat.le_trans (zlen_mul lp0 lp1) (by omega)
  have HE : Hid (x0 * x1 = mkRat (x0.num * x1.num) (x0.den * x1.den)) := Lib.hid (Rat.mul_def' x0 x1)
  have cc := Below.refl w.heap.size w
  go_enter Try.func18, Try.ntmps18
  go_wp2_with fail
  have f0 : (((w.alloc (.cells #[.bool b0, .slice A0 n0 c0, .slice B0 m0 d0] 35)).alloc (.cells #[.bool b1, .slice A1 n1 c1, .slice B1 m1 d1] 35)).alloc (.cells #[.bool false, .slice none 0 0, .slice none 0 0] 35)).frozen? ⟨w.heap.size + 1 + 1, 0, none⟩ = false := by simp [go_sem]
  have f1 : (((w.alloc (.cells #[.bool b0, .slice A0 n0 c0, .slice B0 m0 d0] 35)).alloc (.cells #[.bool b1, .slice A1 n1 c1, .slice B1 m1 d1] 35)).alloc (.cells #[.bool false, .slice none 0 0, .slice none 0 0] 35)).frozen? ⟨w.heap.size + 1 + 1, 1, none⟩ = false := by simp [go_sem]
  have f2 : (((w.alloc (.cells #[.bool b0, .slice A0 n0 c0, .slice B0 m0 d0] 35)).alloc (.cells #[.bool b1, .slice A1 n1 c1, .slice B1 m1 d1] 35)).alloc (.cells #[.bool false, .slice none 0 0, .slice none 0 0] 35)).frozen? ⟨w.heap.size + 1 + 1, 2, none⟩ = false := by simp [go_sem]
  have bA : Below w.heap.size w (((w.alloc (.cells #[.bool b0, .slice A0 n0 c0, .slice B0 m0 d0] 35)).alloc (.cells #[.bool b1, .slice A1 n1 c1, .slice B1 m1 d1] 35)).alloc (.cells #[.bool false, .slice none 0 0, .slice none 0 0] 35)) := ((((Below.refl _ w).alloc (by simp) _).alloc (by simp) _).alloc (by simp <;> omega) _)
  replace p0 := p0.on bA
  replace q0 := q0.on bA
  replace p1 := p1.on bA
  replace q1 := q1.on bA
  replace cc := bK cc bA
  clear bA
  have k0 : (((w.alloc (.cells #[.bool b0, .slice A0 n0 c0, .slice B0 m0 d0] 35)).alloc (.cells #[.bool b1, .slice A1 n1 c1, .slice B1 m1 d1] 35)).alloc (.cells #[.bool false, .slice none 0 0, .slice none 0 0] 35)).cell? ⟨w.heap.size, 0, none⟩ = some (.bool b0) := by simp [go_sem]
  have k1 : (((w.alloc (.cells #[.bool b0, .slice A0 n0 c0, .slice B0 m0 d0] 35)).alloc (.cells #[.bool b1, .slice A1 n1 c1, .slice B1 m1 d1] 35)).alloc (.cells #[.bool false, .slice none 0 0, .slice none 0 0] 35)).cell? ⟨w.heap.size, 1, none⟩ = some (.slice A0 n0 c0) := by simp [go_sem]
  have k2 : (((w.alloc (.cells #[.bool b0, .slice A0 n0 c0, .slice B0 m0 d0] 35)).alloc (.cells #[.bool b1, .slice A1 n1 c1, .slice B1 m1 d1] 35)).alloc (.cells #[.bool false, .slice none 0 0, .slice none 0 0] 35)).cell? ⟨w.heap.size, 2, none⟩ = some (.slice B0 m0 d0) := by simp [go_sem]
  have kl : w.heap.size < (((w.alloc (.cells #[.bool b0, .slice A0 n0 c0, .slice B0 m0 d0] 35)).alloc (.cells #[.bool b1, .slice A1 n1 c1, .slice B1 m1 d1] 35)).alloc (.cells #[.bool false, .slice none 0 0, .slice none 0 0] 35)).heap.size := by simp <;> omega
  have h0 : (((w.alloc (.cells #[.bool b0, .slice A0 n0 c0, .slice B0 m0 d0] 35)).alloc (.cells #[.bool b1, .slice A1 n1 c1, .slice B1 m1 d1] 35)).alloc (.cells #[.bool false, .slice none 0 0, .slice none 0 0] 35)).cell? ⟨w.heap.size + 1, 0, none⟩ = some (.bool b1) := by simp [go_sem]
  have h1 : (((w.alloc (.cells #[.bool b0, .slice A0 n0 c0, .slice B0 m0 d0] 35)).alloc (.cells #[.bool b1, .slice A1 n1 c1, .slice B1 m1 d1] 35)).alloc (.cells #[.bool false, .slice none 0 0, .slice none 0 0] 35)).cell? ⟨w.heap.size + 1, 1, none⟩ = some (.slice A1 n1 c1) := by simp [go_sem]
  have h2 : (((w.alloc (.cells #[.bool b0, .slice A0 n0 c0, .slice B0 m0 d0] 35)).alloc (.cells #[.bool b1, .slice A1 n1 c1, .slice B1 m1 d1] 35)).alloc (.cells #[.bool false, .slice none 0 0, .slice none 0 0] 35)).cell? ⟨w.heap.size + 1, 2, none⟩ = some (.slice B1 m1 d1) := by simp [go_sem]
  have hl : w.heap.size + 1 < (((w.alloc (.cells #[.bool b0, .slice A0 n0 c0, .slice B0 m0 d0] 35)).alloc (.cells #[.bool b1, .slice A1 n1 c1, .slice B1 m1 d1] 35)).alloc (.cells #[.bool false, .slice none 0 0, .slice none 0 0] 35)).heap.size := by simp <;> omega
  have g0 : (((w.alloc (.cells #[.bool b0, .slice A0 n0 c0, .slice B0 m0 d0] 35)).alloc (.cells #[.bool b1, .slice A1 n1 c1, .slice B1 m1 d1] 35)).alloc (.cells #[.bool false, .slice none 0 0, .slice none 0 0] 35)).cell? ⟨w.heap.size + 1 + 1, 0, none⟩ = some (.bool false) := by simp [go_sem]
  have g1 : (((w.alloc (.cells #[.bool b0, .slice A0 n0 c0, .slice B0 m0 d0] 35)).alloc (.cells #[.bool b1, .slice A1 n1 c1, .slice B1 m1 d1] 35)).alloc (.cells #[.bool false, .slice none 0 0, .slice none 0 0] 35)).cell? ⟨w.heap.size + 1 + 1, 1, none⟩ = some (.slice none 0 0) := by simp [go_sem]
  have g2 : (((w.alloc (.cells #[.bool b0, .slice A0 n0 c0, .slice B0 m0 d0] 35)).alloc (.cells #[.bool b1, .slice A1 n1 c1, .slice B1 m1 d1] 35)).alloc (.cells #[.bool false, .slice none 0 0, .slice none 0 0] 35)).cell? ⟨w.heap.size + 1 + 1, 2, none⟩ = some (.slice none 0 0) := by simp [go_sem]
  have gl : w.heap.size + 1 + 1 < (((w.alloc (.cells #[.bool b0, .slice A0 n0 c0, .slice B0 m0 d0] 35)).alloc (.cells #[.bool b1, .slice A1 n1 c1, .slice B1 m1 d1] 35)).alloc (.cells #[.bool false, .slice none 0 0, .slice none 0 0] 35)).heap.size := by simp <;> omega
  generalize ((w.alloc (.cells #[.bool b0, .slice A0 n0 c0, .slice B0 m0 d0] 35)).alloc (.cells #[.bool b1, .slice A1 n1 c1, .slice B1 m1 d1] 35)).alloc (.cells #[.bool false, .slice none 0 0, .slice none 0 0] 35) = v1 at *
  go_upto_region 1 with fail
  go_cut [5] (fun u wx => ∃ (g : Nat) (b : Bool) (A : Option Addr) (n c : Nat) (B : Option Addr) (m d : Nat), u = .pointer (some ⟨g, 0, none⟩) ∧ Lone v1 wx g b A n c B m d (mkRat (x0.num * x1.num) (x0.den * x1.den)))
  case first =>
    have BB0 : Below v1.heap.size v1 v1.drew := below_drewN (Below.refl _ v1) 1
    have BB1 : Below v1.heap.size v1 (v1.alloc (.cells #[.bool false, .slice none 0 0, .slice none 0 0] 35)).drew := below_drewN (below_one _ _) 1
    go_region_held3 (fun w' => w'.cell? ⟨w.heap.size, 0, none⟩ = some (.bool b0) ∧ w'.cell? ⟨w.heap.size, 1, none⟩ = some (.slice A0 n0 c0) ∧ w'.cell? ⟨w.heap.size, 2, none⟩ = some (.slice B0 m0 d0) ∧ w'.cell? ⟨w.heap.size + 1, 0, none⟩ = some (.bool b1) ∧ w'.cell? ⟨w.heap.size + 1, 1, none⟩ = some (.slice A1 n1 c1) ∧ w'.cell? ⟨w.heap.size + 1, 2, none⟩ = some (.slice B1 m1 d1) ∧ w'.cell? ⟨w.heap.size + 1 + 1, 0, none⟩ = some (.bool false) ∧ w'.cell? ⟨w.heap.size + 1 + 1, 1, none⟩ = some (.slice none 0 0) ∧ w'.cell? ⟨w.heap.size + 1 + 1, 2, none⟩ = some (.slice none 0 0))
      (first | with_reducible exact ⟨k0, k1, k2, h0, h1, h2, g0, g1, g2⟩ | with_reducible exact ⟨keep_alloc (k0), keep_alloc (k1), keep_alloc (k2), keep_alloc (h0), keep_alloc (h1), keep_alloc (h2), keep_alloc (g0), keep_alloc (g1), keep_alloc (g2)⟩ | with_reducible exact ⟨keep_alloc (keep_alloc (k0)), keep_alloc (keep_alloc (k1)), keep_alloc (keep_alloc (k2)), keep_alloc (keep_alloc (h0)), keep_alloc (keep_alloc (h1)), keep_alloc (keep_alloc (h2)), keep_alloc (keep_alloc (g0)), keep_alloc (keep_alloc (g1)), keep_alloc (keep_alloc (g2))⟩ | with_reducible exact ⟨(cK qq k0 kl), (cK qq k1 kl), (cK qq k2 kl), (cK qq h0 hl), (cK qq h1 hl), (cK qq h2 hl), (cK qq g0 gl), (cK qq g1 gl), (cK qq g2 gl)⟩ | with_reducible exact ⟨keep_alloc ((cK qq k0 kl)), keep_alloc ((cK qq k1 kl)), keep_alloc ((cK qq k2 kl)), keep_alloc ((cK qq h0 hl)), keep_alloc ((cK qq h1 hl)), keep_alloc ((cK qq h2 hl)), keep_alloc ((cK qq g0 gl)), keep_alloc ((cK qq g1 gl)), keep_alloc ((cK qq g2 gl))⟩ | with_reducible exact ⟨keep_alloc (keep_alloc ((cK qq k0 kl))), keep_alloc (keep_alloc ((cK qq k1 kl))), keep_alloc (keep_alloc ((cK qq k2 kl))), keep_alloc (keep_alloc ((cK qq h0 hl))), keep_alloc (keep_alloc ((cK qq h1 hl))), keep_alloc (keep_alloc ((cK qq h2 hl))), keep_alloc (keep_alloc ((cK qq g0 gl))), keep_alloc (keep_alloc ((cK qq g1 gl))), keep_alloc (keep_alloc ((cK qq g2 gl)))⟩ | with_reducible exact ⟨((cell_putR (by omega)).trans (cK qq k0 kl)), ((cell_putR (by omega)).trans (cK qq k1 kl)), ((cell_putR (by omega)).trans (cK qq k2 kl)), ((cell_putR (by omega)).trans (cK qq h0 hl)), ((cell_putR (by omega)).trans (cK qq h1 hl)), ((cell_putR (by omega)).trans (cK qq h2 hl)), ((cell_putR (by omega)).trans (cK qq g0 gl)), ((cell_putR (by omega)).trans (cK qq g1 gl)), ((cell_putR (by omega)).trans (cK qq g2 gl))⟩ | with_reducible exact ⟨keep_alloc (((cell_putR (by omega)).trans (cK qq k0 kl))), keep_alloc (((cell_putR (by omega)).trans (cK qq k1 kl))), keep_alloc (((cell_putR (by omega)).trans (cK qq k2 kl))), keep_alloc (((cell_putR (by omega)).trans (cK qq h0 hl))), keep_alloc (((cell_putR (by omega)).trans (cK qq h1 hl))), keep_alloc (((cell_putR (by omega)).trans (cK qq h2 hl))), keep_alloc (((cell_putR (by omega)).trans (cK qq g0 gl))), keep_alloc (((cell_putR (by omega)).trans (cK qq g1 gl))), keep_alloc (((cell_putR (by omega)).trans (cK qq g2 gl)))⟩ | with_reducible exact ⟨keep_alloc (keep_alloc (((cell_putR (by omega)).trans (cK qq k0 kl)))), keep_alloc (keep_alloc (((cell_putR (by omega)).trans (cK qq k1 kl)))), keep_alloc (keep_alloc (((cell_putR (by omega)).trans (cK qq k2 kl)))), keep_alloc (keep_alloc (((cell_putR (by omega)).trans (cK qq h0 hl)))), keep_alloc (keep_alloc (((cell_putR (by omega)).trans (cK qq h1 hl)))), keep_alloc (keep_alloc (((cell_putR (by omega)).trans (cK qq h2 hl)))), keep_alloc (keep_alloc (((cell_putR (by omega)).trans (cK qq g0 gl)))), keep_alloc (keep_alloc (((cell_putR (by omega)).trans (cK qq g1 gl)))), keep_alloc (keep_alloc (((cell_putR (by omega)).trans (cK qq g2 gl))))⟩ | with_reducible exact ⟨((cell_putR (by omega)).trans ((cell_putR (by omega)).trans (cK qq k0 kl))), ((cell_putR (by omega)).trans ((cell_putR (by omega)).trans (cK qq k1 kl))), ((cell_putR (by omega)).trans ((cell_putR (by omega)).trans (cK qq k2 kl))), ((cell_putR (by omega)).trans ((cell_putR (by omega)).trans (cK qq h0 hl))), ((cell_putR (by omega)).trans ((cell_putR (by omega)).trans (cK qq h1 hl))), ((cell_putR (by omega)).trans ((cell_putR (by omega)).trans (cK qq h2 hl))), ((cell_putR (by omega)).trans ((cell_putR (by omega)).trans (cK qq g0 gl))), ((cell_putR (by omega)).trans ((cell_putR (by omega)).trans (cK qq g1 gl))), ((cell_putR (by omega)).trans ((cell_putR (by omega)).trans (cK qq g2 gl)))⟩ | with_reducible exact ⟨keep_alloc (((cell_putR (by omega)).trans ((cell_putR (by omega)).trans (cK qq k0 kl)))), keep_alloc (((cell_putR (by omega)).trans ((cell_putR (by omega)).trans (cK qq k1 kl)))), keep_alloc (((cell_putR (by omega)).trans ((cell_putR (by omega)).trans (cK qq k2 kl)))), keep_alloc (((cell_putR (by omega)).trans ((cell_putR (by omega)).trans (cK qq h0 hl)))), keep_alloc (((cell_putR (by omega)).trans ((cell_putR (by omega)).trans (cK qq h1 hl)))), keep_alloc (((cell_putR (by omega)).trans ((cell_putR (by omega)).trans (cK qq h2 hl)))), keep_alloc (((cell_putR (by omega)).trans ((cell_putR (by omega)).trans (cK qq g0 gl)))), keep_alloc (((cell_putR (by omega)).trans ((cell_putR (by omega)).trans (cK qq g1 gl)))), keep_alloc (((cell_putR (by omega)).trans ((cell_putR (by omega)).trans (cK qq g2 gl))))⟩ | with_reducible exact ⟨keep_alloc (keep_alloc (((cell_putR (by omega)).trans ((cell_putR (by omega)).trans (cK qq k0 kl))))), keep_alloc (keep_alloc (((cell_putR (by omega)).trans ((cell_putR (by omega)).trans (cK qq k1 kl))))), keep_alloc (keep_alloc (((cell_putR (by omega)).trans ((cell_putR (by omega)).trans (cK qq k2 kl))))), keep_alloc (keep_alloc (((cell_putR (by omega)).trans ((cell_putR (by omega)).trans (cK qq h0 hl))))), keep_alloc (keep_alloc (((cell_putR (by omega)).trans ((cell_putR (by omega)).trans (cK qq h1 hl))))), keep_alloc (keep_alloc (((cell_putR (by omega)).trans ((cell_putR (by omega)).trans (cK qq h2 hl))))), keep_alloc (keep_alloc (((cell_putR (by omega)).trans ((cell_putR (by omega)).trans (cK qq g0 gl))))), keep_alloc (keep_alloc (((cell_putR (by omega)).trans ((cell_putR (by omega)).trans (cK qq g1 gl))))), keep_alloc (keep_alloc (((cell_putR (by omega)).trans ((cell_putR (by omega)).trans (cK qq g2 gl)))))⟩ | go_keep)
      (first
        | (go_at_call 42; (with_reducible refine (rzmul_N (p0.on BB0) (p1.on BB0) (Nat.le_trans lp0 (by omega)) (Nat.le_trans lp1 (by omega))).mono ?_); rintro e y1 ⟨bs, As, ns, cs, rfl, s, q⟩; have qq := BB0.trans (q.mono BB0.size); have p0' := (p0.on BB0).on q; have q0' := (q0.on BB0).on q; have p1' := (p1.on BB0).on q; have q1' := (q1.on BB0).on q; have qs1 := qq.size; clear q)
        | (go_at_call 42; (with_reducible refine (rzmul_N (p0.on BB1) (p1.on BB1) (Nat.le_trans lp0 (by omega)) (Nat.le_trans lp1 (by omega))).mono ?_); rintro e y1 ⟨bs, As, ns, cs, rfl, s, q⟩; have qq := BB1.trans (q.mono BB1.size); have p0' := (p0.on BB1).on q; have q0' := (q0.on BB1).on q; have p1' := (p1.on BB1).on q; have q1' := (q1.on BB1).on q; have qs1 := qq.size; have bo_0 := (q.cell (p := ⟨v1.heap.size, 0, none⟩) (by simp)).trans (show _ = some (.bool false) by simp [go_sem]); have fo_0 := (q.frozen (p := ⟨v1.heap.size, 0, none⟩) (by simp)).trans (show _ = false by simp [go_sem]); have bo_1 := (q.cell (p := ⟨v1.heap.size, 1, none⟩) (by simp)).trans (show _ = some (.slice none 0 0) by simp [go_sem]); have fo_1 := (q.frozen (p := ⟨v1.heap.size, 1, none⟩) (by simp)).trans (show _ = false by simp [go_sem]); have bo_2 := (q.cell (p := ⟨v1.heap.size, 2, none⟩) (by simp)).trans (show _ = some (.slice none 0 0) by simp [go_sem]); have fo_2 := (q.frozen (p := ⟨v1.heap.size, 2, none⟩) (by simp)).trans (show _ = false by simp [go_sem]); have ol : v1.heap.size < y1.heap.size := Nat.lt_of_lt_of_le (by simp) q.size; clear q)
        | (go_at_call 43; have up := Below.refl y1.heap.size y1; (with_reducible refine (rmul_N (q0'.on up) (q1'.on up) (Nat.le_trans lq0 (by omega)) (Nat.le_trans lq1 (by omega))).mono ?_); rintro e y2 ⟨At, nt, ct, rfl, t, q⟩; replace qq := (qq.trans (up.mono qq.size)).trans (q.mono (Nat.le_trans qq.size up.size)); replace p0' := (p0'.on up).on q; replace q0' := (q0'.on up).on q; replace p1' := (p1'.on up).on q; replace q1' := (q1'.on up).on q; replace s := (s.on up).on q; (try replace bo_0 := (q.cell (Nat.lt_of_lt_of_le ol up.size)).trans ((up.cell ol).trans bo_0)); (try replace fo_0 := (q.frozen (Nat.lt_of_lt_of_le ol up.size)).trans ((up.frozen ol).trans fo_0)); (try replace bo_1 := (q.cell (Nat.lt_of_lt_of_le ol up.size)).trans ((up.cell ol).trans bo_1)); (try replace fo_1 := (q.frozen (Nat.lt_of_lt_of_le ol up.size)).trans ((up.frozen ol).trans fo_1)); (try replace bo_2 := (q.cell (Nat.lt_of_lt_of_le ol up.size)).trans ((up.cell ol).trans bo_2)); (try replace fo_2 := (q.frozen (Nat.lt_of_lt_of_le ol up.size)).trans ((up.frozen ol).trans fo_2)); (try replace ol := Nat.lt_of_lt_of_le ol (Nat.le_trans up.size q.size)); have qs2 := qq.size; clear q up)
        | (go_at_call 43; have up := below_one y1 (.cells #[.bool false, .slice none 0 0, .slice none 0 0] 35); (with_reducible refine (rmul_N (q0'.on up) (q1'.on up) (Nat.le_trans lq0 (by omega)) (Nat.le_trans lq1 (by omega))).mono ?_); rintro e y2 ⟨At, nt, ct, rfl, t, q⟩; replace qq := (qq.trans (up.mono qq.size)).trans (q.mono (Nat.le_trans qq.size up.size)); replace p0' := (p0'.on up).on q; replace q0' := (q0'.on up).on q; replace p1' := (p1'.on up).on q; replace q1' := (q1'.on up).on q; replace s := (s.on up).on q; (try replace bo_0 := (q.cell (Nat.lt_of_lt_of_le ol up.size)).trans ((up.cell ol).trans bo_0)); (try replace fo_0 := (q.frozen (Nat.lt_of_lt_of_le ol up.size)).trans ((up.frozen ol).trans fo_0)); (try replace bo_1 := (q.cell (Nat.lt_of_lt_of_le ol up.size)).trans ((up.cell ol).trans bo_1)); (try replace fo_1 := (q.frozen (Nat.lt_of_lt_of_le ol up.size)).trans ((up.frozen ol).trans fo_1)); (try replace bo_2 := (q.cell (Nat.lt_of_lt_of_le ol up.size)).trans ((up.cell ol).trans bo_2)); (try replace fo_2 := (q.frozen (Nat.lt_of_lt_of_le ol up.size)).trans ((up.frozen ol).trans fo_2)); (try replace ol := Nat.lt_of_lt_of_le ol (Nat.le_trans up.size q.size)); have qs2 := qq.size; have bo_0 := (q.cell (p := ⟨y1.heap.size, 0, none⟩) (by simp)).trans (show _ = some (.bool false) by simp [go_sem]); have fo_0 := (q.frozen (p := ⟨y1.heap.size, 0, none⟩) (by simp)).trans (show _ = false by simp [go_sem]); have bo_1 := (q.cell (p := ⟨y1.heap.size, 1, none⟩) (by simp)).trans (show _ = some (.slice none 0 0) by simp [go_sem]); have fo_1 := (q.frozen (p := ⟨y1.heap.size, 1, none⟩) (by simp)).trans (show _ = false by simp [go_sem]); have bo_2 := (q.cell (p := ⟨y1.heap.size, 2, none⟩) (by simp)).trans (show _ = some (.slice none 0 0) by simp [go_sem]); have fo_2 := (q.frozen (p := ⟨y1.heap.size, 2, none⟩) (by simp)).trans (show _ = false by simp [go_sem]); have ol : y1.heap.size < y2.heap.size := Nat.lt_of_lt_of_le (by simp) q.size; clear q up)
        | (go_at_call 39; have up := Below.refl y2.heap.size y2; (with_reducible refine (rtmake_N (s.on up) (t.on up) hq lC lD).mono ?_); rintro e y3 ⟨bo, Ao, no, co, Bo, mo, do_, rfl, o, q⟩; replace qq := (qq.trans (up.mono qq.size)).trans (q.mono (Nat.le_trans qq.size up.size)); replace p0' := (p0'.on up).on q; replace q0' := (q0'.on up).on q; replace p1' := (p1'.on up).on q; replace q1' := (q1'.on up).on q; replace s := (s.on up).on q; replace t := (t.on up).on q; (try replace bo_0 := (q.cell (Nat.lt_of_lt_of_le ol up.size)).trans ((up.cell ol).trans bo_0)); (try replace fo_0 := (q.frozen (Nat.lt_of_lt_of_le ol up.size)).trans ((up.frozen ol).trans fo_0)); (try replace bo_1 := (q.cell (Nat.lt_of_lt_of_le ol up.size)).trans ((up.cell ol).trans bo_1)); (try replace fo_1 := (q.frozen (Nat.lt_of_lt_of_le ol up.size)).trans ((up.frozen ol).trans fo_1)); (try replace bo_2 := (q.cell (Nat.lt_of_lt_of_le ol up.size)).trans ((up.cell ol).trans bo_2)); (try replace fo_2 := (q.frozen (Nat.lt_of_lt_of_le ol up.size)).trans ((up.frozen ol).trans fo_2)); (try replace ol := Nat.lt_of_lt_of_le ol (Nat.le_trans up.size q.size)); have qs3 := qq.size; clear q up)
        | (go_at_call 39; have up := below_one y2 (.cells #[.bool false, .slice none 0 0, .slice none 0 0] 35); (with_reducible refine (rtmake_N (s.on up) (t.on up) hq lC lD).mono ?_); rintro e y3 ⟨bo, Ao, no, co, Bo, mo, do_, rfl, o, q⟩; replace qq := (qq.trans (up.mono qq.size)).trans (q.mono (Nat.le_trans qq.size up.size)); replace p0' := (p0'.on up).on q; replace q0' := (q0'.on up).on q; replace p1' := (p1'.on up).on q; replace q1' := (q1'.on up).on q; replace s := (s.on up).on q; replace t := (t.on up).on q; (try replace bo_0 := (q.cell (Nat.lt_of_lt_of_le ol up.size)).trans ((up.cell ol).trans bo_0)); (try replace fo_0 := (q.frozen (Nat.lt_of_lt_of_le ol up.size)).trans ((up.frozen ol).trans fo_0)); (try replace bo_1 := (q.cell (Nat.lt_of_lt_of_le ol up.size)).trans ((up.cell ol).trans bo_1)); (try replace fo_1 := (q.frozen (Nat.lt_of_lt_of_le ol up.size)).trans ((up.frozen ol).trans fo_1)); (try replace bo_2 := (q.cell (Nat.lt_of_lt_of_le ol up.size)).trans ((up.cell ol).trans bo_2)); (try replace fo_2 := (q.frozen (Nat.lt_of_lt_of_le ol up.size)).trans ((up.frozen ol).trans fo_2)); (try replace ol := Nat.lt_of_lt_of_le ol (Nat.le_trans up.size q.size)); have qs3 := qq.size; have bo_0 := (q.cell (p := ⟨y2.heap.size, 0, none⟩) (by simp)).trans (show _ = some (.bool false) by simp [go_sem]); have fo_0 := (q.frozen (p := ⟨y2.heap.size, 0, none⟩) (by simp)).trans (show _ = false by simp [go_sem]); have bo_1 := (q.cell (p := ⟨y2.heap.size, 1, none⟩) (by simp)).trans (show _ = some (.slice none 0 0) by simp [go_sem]); have fo_1 := (q.frozen (p := ⟨y2.heap.size, 1, none⟩) (by simp)).trans (show _ = false by simp [go_sem]); have bo_2 := (q.cell (p := ⟨y2.heap.size, 2, none⟩) (by simp)).trans (show _ = some (.slice none 0 0) by simp [go_sem]); have fo_2 := (q.frozen (p := ⟨y2.heap.size, 2, none⟩) (by simp)).trans (show _ = false by simp [go_sem]); have ol : y2.heap.size < y3.heap.size := Nat.lt_of_lt_of_le (by simp) q.size; clear q up))
    all_goals (go_wp2_with fail; go_meet)
    all_goals refine ⟨_, bo, Ao, no, co, Bo, mo, do_, rfl, ?_⟩
    all_goals first
      | with_reducible exact loneA o qq _
      | with_reducible exact loneB bo_0 bo_1 bo_2 o qq (by omega)
  case rest =>
    obtain ⟨gz, bz, Az, nz, cz, Bz, mz, dz, rfl, ⟨z0, z1, z2⟩, ⟨pz, qz⟩, b⟩ := hcut
    have zl := cell_lt z0
    simp only at zl
    replace f0 := fK b f0 gl
    replace f1 := fK b f1 gl
    replace f2 := fK b f2 gl
    replace p0 := p0.on b
    replace q0 := q0.on b
    replace p1 := p1.on b
    replace q1 := q1.on b
    replace k0 := cK b k0 kl
    replace k1 := cK b k1 kl
    replace k2 := cK b k2 kl
    replace kl := lK b kl
    replace h0 := cK b h0 hl
    replace h1 := cK b h1 hl
    replace h2 := cK b h2 hl
    replace hl := lK b hl
    replace g0 := cK b g0 gl
    replace g1 := cK b g1 gl
    replace g2 := cK b g2 gl
    replace gl := lK b gl
    replace cc := bK cc b
    clear b
    have eb : BoxR wc (w.heap.size + 1 + 1) false none 0 0 none 0 0 := ⟨g0, g1, g2⟩
    have HZ : Hid (Rt (putR wc (w.heap.size + 1 + 1) (.bool bz) (.slice Az nz cz) (.slice Bz mz dz)) bz Az nz cz Bz mz dz (x0 * x1)) := Lib.hid (by rw [HE.out]; exact Rt.putR ⟨pz, qz⟩ eb _ _ _)
    go_wp2_with fail
    refine bodyPost_ret (v := .agg #[.bool bz, .slice Az nz cz, .slice Bz mz dz]) (by simp [results, Try.results18, go_sem, g0, g1, g2]) rfl ⟨_, _, _, _, _, _, _, rfl, HZ.out, below_putR cc (by omega) _ _ _⟩

end Go.Proofs.Ytccigpnebejbiaa

/-
  The contracts of the fifth reference: Neg, Sub, Div and the rest.
-/
namespace Go.Proofs.Ytccigpnebejbiaa
set_option maxRecDepth 100000
open Go.RowKit
set_option linter.unusedVariables false

set_option maxRecDepth 100000 in
set_option maxHeartbeats 8000000 in
theorem rtneg_N {w : World} {b0 : Bool} {A0 B0 : Option Addr} {n0 c0 m0 d0 : Nat} {x0 : Rat} (h0 : Rt w b0 A0 n0 c0 B0 m0 d0 x0) (s0 : Sz x0 100) :
    Calls Try.prog 67 #[.agg #[.bool b0, .slice A0 n0 c0, .slice B0 m0 d0]] w (GotRt w (-x0)) := by
  have p0 := h0.1
  have q0 := h0.2
  have lp0 := s0.1
  have lq0 := s0.2
  clear h0
  have cc := Below.refl w.heap.size w
  go_enter Try.func67, Try.ntmps67
  go_wp2_with fail
  have f0 : ((w.alloc (.cells #[.bool b0, .slice A0 n0 c0, .slice B0 m0 d0] 35)).alloc (.cells #[.bool false, .slice none 0 0, .slice none 0 0] 35)).frozen? ⟨w.heap.size + 1, 0, none⟩ = false := by simp [go_sem]
  have f1 : ((w.alloc (.cells #[.bool b0, .slice A0 n0 c0, .slice B0 m0 d0] 35)).alloc (.cells #[.bool false, .slice none 0 0, .slice none 0 0] 35)).frozen? ⟨w.heap.size + 1, 1, none⟩ = false := by simp [go_sem]
  have f2 : ((w.alloc (.cells #[.bool b0, .slice A0 n0 c0, .slice B0 m0 d0] 35)).alloc (.cells #[.bool false, .slice none 0 0, .slice none 0 0] 35)).frozen? ⟨w.heap.size + 1, 2, none⟩ = false := by simp [go_sem]
  have bA : Below w.heap.size w ((w.alloc (.cells #[.bool b0, .slice A0 n0 c0, .slice B0 m0 d0] 35)).alloc (.cells #[.bool false, .slice none 0 0, .slice none 0 0] 35)) := (((Below.refl _ w).alloc (by simp) _).alloc (by simp) _)
  replace p0 := p0.on bA
  replace q0 := q0.on bA
  replace cc := bK cc bA
  clear bA
  have k0 : ((w.alloc (.cells #[.bool b0, .slice A0 n0 c0, .slice B0 m0 d0] 35)).alloc (.cells #[.bool false, .slice none 0 0, .slice none 0 0] 35)).cell? ⟨w.heap.size, 0, none⟩ = some (.bool b0) := by simp [go_sem]
  have k1 : ((w.alloc (.cells #[.bool b0, .slice A0 n0 c0, .slice B0 m0 d0] 35)).alloc (.cells #[.bool false, .slice none 0 0, .slice none 0 0] 35)).cell? ⟨w.heap.size, 1, none⟩ = some (.slice A0 n0 c0) := by simp [go_sem]
  have k2 : ((w.alloc (.cells #[.bool b0, .slice A0 n0 c0, .slice B0 m0 d0] 35)).alloc (.cells #[.bool false, .slice none 0 0, .slice none 0 0] 35)).cell? ⟨w.heap.size, 2, none⟩ = some (.slice B0 m0 d0) := by simp [go_sem]
  have kl : w.heap.size < ((w.alloc (.cells #[.bool b0, .slice A0 n0 c0, .slice B0 m0 d0] 35)).alloc (.cells #[.bool false, .slice none 0 0, .slice none 0 0] 35)).heap.size := by simp <;> omega
  have g0 : ((w.alloc (.cells #[.bool b0, .slice A0 n0 c0, .slice B0 m0 d0] 35)).alloc (.cells #[.bool false, .slice none 0 0, .slice none 0 0] 35)).cell? ⟨w.heap.size + 1, 0, none⟩ = some (.bool false) := by simp [go_sem]
  have g1 : ((w.alloc (.cells #[.bool b0, .slice A0 n0 c0, .slice B0 m0 d0] 35)).alloc (.cells #[.bool false, .slice none 0 0, .slice none 0 0] 35)).cell? ⟨w.heap.size + 1, 1, none⟩ = some (.slice none 0 0) := by simp [go_sem]
  have g2 : ((w.alloc (.cells #[.bool b0, .slice A0 n0 c0, .slice B0 m0 d0] 35)).alloc (.cells #[.bool false, .slice none 0 0, .slice none 0 0] 35)).cell? ⟨w.heap.size + 1, 2, none⟩ = some (.slice none 0 0) := by simp [go_sem]
  have gl : w.heap.size + 1 < ((w.alloc (.cells #[.bool b0, .slice A0 n0 c0, .slice B0 m0 d0] 35)).alloc (.cells #[.bool false, .slice none 0 0, .slice none 0 0] 35)).heap.size := by simp <;> omega
  generalize (w.alloc (.cells #[.bool b0, .slice A0 n0 c0, .slice B0 m0 d0] 35)).alloc (.cells #[.bool false, .slice none 0 0, .slice none 0 0] 35) = v1 at *
  have qq : Below v1.heap.size v1 v1.drew := below_drewN (Below.refl _ v1) 1
  have p0' := p0.on qq
  have q0' := q0.on qq
  go_region_held3 (fun w' => w'.cell? ⟨w.heap.size, 0, none⟩ = some (.bool b0) ∧ w'.cell? ⟨w.heap.size, 1, none⟩ = some (.slice A0 n0 c0) ∧ w'.cell? ⟨w.heap.size, 2, none⟩ = some (.slice B0 m0 d0))
    (first | with_reducible exact ⟨cK qq k0 kl, cK qq k1 kl, cK qq k2 kl⟩ | with_reducible exact ⟨(cell_putR (by omega)).trans (cK qq k0 kl), (cell_putR (by omega)).trans (cK qq k1 kl), (cell_putR (by omega)).trans (cK qq k2 kl)⟩ | go_keep)
    (first
      | (go_at_call 90; (with_reducible refine (rzneg_N p0' (Nat.le_trans lp0 (by omega))).mono ?_); rintro e wz ⟨bm, Am, nm, cm, rfl, pm, q⟩; replace qq := bK qq q; (try replace p0' := p0'.on q); (try replace q0' := q0'.on q); clear q; have xa0 := cK qq g0 gl; have ya0 := fK qq f0 gl; have xa1 := cK qq g1 gl; have ya1 := fK qq f1 gl; have xa2 := cK qq g2 gl; have ya2 := fK qq f2 gl))
  have hn : Rt wz bm Am nm cm B0 m0 d0 (-x0) := ⟨pm, q0'⟩
  replace cc := bK cc qq
  have eb : BoxR wz (w.heap.size + 1) false none 0 0 none 0 0 := ⟨xa0, xa1, xa2⟩
  have HZ : Hid (Rt (putR wz (w.heap.size + 1) (.bool bm) (.slice Am nm cm) (.slice B0 m0 d0)) bm Am nm cm B0 m0 d0 (-x0)) := Lib.hid (Rt.putR hn eb _ _ _)
  go_wp2_with fail
  refine bodyPost_ret (v := .agg #[.bool bm, .slice Am nm cm, .slice B0 m0 d0]) (by simp [results, Try.results67, go_sem, xa0, xa1, xa2]) rfl ⟨_, _, _, _, _, _, _, rfl, HZ.out, below_putR cc (by omega) _ _ _⟩

set_option maxRecDepth 100000 in
set_option maxHeartbeats 8000000 in
theorem rtsub_N {w : World} {b0 b1 : Bool} {A0 B0 A1 B1 : Option Addr} {n0 c0 m0 d0 n1 c1 m1 d1 : Nat} {x0 x1 : Rat} (h0 : Rt w b0 A0 n0 c0 B0 m0 d0 x0) (s0 : Sz x0 40) (h1 : Rt w b1 A1 n1 c1 B1 m1 d1 x1) (s1 : Sz x1 40) :
    Calls Try.prog 41 #[.agg #[.bool b0, .slice A0 n0 c0, .slice B0 m0 d0], .agg #[.bool b1, .slice A1 n1 c1, .slice B1 m1 d1]] w (GotRt w (x0 - x1)) := by
  have cc := Below.refl w.heap.size w
  go_enter Try.func41, Try.ntmps41
  go_wp2_with fail
  have f0 : (((w.alloc (.cells #[.bool b0, .slice A0 n0 c0, .slice B0 m0 d0] 35)).alloc (.cells #[.bool b1, .slice A1 n1 c1, .slice B1 m1 d1] 35)).alloc (.cells #[.bool false, .slice none 0 0, .slice none 0 0] 35)).frozen? ⟨w.heap.size + 1 + 1, 0, none⟩ = false := by simp [go_sem]
  have f1 : (((w.alloc (.cells #[.bool b0, .slice A0 n0 c0, .slice B0 m0 d0] 35)).alloc (.cells #[.bool b1, .slice A1 n1 c1, .slice B1 m1 d1] 35)).alloc (.cells #[.bool false, .slice none 0 0, .slice none 0 0] 35)).frozen? ⟨w.heap.size + 1 + 1, 1, none⟩ = false := by simp [go_sem]
  have f2 : (((w.alloc (.cells #[.bool b0, .slice A0 n0 c0, .slice B0 m0 d0] 35)).alloc (.cells #[.bool b1, .slice A1 n1 c1, .slice B1 m1 d1] 35)).alloc (.cells #[.bool false, .slice none 0 0, .slice none 0 0] 35)).frozen? ⟨w.heap.size + 1 + 1, 2, none⟩ = false := by simp [go_sem]
  have bA : Below w.heap.size w (((w.alloc (.cells #[.bool b0, .slice A0 n0 c0, .slice B0 m0 d0] 35)).alloc (.cells #[.bool b1, .slice A1 n1 c1, .slice B1 m1 d1] 35)).alloc (.cells #[.bool false, .slice none 0 0, .slice none 0 0] 35)) := ((((Below.refl _ w).alloc (by simp) _).alloc (by simp) _).alloc (by simp <;> omega) _)
  replace h0 := h0.on bA
  replace h1 := h1.on bA
  replace cc := bK cc bA
  clear bA
  have k0 : (((w.alloc (.cells #[.bool b0, .slice A0 n0 c0, .slice B0 m0 d0] 35)).alloc (.cells #[.bool b1, .slice A1 n1 c1, .slice B1 m1 d1] 35)).alloc (.cells #[.bool false, .slice none 0 0, .slice none 0 0] 35)).cell? ⟨w.heap.size, 0, none⟩ = some (.bool b0) := by simp [go_sem]
  have k1 : (((w.alloc (.cells #[.bool b0, .slice A0 n0 c0, .slice B0 m0 d0] 35)).alloc (.cells #[.bool b1, .slice A1 n1 c1, .slice B1 m1 d1] 35)).alloc (.cells #[.bool false, .slice none 0 0, .slice none 0 0] 35)).cell? ⟨w.heap.size, 1, none⟩ = some (.slice A0 n0 c0) := by simp [go_sem]
  have k2 : (((w.alloc (.cells #[.bool b0, .slice A0 n0 c0, .slice B0 m0 d0] 35)).alloc (.cells #[.bool b1, .slice A1 n1 c1, .slice B1 m1 d1] 35)).alloc (.cells #[.bool false, .slice none 0 0, .slice none 0 0] 35)).cell? ⟨w.heap.size, 2, none⟩ = some (.slice B0 m0 d0) := by simp [go_sem]
  have kl : w.heap.size < (((w.alloc (.cells #[.bool b0, .slice A0 n0 c0, .slice B0 m0 d0] 35)).alloc (.cells #[.bool b1, .slice A1 n1 c1, .slice B1 m1 d1] 35)).alloc (.cells #[.bool false, .slice none 0 0, .slice none 0 0] 35)).heap.size := by simp <;> omega
  have r0 : (((w.alloc (.cells #[.bool b0, .slice A0 n0 c0, .slice B0 m0 d0] 35)).alloc (.cells #[.bool b1, .slice A1 n1 c1, .slice B1 m1 d1] 35)).alloc (.cells #[.bool false, .slice none 0 0, .slice none 0 0] 35)).cell? ⟨w.heap.size + 1, 0, none⟩ = some (.bool b1) := by simp [go_sem]
  have r1 : (((w.alloc (.cells #[.bool b0, .slice A0 n0 c0, .slice B0 m0 d0] 35)).alloc (.cells #[.bool b1, .slice A1 n1 c1, .slice B1 m1 d1] 35)).alloc (.cells #[.bool false, .slice none 0 0, .slice none 0 0] 35)).cell? ⟨w.heap.size + 1, 1, none⟩ = some (.slice A1 n1 c1) := by simp [go_sem]
  have r2 : (((w.alloc (.cells #[.bool b0, .slice A0 n0 c0, .slice B0 m0 d0] 35)).alloc (.cells #[.bool b1, .slice A1 n1 c1, .slice B1 m1 d1] 35)).alloc (.cells #[.bool false, .slice none 0 0, .slice none 0 0] 35)).cell? ⟨w.heap.size + 1, 2, none⟩ = some (.slice B1 m1 d1) := by simp [go_sem]
  have rl : w.heap.size + 1 < (((w.alloc (.cells #[.bool b0, .slice A0 n0 c0, .slice B0 m0 d0] 35)).alloc (.cells #[.bool b1, .slice A1 n1 c1, .slice B1 m1 d1] 35)).alloc (.cells #[.bool false, .slice none 0 0, .slice none 0 0] 35)).heap.size := by simp <;> omega
  have g0 : (((w.alloc (.cells #[.bool b0, .slice A0 n0 c0, .slice B0 m0 d0] 35)).alloc (.cells #[.bool b1, .slice A1 n1 c1, .slice B1 m1 d1] 35)).alloc (.cells #[.bool false, .slice none 0 0, .slice none 0 0] 35)).cell? ⟨w.heap.size + 1 + 1, 0, none⟩ = some (.bool false) := by simp [go_sem]
  have g1 : (((w.alloc (.cells #[.bool b0, .slice A0 n0 c0, .slice B0 m0 d0] 35)).alloc (.cells #[.bool b1, .slice A1 n1 c1, .slice B1 m1 d1] 35)).alloc (.cells #[.bool false, .slice none 0 0, .slice none 0 0] 35)).cell? ⟨w.heap.size + 1 + 1, 1, none⟩ = some (.slice none 0 0) := by simp [go_sem]
  have g2 : (((w.alloc (.cells #[.bool b0, .slice A0 n0 c0, .slice B0 m0 d0] 35)).alloc (.cells #[.bool b1, .slice A1 n1 c1, .slice B1 m1 d1] 35)).alloc (.cells #[.bool false, .slice none 0 0, .slice none 0 0] 35)).cell? ⟨w.heap.size + 1 + 1, 2, none⟩ = some (.slice none 0 0) := by simp [go_sem]
  have gl : w.heap.size + 1 + 1 < (((w.alloc (.cells #[.bool b0, .slice A0 n0 c0, .slice B0 m0 d0] 35)).alloc (.cells #[.bool b1, .slice A1 n1 c1, .slice B1 m1 d1] 35)).alloc (.cells #[.bool false, .slice none 0 0, .slice none 0 0] 35)).heap.size := by simp <;> omega
  generalize ((w.alloc (.cells #[.bool b0, .slice A0 n0 c0, .slice B0 m0 d0] 35)).alloc (.cells #[.bool b1, .slice A1 n1 c1, .slice B1 m1 d1] 35)).alloc (.cells #[.bool false, .slice none 0 0, .slice none 0 0] 35) = v1 at *
  have qq : Below v1.heap.size v1 v1.drew := below_drewN (Below.refl _ v1) 1
  have h0' := h0.on qq
  have h1' := h1.on qq
  go_region_held3 (fun w' => w'.cell? ⟨w.heap.size, 0, none⟩ = some (.bool b0) ∧ w'.cell? ⟨w.heap.size, 1, none⟩ = some (.slice A0 n0 c0) ∧ w'.cell? ⟨w.heap.size, 2, none⟩ = some (.slice B0 m0 d0) ∧ w'.cell? ⟨w.heap.size + 1, 0, none⟩ = some (.bool b1) ∧ w'.cell? ⟨w.heap.size + 1, 1, none⟩ = some (.slice A1 n1 c1) ∧ w'.cell? ⟨w.heap.size + 1, 2, none⟩ = some (.slice B1 m1 d1))
    (first | with_reducible exact ⟨cK qq k0 kl, cK qq k1 kl, cK qq k2 kl, cK qq r0 rl, cK qq r1 rl, cK qq r2 rl⟩ | with_reducible exact ⟨(cell_putR (by omega)).trans (cK qq k0 kl), (cell_putR (by omega)).trans (cK qq k1 kl), (cell_putR (by omega)).trans (cK qq k2 kl), (cell_putR (by omega)).trans (cK qq r0 rl), (cell_putR (by omega)).trans (cK qq r1 rl), (cell_putR (by omega)).trans (cK qq r2 rl)⟩ | go_keep)
    (first
      | (go_at_call 67; (with_reducible refine (rtneg_N h1' (s1.le (by omega))).mono ?_); rintro e wz ⟨bv, Av, nv, cv, Bv, mv, dv, rfl, v, q⟩; replace qq := bK qq q; (try replace h0' := h0'.on q); (try replace h1' := h1'.on q); (try replace hm := hm.on q); clear q; have xa0 := cK qq g0 gl; have ya0 := fK qq f0 gl; have xa1 := cK qq g1 gl; have ya1 := fK qq f1 gl; have xa2 := cK qq g2 gl; have ya2 := fK qq f2 gl)
      | (go_at_call 66; (with_reducible refine (rtadd_N h0' s0 v s1.neg).mono ?_); rintro e wz ⟨bm, Am, nm, cm, Bm, mm, dm, rfl, hm, q⟩; replace qq := bK qq q; (try replace h0' := h0'.on q); (try replace h1' := h1'.on q); (try replace v := v.on q); clear q; have xa0 := cK qq g0 gl; have ya0 := fK qq f0 gl; have xa1 := cK qq g1 gl; have ya1 := fK qq f1 gl; have xa2 := cK qq g2 gl; have ya2 := fK qq f2 gl))
  replace cc := bK cc qq
  have eb : BoxR wz (w.heap.size + 1 + 1) false none 0 0 none 0 0 := ⟨xa0, xa1, xa2⟩
  have HZ : Hid (Rt (putR wz (w.heap.size + 1 + 1) (.bool bm) (.slice Am nm cm) (.slice Bm mm dm)) bm Am nm cm Bm mm dm (x0 - x1)) := Lib.hid (by rw [Rat.sub_eq_add_neg]; exact Rt.putR hm eb _ _ _)
  go_wp2_with fail
  refine bodyPost_ret (v := .agg #[.bool bm, .slice Am nm cm, .slice Bm mm dm]) (by simp [results, Try.results41, go_sem, xa0, xa1, xa2]) rfl ⟨_, _, _, _, _, _, _, rfl, HZ.out, below_putR cc (by omega) _ _ _⟩

theorem zn_side {w : World} {b : Bool} {A B : Option Addr} {n c m d q : Nat} {p : Int} (h : Zn w b A n c p) (hB : Num w B m d q) (hq : q ≠ 0) : Zn w b B m d (sgn (decide (p < 0)) q) := by
  refine ⟨by rw [sgn_abs]; exact hB, ?_⟩
  rw [h.2]; unfold sgn
  by_cases h1 : p < 0
  · simp [h1]; omega
  · simp [h1]

set_option maxRecDepth 100000 in
set_option maxHeartbeats 8000000 in
theorem rtdiv_N {w : World} {b0 b1 : Bool} {A0 B0 A1 B1 : Option Addr} {n0 c0 m0 d0 n1 c1 m1 d1 : Nat} {x0 x1 : Rat} (h0 : Rt w b0 A0 n0 c0 B0 m0 d0 x0) (s0 : Sz x0 40) (h1 : Rt w b1 A1 n1 c1 B1 m1 d1 x1) (s1 : Sz x1 40) (hne : x1.num ≠ 0) :
    Calls Try.prog 19 #[.agg #[.bool b0, .slice A0 n0 c0, .slice B0 m0 d0], .agg #[.bool b1, .slice A1 n1 c1, .slice B1 m1 d1]] w (GotRp w (x0 / x1) 0) := by
  have p0 := h0.1
  have q0 := h0.2
  have lp0 := s0.1
  have lq0 := s0.2
  have p1 := h1.1
  have q1 := h1.2
  have lp1 := s1.1
  have lq1 := s1.2
  clear h0
  clear h1
  have hn : 0 < n1 := p1.1.some_len (by omega)
  have hn0 : ((n1 : Int) == 0) = false := beq_eq_false_iff_ne.2 (by omega)
  have zs := zn_side p1 q1 x1.den_nz
  have hD : x0.den * x1.num.natAbs ≠ 0 := Nat.mul_ne_zero x0.den_nz (by omega)
  have lD : (limbs (x0.den * x1.num.natAbs)).length ≤ 100 := Nat.le_trans (limbs_length_mul lq0 lp1) (by omega)
  have lS : (limbs (sgn (decide (x1.num < 0)) x1.den).natAbs).length ≤ 40 := by rw [sgn_abs]; exact lq1
  have lC : (limbs (x0.num * sgn (decide (x1.num < 0)) x1.den).natAbs).length ≤ 100 := Nat.le_trans (zlen_mul lp0 lS) (by omega)
  have t1 := p1.1
  have cc := Below.refl w.heap.size w
  go_enter Try.func19, Try.ntmps19
  go_wp2_with fail
  have f0 : (((w.alloc (.cells #[.bool b0, .slice A0 n0 c0, .slice B0 m0 d0] 35)).alloc (.cells #[.bool b1, .slice A1 n1 c1, .slice B1 m1 d1] 35)).alloc (.cells #[.bool false, .slice none 0 0, .slice none 0 0] 35)).frozen? ⟨w.heap.size + 1 + 1, 0, none⟩ = false := by simp [go_sem]
  have f1 : (((w.alloc (.cells #[.bool b0, .slice A0 n0 c0, .slice B0 m0 d0] 35)).alloc (.cells #[.bool b1, .slice A1 n1 c1, .slice B1 m1 d1] 35)).alloc (.cells #[.bool false, .slice none 0 0, .slice none 0 0] 35)).frozen? ⟨w.heap.size + 1 + 1, 1, none⟩ = false := by simp [go_sem]
  have f2 : (((w.alloc (.cells #[.bool b0, .slice A0 n0 c0, .slice B0 m0 d0] 35)).alloc (.cells #[.bool b1, .slice A1 n1 c1, .slice B1 m1 d1] 35)).alloc (.cells #[.bool false, .slice none 0 0, .slice none 0 0] 35)).frozen? ⟨w.heap.size + 1 + 1, 2, none⟩ = false := by simp [go_sem]
  have bA : Below w.heap.size w (((w.alloc (.cells #[.bool b0, .slice A0 n0 c0, .slice B0 m0 d0] 35)).alloc (.cells #[.bool b1, .slice A1 n1 c1, .slice B1 m1 d1] 35)).alloc (.cells #[.bool false, .slice none 0 0, .slice none 0 0] 35)) := ((((Below.refl _ w).alloc (by simp) _).alloc (by simp) _).alloc (by simp <;> omega) _)
  replace p0 := p0.on bA
  replace q0 := q0.on bA
  replace p1 := p1.on bA
  replace q1 := q1.on bA
  replace zs := zs.on bA
  replace t1 := t1.on bA
  replace cc := bK cc bA
  clear bA
  have k0 : (((w.alloc (.cells #[.bool b0, .slice A0 n0 c0, .slice B0 m0 d0] 35)).alloc (.cells #[.bool b1, .slice A1 n1 c1, .slice B1 m1 d1] 35)).alloc (.cells #[.bool false, .slice none 0 0, .slice none 0 0] 35)).cell? ⟨w.heap.size, 0, none⟩ = some (.bool b0) := by simp [go_sem]
  have k1 : (((w.alloc (.cells #[.bool b0, .slice A0 n0 c0, .slice B0 m0 d0] 35)).alloc (.cells #[.bool b1, .slice A1 n1 c1, .slice B1 m1 d1] 35)).alloc (.cells #[.bool false, .slice none 0 0, .slice none 0 0] 35)).cell? ⟨w.heap.size, 1, none⟩ = some (.slice A0 n0 c0) := by simp [go_sem]
  have k2 : (((w.alloc (.cells #[.bool b0, .slice A0 n0 c0, .slice B0 m0 d0] 35)).alloc (.cells #[.bool b1, .slice A1 n1 c1, .slice B1 m1 d1] 35)).alloc (.cells #[.bool false, .slice none 0 0, .slice none 0 0] 35)).cell? ⟨w.heap.size, 2, none⟩ = some (.slice B0 m0 d0) := by simp [go_sem]
  have kl : w.heap.size < (((w.alloc (.cells #[.bool b0, .slice A0 n0 c0, .slice B0 m0 d0] 35)).alloc (.cells #[.bool b1, .slice A1 n1 c1, .slice B1 m1 d1] 35)).alloc (.cells #[.bool false, .slice none 0 0, .slice none 0 0] 35)).heap.size := by simp <;> omega
  have r0 : (((w.alloc (.cells #[.bool b0, .slice A0 n0 c0, .slice B0 m0 d0] 35)).alloc (.cells #[.bool b1, .slice A1 n1 c1, .slice B1 m1 d1] 35)).alloc (.cells #[.bool false, .slice none 0 0, .slice none 0 0] 35)).cell? ⟨w.heap.size + 1, 0, none⟩ = some (.bool b1) := by simp [go_sem]
  have r1 : (((w.alloc (.cells #[.bool b0, .slice A0 n0 c0, .slice B0 m0 d0] 35)).alloc (.cells #[.bool b1, .slice A1 n1 c1, .slice B1 m1 d1] 35)).alloc (.cells #[.bool false, .slice none 0 0, .slice none 0 0] 35)).cell? ⟨w.heap.size + 1, 1, none⟩ = some (.slice A1 n1 c1) := by simp [go_sem]
  have r2 : (((w.alloc (.cells #[.bool b0, .slice A0 n0 c0, .slice B0 m0 d0] 35)).alloc (.cells #[.bool b1, .slice A1 n1 c1, .slice B1 m1 d1] 35)).alloc (.cells #[.bool false, .slice none 0 0, .slice none 0 0] 35)).cell? ⟨w.heap.size + 1, 2, none⟩ = some (.slice B1 m1 d1) := by simp [go_sem]
  have rl : w.heap.size + 1 < (((w.alloc (.cells #[.bool b0, .slice A0 n0 c0, .slice B0 m0 d0] 35)).alloc (.cells #[.bool b1, .slice A1 n1 c1, .slice B1 m1 d1] 35)).alloc (.cells #[.bool false, .slice none 0 0, .slice none 0 0] 35)).heap.size := by simp <;> omega
  have g0 : (((w.alloc (.cells #[.bool b0, .slice A0 n0 c0, .slice B0 m0 d0] 35)).alloc (.cells #[.bool b1, .slice A1 n1 c1, .slice B1 m1 d1] 35)).alloc (.cells #[.bool false, .slice none 0 0, .slice none 0 0] 35)).cell? ⟨w.heap.size + 1 + 1, 0, none⟩ = some (.bool false) := by simp [go_sem]
  have g1 : (((w.alloc (.cells #[.bool b0, .slice A0 n0 c0, .slice B0 m0 d0] 35)).alloc (.cells #[.bool b1, .slice A1 n1 c1, .slice B1 m1 d1] 35)).alloc (.cells #[.bool false, .slice none 0 0, .slice none 0 0] 35)).cell? ⟨w.heap.size + 1 + 1, 1, none⟩ = some (.slice none 0 0) := by simp [go_sem]
  have g2 : (((w.alloc (.cells #[.bool b0, .slice A0 n0 c0, .slice B0 m0 d0] 35)).alloc (.cells #[.bool b1, .slice A1 n1 c1, .slice B1 m1 d1] 35)).alloc (.cells #[.bool false, .slice none 0 0, .slice none 0 0] 35)).cell? ⟨w.heap.size + 1 + 1, 2, none⟩ = some (.slice none 0 0) := by simp [go_sem]
  have gl : w.heap.size + 1 + 1 < (((w.alloc (.cells #[.bool b0, .slice A0 n0 c0, .slice B0 m0 d0] 35)).alloc (.cells #[.bool b1, .slice A1 n1 c1, .slice B1 m1 d1] 35)).alloc (.cells #[.bool false, .slice none 0 0, .slice none 0 0] 35)).heap.size := by simp <;> omega
  generalize ((w.alloc (.cells #[.bool b0, .slice A0 n0 c0, .slice B0 m0 d0] 35)).alloc (.cells #[.bool b1, .slice A1 n1 c1, .slice B1 m1 d1] 35)).alloc (.cells #[.bool false, .slice none 0 0, .slice none 0 0] 35) = v1 at *
  have qq : Below v1.heap.size v1 v1.drew := below_drewN (Below.refl _ v1) 1
  have p0' := p0.on qq
  have q0' := q0.on qq
  have p1' := p1.on qq
  have q1' := q1.on qq
  have zs' := zs.on qq
  have t1' := t1.on qq
  go_region_held3 (fun w' => w'.cell? ⟨w.heap.size, 0, none⟩ = some (.bool b0) ∧ w'.cell? ⟨w.heap.size, 1, none⟩ = some (.slice A0 n0 c0) ∧ w'.cell? ⟨w.heap.size, 2, none⟩ = some (.slice B0 m0 d0) ∧ w'.cell? ⟨w.heap.size + 1, 0, none⟩ = some (.bool b1) ∧ w'.cell? ⟨w.heap.size + 1, 1, none⟩ = some (.slice A1 n1 c1) ∧ w'.cell? ⟨w.heap.size + 1, 2, none⟩ = some (.slice B1 m1 d1))
    (first | with_reducible exact ⟨cK qq k0 kl, cK qq k1 kl, cK qq k2 kl, cK qq r0 rl, cK qq r1 rl, cK qq r2 rl⟩ | with_reducible exact ⟨(cell_putR (by omega)).trans (cK qq k0 kl), (cell_putR (by omega)).trans (cK qq k1 kl), (cell_putR (by omega)).trans (cK qq k2 kl), (cell_putR (by omega)).trans (cK qq r0 rl), (cell_putR (by omega)).trans (cK qq r1 rl), (cell_putR (by omega)).trans (cK qq r2 rl)⟩ | go_keep)
    (first
      | (go_at_call 42; (with_reducible refine (rzmul_N p0' zs' (Nat.le_trans lp0 (by omega)) (Nat.le_trans lS (by omega))).mono ?_); rintro e wz ⟨bs, As, ns, cs, rfl, s, q⟩; replace qq := bK qq q; (try replace p0' := p0'.on q); (try replace q0' := q0'.on q); (try replace p1' := p1'.on q); (try replace q1' := q1'.on q); (try replace zs' := zs'.on q); (try replace t1' := t1'.on q); (try replace t := t.on q); (try replace hm := hm.on q); clear q; have xa0 := cK qq g0 gl; have ya0 := fK qq f0 gl; have xa1 := cK qq g1 gl; have ya1 := fK qq f1 gl; have xa2 := cK qq g2 gl; have ya2 := fK qq f2 gl)
      | (go_at_call 43; (with_reducible refine (rmul_N q0' t1' (Nat.le_trans lq0 (by omega)) (Nat.le_trans lp1 (by omega))).mono ?_); rintro e wz ⟨At, nt, ct, rfl, t, q⟩; replace qq := bK qq q; (try replace p0' := p0'.on q); (try replace q0' := q0'.on q); (try replace p1' := p1'.on q); (try replace q1' := q1'.on q); (try replace zs' := zs'.on q); (try replace t1' := t1'.on q); (try replace s := s.on q); (try replace hm := hm.on q); clear q; have xa0 := cK qq g0 gl; have ya0 := fK qq f0 gl; have xa1 := cK qq g1 gl; have ya1 := fK qq f1 gl; have xa2 := cK qq g2 gl; have ya2 := fK qq f2 gl)
      | (go_at_call 39; (with_reducible refine (rtmake_N s t hD lC lD).mono ?_); rintro e wz ⟨bm, Am, nm, cm, Bm, mm, dm, rfl, hm, q⟩; replace qq := bK qq q; (try replace p0' := p0'.on q); (try replace q0' := q0'.on q); (try replace p1' := p1'.on q); (try replace q1' := q1'.on q); (try replace zs' := zs'.on q); (try replace t1' := t1'.on q); (try replace s := s.on q); (try replace t := t.on q); clear q; have xa0 := cK qq g0 gl; have ya0 := fK qq f0 gl; have xa1 := cK qq g1 gl; have ya1 := fK qq f1 gl; have xa2 := cK qq g2 gl; have ya2 := fK qq f2 gl))
  replace cc := bK cc qq
  have eb : BoxR wz (w.heap.size + 1 + 1) false none 0 0 none 0 0 := ⟨xa0, xa1, xa2⟩
  have HZ : Hid (Rt (putR wz (w.heap.size + 1 + 1) (.bool bm) (.slice Am nm cm) (.slice Bm mm dm)) bm Am nm cm Bm mm dm (x0 / x1)) := Lib.hid (by rw [div_mk x0 x1 hne]; exact Rt.putR hm eb _ _ _)
  go_wp2_with fail
  refine bodyPost_ret (v := .tuple #[.agg #[.bool bm, .slice Am nm cm, .slice Bm mm dm], .int .i64 0]) (by simp [results, Try.results19, go_sem, xa0, xa1, xa2]) rfl ⟨_, _, _, _, _, _, _, rfl, HZ.out, below_putR cc (by omega) _ _ _⟩

set_option maxRecDepth 100000 in
set_option maxHeartbeats 8000000 in
theorem rtmake_zero {w : World} {b : Bool} {A B : Option Addr} {n c d : Nat} :
    Calls Try.prog 39 #[.agg #[.bool b, .slice A n c], .slice B 0 d] w (GotV w (.tuple #[.agg #[.bool false, .slice none 0 0, .slice none 0 0], .int .i64 4])) := by
  have cc := Below.refl w.heap.size w
  go_enter Try.func39, Try.ntmps39
  go_wp2_with fail
  have f0 : ((w.alloc (.cells #[.bool b, .slice A n c] 33)).alloc (.cells #[.bool false, .slice none 0 0, .slice none 0 0] 35)).frozen? ⟨w.heap.size + 1, 0, none⟩ = false := by simp [go_sem]
  have f1 : ((w.alloc (.cells #[.bool b, .slice A n c] 33)).alloc (.cells #[.bool false, .slice none 0 0, .slice none 0 0] 35)).frozen? ⟨w.heap.size + 1, 1, none⟩ = false := by simp [go_sem]
  have f2 : ((w.alloc (.cells #[.bool b, .slice A n c] 33)).alloc (.cells #[.bool false, .slice none 0 0, .slice none 0 0] 35)).frozen? ⟨w.heap.size + 1, 2, none⟩ = false := by simp [go_sem]
  have bA : Below w.heap.size w ((w.alloc (.cells #[.bool b, .slice A n c] 33)).alloc (.cells #[.bool false, .slice none 0 0, .slice none 0 0] 35)) := (((Below.refl _ w).alloc (by simp) _).alloc (by simp) _)
  replace cc := bK cc bA
  clear bA
  have k0 : ((w.alloc (.cells #[.bool b, .slice A n c] 33)).alloc (.cells #[.bool false, .slice none 0 0, .slice none 0 0] 35)).cell? ⟨w.heap.size, 0, none⟩ = some (.bool b) := by simp [go_sem]
  have k1 : ((w.alloc (.cells #[.bool b, .slice A n c] 33)).alloc (.cells #[.bool false, .slice none 0 0, .slice none 0 0] 35)).cell? ⟨w.heap.size, 1, none⟩ = some (.slice A n c) := by simp [go_sem]
  have kl : w.heap.size < ((w.alloc (.cells #[.bool b, .slice A n c] 33)).alloc (.cells #[.bool false, .slice none 0 0, .slice none 0 0] 35)).heap.size := by simp <;> omega
  have g0 : ((w.alloc (.cells #[.bool b, .slice A n c] 33)).alloc (.cells #[.bool false, .slice none 0 0, .slice none 0 0] 35)).cell? ⟨w.heap.size + 1, 0, none⟩ = some (.bool false) := by simp [go_sem]
  have g1 : ((w.alloc (.cells #[.bool b, .slice A n c] 33)).alloc (.cells #[.bool false, .slice none 0 0, .slice none 0 0] 35)).cell? ⟨w.heap.size + 1, 1, none⟩ = some (.slice none 0 0) := by simp [go_sem]
  have g2 : ((w.alloc (.cells #[.bool b, .slice A n c] 33)).alloc (.cells #[.bool false, .slice none 0 0, .slice none 0 0] 35)).cell? ⟨w.heap.size + 1, 2, none⟩ = some (.slice none 0 0) := by simp [go_sem]
  have gl : w.heap.size + 1 < ((w.alloc (.cells #[.bool b, .slice A n c] 33)).alloc (.cells #[.bool false, .slice none 0 0, .slice none 0 0] 35)).heap.size := by simp <;> omega
  generalize (w.alloc (.cells #[.bool b, .slice A n c] 33)).alloc (.cells #[.bool false, .slice none 0 0, .slice none 0 0] 35) = v1 at *
  go_wp2_with fail
  exact bodyPost_ret (v := .tuple #[.agg #[.bool false, .slice none 0 0, .slice none 0 0], .int .i64 4]) (by simp [results, Try.results39, go_sem, g0, g1, g2]) rfl ⟨rfl, cc⟩

set_option maxRecDepth 100000 in
set_option maxHeartbeats 8000000 in
theorem rtdiv_zero {w : World} {b0 b1 : Bool} {A0 B0 A1 B1 : Option Addr} {n0 c0 m0 d0 c1 m1 d1 : Nat} :
    Calls Try.prog 19 #[.agg #[.bool b0, .slice A0 n0 c0, .slice B0 m0 d0], .agg #[.bool b1, .slice A1 0 c1, .slice B1 m1 d1]] w (GotV w (.tuple #[.agg #[.bool false, .slice none 0 0, .slice none 0 0], .int .i64 4])) := by
  have cc := Below.refl w.heap.size w
  go_enter Try.func19, Try.ntmps19
  go_wp2_with fail
  have f0 : (((w.alloc (.cells #[.bool b0, .slice A0 n0 c0, .slice B0 m0 d0] 35)).alloc (.cells #[.bool b1, .slice A1 0 c1, .slice B1 m1 d1] 35)).alloc (.cells #[.bool false, .slice none 0 0, .slice none 0 0] 35)).frozen? ⟨w.heap.size + 1 + 1, 0, none⟩ = false := by simp [go_sem]
  have f1 : (((w.alloc (.cells #[.bool b0, .slice A0 n0 c0, .slice B0 m0 d0] 35)).alloc (.cells #[.bool b1, .slice A1 0 c1, .slice B1 m1 d1] 35)).alloc (.cells #[.bool false, .slice none 0 0, .slice none 0 0] 35)).frozen? ⟨w.heap.size + 1 + 1, 1, none⟩ = false := by simp [go_sem]
  have f2 : (((w.alloc (.cells #[.bool b0, .slice A0 n0 c0, .slice B0 m0 d0] 35)).alloc (.cells #[.bool b1, .slice A1 0 c1, .slice B1 m1 d1] 35)).alloc (.cells #[.bool false, .slice none 0 0, .slice none 0 0] 35)).frozen? ⟨w.heap.size + 1 + 1, 2, none⟩ = false := by simp [go_sem]
  have bA : Below w.heap.size w (((w.alloc (.cells #[.bool b0, .slice A0 n0 c0, .slice B0 m0 d0] 35)).alloc (.cells #[.bool b1, .slice A1 0 c1, .slice B1 m1 d1] 35)).alloc (.cells #[.bool false, .slice none 0 0, .slice none 0 0] 35)) := ((((Below.refl _ w).alloc (by simp) _).alloc (by simp) _).alloc (by simp <;> omega) _)
  replace cc := bK cc bA
  clear bA
  have k0 : (((w.alloc (.cells #[.bool b0, .slice A0 n0 c0, .slice B0 m0 d0] 35)).alloc (.cells #[.bool b1, .slice A1 0 c1, .slice B1 m1 d1] 35)).alloc (.cells #[.bool false, .slice none 0 0, .slice none 0 0] 35)).cell? ⟨w.heap.size, 0, none⟩ = some (.bool b0) := by simp [go_sem]
  have k1 : (((w.alloc (.cells #[.bool b0, .slice A0 n0 c0, .slice B0 m0 d0] 35)).alloc (.cells #[.bool b1, .slice A1 0 c1, .slice B1 m1 d1] 35)).alloc (.cells #[.bool false, .slice none 0 0, .slice none 0 0] 35)).cell? ⟨w.heap.size, 1, none⟩ = some (.slice A0 n0 c0) := by simp [go_sem]
  have k2 : (((w.alloc (.cells #[.bool b0, .slice A0 n0 c0, .slice B0 m0 d0] 35)).alloc (.cells #[.bool b1, .slice A1 0 c1, .slice B1 m1 d1] 35)).alloc (.cells #[.bool false, .slice none 0 0, .slice none 0 0] 35)).cell? ⟨w.heap.size, 2, none⟩ = some (.slice B0 m0 d0) := by simp [go_sem]
  have kl : w.heap.size < (((w.alloc (.cells #[.bool b0, .slice A0 n0 c0, .slice B0 m0 d0] 35)).alloc (.cells #[.bool b1, .slice A1 0 c1, .slice B1 m1 d1] 35)).alloc (.cells #[.bool false, .slice none 0 0, .slice none 0 0] 35)).heap.size := by simp <;> omega
  have r0 : (((w.alloc (.cells #[.bool b0, .slice A0 n0 c0, .slice B0 m0 d0] 35)).alloc (.cells #[.bool b1, .slice A1 0 c1, .slice B1 m1 d1] 35)).alloc (.cells #[.bool false, .slice none 0 0, .slice none 0 0] 35)).cell? ⟨w.heap.size + 1, 0, none⟩ = some (.bool b1) := by simp [go_sem]
  have r1 : (((w.alloc (.cells #[.bool b0, .slice A0 n0 c0, .slice B0 m0 d0] 35)).alloc (.cells #[.bool b1, .slice A1 0 c1, .slice B1 m1 d1] 35)).alloc (.cells #[.bool false, .slice none 0 0, .slice none 0 0] 35)).cell? ⟨w.heap.size + 1, 1, none⟩ = some (.slice A1 0 c1) := by simp [go_sem]
  have r2 : (((w.alloc (.cells #[.bool b0, .slice A0 n0 c0, .slice B0 m0 d0] 35)).alloc (.cells #[.bool b1, .slice A1 0 c1, .slice B1 m1 d1] 35)).alloc (.cells #[.bool false, .slice none 0 0, .slice none 0 0] 35)).cell? ⟨w.heap.size + 1, 2, none⟩ = some (.slice B1 m1 d1) := by simp [go_sem]
  have rl : w.heap.size + 1 < (((w.alloc (.cells #[.bool b0, .slice A0 n0 c0, .slice B0 m0 d0] 35)).alloc (.cells #[.bool b1, .slice A1 0 c1, .slice B1 m1 d1] 35)).alloc (.cells #[.bool false, .slice none 0 0, .slice none 0 0] 35)).heap.size := by simp <;> omega
  have g0 : (((w.alloc (.cells #[.bool b0, .slice A0 n0 c0, .slice B0 m0 d0] 35)).alloc (.cells #[.bool b1, .slice A1 0 c1, .slice B1 m1 d1] 35)).alloc (.cells #[.bool false, .slice none 0 0, .slice none 0 0] 35)).cell? ⟨w.heap.size + 1 + 1, 0, none⟩ = some (.bool false) := by simp [go_sem]
  have g1 : (((w.alloc (.cells #[.bool b0, .slice A0 n0 c0, .slice B0 m0 d0] 35)).alloc (.cells #[.bool b1, .slice A1 0 c1, .slice B1 m1 d1] 35)).alloc (.cells #[.bool false, .slice none 0 0, .slice none 0 0] 35)).cell? ⟨w.heap.size + 1 + 1, 1, none⟩ = some (.slice none 0 0) := by simp [go_sem]
  have g2 : (((w.alloc (.cells #[.bool b0, .slice A0 n0 c0, .slice B0 m0 d0] 35)).alloc (.cells #[.bool b1, .slice A1 0 c1, .slice B1 m1 d1] 35)).alloc (.cells #[.bool false, .slice none 0 0, .slice none 0 0] 35)).cell? ⟨w.heap.size + 1 + 1, 2, none⟩ = some (.slice none 0 0) := by simp [go_sem]
  have gl : w.heap.size + 1 + 1 < (((w.alloc (.cells #[.bool b0, .slice A0 n0 c0, .slice B0 m0 d0] 35)).alloc (.cells #[.bool b1, .slice A1 0 c1, .slice B1 m1 d1] 35)).alloc (.cells #[.bool false, .slice none 0 0, .slice none 0 0] 35)).heap.size := by simp <;> omega
  generalize ((w.alloc (.cells #[.bool b0, .slice A0 n0 c0, .slice B0 m0 d0] 35)).alloc (.cells #[.bool b1, .slice A1 0 c1, .slice B1 m1 d1] 35)).alloc (.cells #[.bool false, .slice none 0 0, .slice none 0 0] 35) = v1 at *
  go_wp2_with fail
  exact bodyPost_ret (v := .tuple #[.agg #[.bool false, .slice none 0 0, .slice none 0 0], .int .i64 4]) (by simp [results, Try.results19, go_sem, g0, g1, g2]) rfl ⟨rfl, cc⟩

end Go.Proofs.Ytccigpnebejbiaa

/-
  The contracts of the fifth reference: Of, Same, Right, Few.
-/
namespace Go.Proofs.Ytccigpnebejbiaa
set_option maxRecDepth 100000
open Go.RowKit
set_option linter.unusedVariables false


set_option maxRecDepth 100000 in
set_option maxHeartbeats 8000000 in
theorem rtof_N (w : World) (n : Int) (h : I64 n) :
    Calls Try.prog 27 #[.int .i64 n] w (GotRt w ((n : Int) : Rat)) := by
  have hl := h.abs
  have cc := Below.refl w.heap.size w
  go_enter Try.func27, Try.ntmps27
  go_wp2_with fail
  have f0 : (w.alloc (.cells #[.bool false, .slice none 0 0, .slice none 0 0] 35)).frozen? ⟨w.heap.size, 0, none⟩ = false := by simp [go_sem]
  have f1 : (w.alloc (.cells #[.bool false, .slice none 0 0, .slice none 0 0] 35)).frozen? ⟨w.heap.size, 1, none⟩ = false := by simp [go_sem]
  have f2 : (w.alloc (.cells #[.bool false, .slice none 0 0, .slice none 0 0] 35)).frozen? ⟨w.heap.size, 2, none⟩ = false := by simp [go_sem]
  have bA : Below w.heap.size w (w.alloc (.cells #[.bool false, .slice none 0 0, .slice none 0 0] 35)) := ((Below.refl _ w).alloc (by simp) _)
  replace cc := bK cc bA
  clear bA
  have g0 : (w.alloc (.cells #[.bool false, .slice none 0 0, .slice none 0 0] 35)).cell? ⟨w.heap.size, 0, none⟩ = some (.bool false) := by simp [go_sem]
  have g1 : (w.alloc (.cells #[.bool false, .slice none 0 0, .slice none 0 0] 35)).cell? ⟨w.heap.size, 1, none⟩ = some (.slice none 0 0) := by simp [go_sem]
  have g2 : (w.alloc (.cells #[.bool false, .slice none 0 0, .slice none 0 0] 35)).cell? ⟨w.heap.size, 2, none⟩ = some (.slice none 0 0) := by simp [go_sem]
  have gl : w.heap.size < (w.alloc (.cells #[.bool false, .slice none 0 0, .slice none 0 0] 35)).heap.size := by simp <;> omega
  generalize w.alloc (.cells #[.bool false, .slice none 0 0, .slice none 0 0] 35) = v1 at *
  refine (rzof_N v1 n h).mono ?_
  rintro e w2 ⟨bm, Am, nm, cm, rfl, pm, b⟩
  replace f0 := fK b f0 gl
  replace f1 := fK b f1 gl
  replace f2 := fK b f2 gl
  replace g0 := cK b g0 gl
  replace g1 := cK b g1 gl
  replace g2 := cK b g2 gl
  replace gl := lK b gl
  replace cc := bK cc b
  clear b
  go_wp2_with fail
  refine (rof_N w2 1 (by decide)).mono ?_
  rintro e w3 ⟨Bm, mm, dm, rfl, qm, b⟩
  replace f0 := fK b f0 gl
  replace f1 := fK b f1 gl
  replace f2 := fK b f2 gl
  replace pm := pm.on b
  replace g0 := cK b g0 gl
  replace g1 := cK b g1 gl
  replace g2 := cK b g2 gl
  replace gl := lK b gl
  replace cc := bK cc b
  clear b
  have hn : Rt w3 bm Am nm cm Bm mm dm ((n : Int) : Rat) := ⟨pm, qm⟩
  have eb : BoxR w3 (w.heap.size) false none 0 0 none 0 0 := ⟨g0, g1, g2⟩
  have HZ : Hid (Rt (putR w3 (w.heap.size) (.bool bm) (.slice Am nm cm) (.slice Bm mm dm)) bm Am nm cm Bm mm dm (((n : Int) : Rat))) := Lib.hid (Rt.putR (r := ((n : Int) : Rat)) hn eb _ _ _)
  go_wp2_with fail
  refine bodyPost_ret (v := .agg #[.bool bm, .slice Am nm cm, .slice Bm mm dm]) (by simp [results, Try.results27, go_sem, g0, g1, g2]) rfl ⟨_, _, _, _, _, _, _, rfl, HZ.out, below_putR cc (by omega) _ _ _⟩





/-- A rational's form is right. -/
def okR (b : Bool) (n : Nat) (l : List Nat) (m : Nat) (l2 : List Nat) : Bool := okZ b n l && (canon l2 && (decide (0 < m) && decide (Nat.gcd (val l) (val l2) = 1)))


theorem okZ_canon {b : Bool} {n : Nat} {l : List Nat} (h : okZ b n l = true) : canon l = true := by
  unfold okZ at h
  rw [Bool.and_eq_true] at h
  exact h.1
theorem num_ne {w : World} {A : Option Addr} {n c x : Nat} (h : Num w A n c x) (h0 : 0 < n) : x ≠ 0 := by
  intro e
  have hl := h.len
  rw [e, limbs_zero] at hl
  simp at hl
  omega









end Go.Proofs.Ytccigpnebejbiaa

/-
  The contracts of the fifth reference: Frac.
-/
namespace Go.Proofs.Ytccigpnebejbiaa
set_option maxRecDepth 100000
open Go.RowKit
set_option linter.unusedVariables false

/-- The parts of a struct that is no variable. -/
theorem field_N (b : Bool) (A : Option Addr) (n c : Nat) (w : World) : Sem.run Try.prog (Instr.field 33 (.agg #[.bool b, .slice A n c]) 1) w = .ok (.slice A n c) w := by rfl
theorem field_P (b : Bool) (A B : Option Addr) (n c m d : Nat) (w : World) : Sem.run Try.prog (Instr.field 35 (.agg #[.bool b, .slice A n c, .slice B m d]) 0) w = .ok (.agg #[.bool b, .slice A n c]) w := by rfl
theorem field_Q (b : Bool) (A B : Option Addr) (n c m d : Nat) (w : World) : Sem.run Try.prog (Instr.field 35 (.agg #[.bool b, .slice A n c, .slice B m d]) 1) w = .ok (.slice B m d) w := by rfl
attribute [local go_sem] field_N field_P field_Q


end Go.Proofs.Ytccigpnebejbiaa
