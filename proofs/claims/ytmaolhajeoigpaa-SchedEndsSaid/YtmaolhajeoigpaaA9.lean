/-
  Several texts in one: DU, DT, JF, JSd, JS, L15.
-/
import Derived.Test.YtmaolhajeoigpaaA5
import Derived.Test.YtmaolhajeoigpaaA3
import Derived.Test.YtmaolhajeoigpaaA8
import Derived.Test.YtmaolhajeoigpaaA7
import Derived.Test.YtmaolhajeoigpaaA4
import Derived.Test.YtmaolhajeoigpaaA6

/-
  The contracts of dyad: rounded.
-/
namespace Go.Proofs.Ytmaolhajeoigpaa
set_option maxRecDepth 100000
set_option maxHeartbeats 8000000
open Go.RowKit
set_option linter.unusedVariables false
set_option linter.unusedSimpArgs false

theorem rdnea_ff {w : World} {b0 : Bool} {A0 B0 : Option Addr} {n0 c0 m0 d0 : Nat} {g : Nat} {x0 : Rat} (hx : Rt w b0 A0 n0 c0 B0 m0 d0 x0) (s0 : Sz x0 20) {j : Int} (h0 : 0 ≤ j) (h1 : j ≤ 500) (hg : BoxR w g b0 A0 n0 c0 B0 m0 d0) (hs : ¬ x0.num < 0) (ht : fars (x0.num.natAbs * 2 ^ j.toNat) x0.den = false) :
    Calls Try.prog 83 #[.agg #[.bool b0, .slice A0 n0 c0, .slice B0 m0 d0], .int .i64 j, .func (.func 84) #[] #[.pointer (some ⟨g, 0, none⟩)]] w (GotZp w (nea x0 j.toNat) 0) := by
  have je := to_nat h0
  have jl : j.toNat ≤ 500 := by omega
  have hj2 : j ≤ 2000 := by omega
  obtain ⟨k, hk⟩ : ∃ k, j.toNat = k := ⟨_, rfl⟩
  rw [hk] at je jl ht ⊢
  have lk := len_pow2 jl
  have p0 := hx.1.1
  have q0 := hx.2
  have hb0 : b0 = false := by rw [hx.1.2]; exact decide_eq_false hs
  subst hb0
  have lp := s0.1
  have lq := s0.2
  have hq0 := x0.den_nz
  have lu : (limbs (x0.num.natAbs * 2 ^ k)).length ≤ 28 := limbs_length_mul lp lk
  have ld : (limbs (x0.num.natAbs * 2 ^ k / x0.den)).length ≤ 28 := Nat.le_trans (limbs_length_mono (Nat.div_le_self _ _)) lu
  have hlt := Nat.mod_lt (x0.num.natAbs * 2 ^ k) (Nat.pos_of_ne_zero hq0)
  have lr : (limbs (x0.num.natAbs * 2 ^ k % x0.den)).length ≤ 20 := Nat.le_trans (limbs_length_mono (Nat.le_of_lt hlt)) lq
  clear hlt
  have HF : nea x0 k = (((x0.num.natAbs * 2 ^ k / x0.den : Nat) : Nat) : Int) := by rw [nea_pos x0 k hs, if_neg (by rw [ht]; decide), Nat.add_zero]
  have CK : ∀ {W : World} {A B : Option Addr} {n c m d : Nat}, W.cell? ⟨g, 0, none⟩ = some (.bool false) → W.cell? ⟨g, 1, none⟩ = some (.slice A0 n0 c0) → W.cell? ⟨g, 2, none⟩ = some (.slice B0 m0 d0) → Num W A n c (x0.num.natAbs * 2 ^ k / x0.den) → Num W B m d (x0.num.natAbs * 2 ^ k % x0.den) → Num W B0 m0 d0 x0.den → Calls Try.prog 84 #[.slice A n c, .slice B m d, .pointer (some ⟨g, 0, none⟩)] W (GotV W (.bool false)) := fun r0 r1 r2 ha hb hq => by rw [← ht]; exact knear_N r0 r1 r2 ha hb hq (by omega) (by omega)
  obtain ⟨u, hU⟩ : ∃ u, x0.num.natAbs * 2 ^ k = u := ⟨_, rfl⟩
  obtain ⟨t, hT⟩ : ∃ t, x0.num.natAbs * 2 ^ k / x0.den = t := ⟨_, rfl⟩
  obtain ⟨l, hL⟩ : ∃ l, x0.num.natAbs * 2 ^ k % x0.den = l := ⟨_, rfl⟩
  rw [hT, hL] at CK
  rw [hT] at HF ld
  rw [hL] at lr
  rw [hU] at lu hT hL
  have CU : ∀ {W : World} {A : Option Addr} {m c : Nat}, Num W A m c x0.num.natAbs → Calls Try.prog 92 #[.slice A m c, .int .i64 j] W (GotP W u 0) := fun ha => by rw [← je, ← hU]; exact dshl_N ha (by omega) (by omega)
  have CD : ∀ {W : World} {A B : Option Addr} {n c m d : Nat}, Num W A n c u → Num W B m d x0.den → Calls Try.prog 39 #[.slice A n c, .slice B m d] W (GotD W t l) := fun ha hb => by rw [← hT, ← hL]; exact ddiv_N ha hb (by omega) (by omega) hq0
  have HV := Lib.hid HF
  clear HF hU hT hL hs ht lu
  obtain ⟨r0, r1, r2⟩ := hg
  have rl := cell_lt r0
  simp only at rl
  have cc := Below.refl w.heap.size w
  go_enter Try.func83, Try.ntmps83
  go_wp2_with fail
  generalize hv_ : (w.alloc (.cells #[.bool false, .slice A0 n0 c0, .slice B0 m0 d0] 72)).alloc (.cells #[.bool false, .slice none 0 0] 63) = v1
  obtain ⟨f0, f1⟩ : Fz2 v1 (w.heap.size + 1) := by simp [Fz2, ← hv_, go_sem]
  have bA : Below w.heap.size w v1 := by rw [← hv_]; exact (((Below.refl _ w).alloc (by simp) _).alloc (by simp) _)
  replace p0 := p0.on bA
  replace q0 := q0.on bA
  rewrite [cR bA rl] at r0 r1 r2
  replace rl := lK bA rl
  replace cc := bK cc bA
  clear bA
  obtain ⟨k0, k1, k2⟩ : Cs3 v1 w.heap.size (.bool false) (.slice A0 n0 c0) (.slice B0 m0 d0) := by simp [Cs3, ← hv_, go_sem]
  have kl : w.heap.size < v1.heap.size := by simp [← hv_] <;> omega
  obtain ⟨g0, g1⟩ : Cs2 v1 (w.heap.size + 1) (.bool false) (.slice none 0 0) := by simp [Cs2, ← hv_, go_sem]
  have gl : w.heap.size + 1 < v1.heap.size := by simp [← hv_] <;> omega
  clear hv_
  refine (isgrid_2 _ h0 hj2).mono ?_
  rintro e w2 ⟨rfl, b⟩
  rewrite [fR b gl] at f0 f1
  replace p0 := p0.on b
  replace q0 := q0.on b
  rewrite [cR b rl] at r0 r1 r2
  replace rl := lK b rl
  rewrite [cR b kl] at k0 k1 k2
  replace kl := lK b kl
  rewrite [cR b gl] at g0 g1
  replace gl := lK b gl
  replace cc := bK cc b
  clear b
  go_wp2_with fail
  refine (CU p0).mono ?_
  rintro e w3 ⟨Av, nv, cv, rfl, v, b⟩
  rewrite [fR b gl] at f0 f1
  replace p0 := p0.on b
  replace q0 := q0.on b
  rewrite [cR b rl] at r0 r1 r2
  replace rl := lK b rl
  rewrite [cR b kl] at k0 k1 k2
  replace kl := lK b kl
  rewrite [cR b gl] at g0 g1
  replace gl := lK b gl
  replace cc := bK cc b
  clear b
  go_wp2_with fail
  refine (CD v q0).mono ?_
  rintro e w4 ⟨Aq, nq, cq, Ar, nr_, cr, rfl, dq, dr, b⟩
  rewrite [fR b gl] at f0 f1
  replace p0 := p0.on b
  replace q0 := q0.on b
  replace v := v.on b
  rewrite [cR b rl] at r0 r1 r2
  replace rl := lK b rl
  rewrite [cR b kl] at k0 k1 k2
  replace kl := lK b kl
  rewrite [cR b gl] at g0 g1
  replace gl := lK b gl
  replace cc := bK cc b
  clear b
  go_wp2_with fail
  refine (CK r0 r1 r2 dq dr q0).mono ?_
  rintro e w5 ⟨rfl, b⟩
  rewrite [fR b gl] at f0 f1
  replace p0 := p0.on b
  replace q0 := q0.on b
  replace v := v.on b
  replace dq := dq.on b
  replace dr := dr.on b
  rewrite [cR b rl] at r0 r1 r2
  replace rl := lK b rl
  rewrite [cR b kl] at k0 k1 k2
  replace kl := lK b kl
  rewrite [cR b gl] at g0 g1
  replace gl := lK b gl
  replace cc := bK cc b
  clear b
  have hn : Zn w5 false Aq nq cq (nea x0 k) := by rw [HV.out]; exact zn_nat dq
  have eb : Box w5 (w.heap.size + 1) false none 0 0 := ⟨g0, g1⟩
  have HZ : Hid (Zn ((w5.setCell ⟨w.heap.size + 1, 0, none⟩ (.bool false)).setCell ⟨w.heap.size + 1, 1, none⟩ (.slice Aq nq cq)) false Aq nq cq (nea x0 k)) := Lib.hid (hn.put eb _ _)
  clear hn
  go_wp2_with fail
  refine bodyPost_ret (v := .tuple #[.agg #[.bool false, .slice Aq nq cq], .int .i64 0]) (by simp [results, Try.results83, go_sem, g0, g1]) rfl ⟨_, _, _, _, rfl, HZ.out, below_put cc (by omega) _ _⟩

theorem rdnea_ft {w : World} {b0 : Bool} {A0 B0 : Option Addr} {n0 c0 m0 d0 : Nat} {g : Nat} {x0 : Rat} (hx : Rt w b0 A0 n0 c0 B0 m0 d0 x0) (s0 : Sz x0 20) {j : Int} (h0 : 0 ≤ j) (h1 : j ≤ 500) (hg : BoxR w g b0 A0 n0 c0 B0 m0 d0) (hs : ¬ x0.num < 0) (ht : fars (x0.num.natAbs * 2 ^ j.toNat) x0.den = true) :
    Calls Try.prog 83 #[.agg #[.bool b0, .slice A0 n0 c0, .slice B0 m0 d0], .int .i64 j, .func (.func 84) #[] #[.pointer (some ⟨g, 0, none⟩)]] w (GotZp w (nea x0 j.toNat) 0) := by
  have je := to_nat h0
  have jl : j.toNat ≤ 500 := by omega
  have hj2 : j ≤ 2000 := by omega
  obtain ⟨k, hk⟩ : ∃ k, j.toNat = k := ⟨_, rfl⟩
  rw [hk] at je jl ht ⊢
  have lk := len_pow2 jl
  have p0 := hx.1.1
  have q0 := hx.2
  have hb0 : b0 = false := by rw [hx.1.2]; exact decide_eq_false hs
  subst hb0
  have lp := s0.1
  have lq := s0.2
  have hq0 := x0.den_nz
  have lu : (limbs (x0.num.natAbs * 2 ^ k)).length ≤ 28 := limbs_length_mul lp lk
  have ld : (limbs (x0.num.natAbs * 2 ^ k / x0.den)).length ≤ 28 := Nat.le_trans (limbs_length_mono (Nat.div_le_self _ _)) lu
  have hlt := Nat.mod_lt (x0.num.natAbs * 2 ^ k) (Nat.pos_of_ne_zero hq0)
  have lr : (limbs (x0.num.natAbs * 2 ^ k % x0.den)).length ≤ 20 := Nat.le_trans (limbs_length_mono (Nat.le_of_lt hlt)) lq
  clear hlt
  have HF : nea x0 k = (((x0.num.natAbs * 2 ^ k / x0.den + 1 : Nat) : Nat) : Int) := by rw [nea_pos x0 k hs, if_pos ht]
  have CK : ∀ {W : World} {A B : Option Addr} {n c m d : Nat}, W.cell? ⟨g, 0, none⟩ = some (.bool false) → W.cell? ⟨g, 1, none⟩ = some (.slice A0 n0 c0) → W.cell? ⟨g, 2, none⟩ = some (.slice B0 m0 d0) → Num W A n c (x0.num.natAbs * 2 ^ k / x0.den) → Num W B m d (x0.num.natAbs * 2 ^ k % x0.den) → Num W B0 m0 d0 x0.den → Calls Try.prog 84 #[.slice A n c, .slice B m d, .pointer (some ⟨g, 0, none⟩)] W (GotV W (.bool true)) := fun r0 r1 r2 ha hb hq => by rw [← ht]; exact knear_N r0 r1 r2 ha hb hq (by omega) (by omega)
  obtain ⟨u, hU⟩ : ∃ u, x0.num.natAbs * 2 ^ k = u := ⟨_, rfl⟩
  obtain ⟨t, hT⟩ : ∃ t, x0.num.natAbs * 2 ^ k / x0.den = t := ⟨_, rfl⟩
  obtain ⟨l, hL⟩ : ∃ l, x0.num.natAbs * 2 ^ k % x0.den = l := ⟨_, rfl⟩
  rw [hT, hL] at CK
  rw [hT] at HF ld
  rw [hL] at lr
  rw [hU] at lu hT hL
  have CU : ∀ {W : World} {A : Option Addr} {m c : Nat}, Num W A m c x0.num.natAbs → Calls Try.prog 92 #[.slice A m c, .int .i64 j] W (GotP W u 0) := fun ha => by rw [← je, ← hU]; exact dshl_N ha (by omega) (by omega)
  have CD : ∀ {W : World} {A B : Option Addr} {n c m d : Nat}, Num W A n c u → Num W B m d x0.den → Calls Try.prog 39 #[.slice A n c, .slice B m d] W (GotD W t l) := fun ha hb => by rw [← hT, ← hL]; exact ddiv_N ha hb (by omega) (by omega) hq0
  have HV := Lib.hid HF
  clear HF hU hT hL hs ht lu
  have la : (limbs (t + 1)).length ≤ 29 := limbs_length_add ld (Nat.le_trans (len_one (by decide)) (by omega))
  have l1 : (limbs 1).length ≤ 1000 := Nat.le_trans (len_one (by decide)) (by omega)
  obtain ⟨r0, r1, r2⟩ := hg
  have rl := cell_lt r0
  simp only at rl
  have cc := Below.refl w.heap.size w
  go_enter Try.func83, Try.ntmps83
  go_wp2_with fail
  generalize hv_ : (w.alloc (.cells #[.bool false, .slice A0 n0 c0, .slice B0 m0 d0] 72)).alloc (.cells #[.bool false, .slice none 0 0] 63) = v1
  obtain ⟨f0, f1⟩ : Fz2 v1 (w.heap.size + 1) := by simp [Fz2, ← hv_, go_sem]
  have bA : Below w.heap.size w v1 := by rw [← hv_]; exact (((Below.refl _ w).alloc (by simp) _).alloc (by simp) _)
  replace p0 := p0.on bA
  replace q0 := q0.on bA
  rewrite [cR bA rl] at r0 r1 r2
  replace rl := lK bA rl
  replace cc := bK cc bA
  clear bA
  obtain ⟨k0, k1, k2⟩ : Cs3 v1 w.heap.size (.bool false) (.slice A0 n0 c0) (.slice B0 m0 d0) := by simp [Cs3, ← hv_, go_sem]
  have kl : w.heap.size < v1.heap.size := by simp [← hv_] <;> omega
  obtain ⟨g0, g1⟩ : Cs2 v1 (w.heap.size + 1) (.bool false) (.slice none 0 0) := by simp [Cs2, ← hv_, go_sem]
  have gl : w.heap.size + 1 < v1.heap.size := by simp [← hv_] <;> omega
  clear hv_
  refine (isgrid_2 _ h0 hj2).mono ?_
  rintro e w2 ⟨rfl, b⟩
  rewrite [fR b gl] at f0 f1
  replace p0 := p0.on b
  replace q0 := q0.on b
  rewrite [cR b rl] at r0 r1 r2
  replace rl := lK b rl
  rewrite [cR b kl] at k0 k1 k2
  replace kl := lK b kl
  rewrite [cR b gl] at g0 g1
  replace gl := lK b gl
  replace cc := bK cc b
  clear b
  go_wp2_with fail
  refine (CU p0).mono ?_
  rintro e w3 ⟨Av, nv, cv, rfl, v, b⟩
  rewrite [fR b gl] at f0 f1
  replace p0 := p0.on b
  replace q0 := q0.on b
  rewrite [cR b rl] at r0 r1 r2
  replace rl := lK b rl
  rewrite [cR b kl] at k0 k1 k2
  replace kl := lK b kl
  rewrite [cR b gl] at g0 g1
  replace gl := lK b gl
  replace cc := bK cc b
  clear b
  go_wp2_with fail
  refine (CD v q0).mono ?_
  rintro e w4 ⟨Aq, nq, cq, Ar, nr_, cr, rfl, dq, dr, b⟩
  rewrite [fR b gl] at f0 f1
  replace p0 := p0.on b
  replace q0 := q0.on b
  replace v := v.on b
  rewrite [cR b rl] at r0 r1 r2
  replace rl := lK b rl
  rewrite [cR b kl] at k0 k1 k2
  replace kl := lK b kl
  rewrite [cR b gl] at g0 g1
  replace gl := lK b gl
  replace cc := bK cc b
  clear b
  go_wp2_with fail
  refine (CK r0 r1 r2 dq dr q0).mono ?_
  rintro e w5 ⟨rfl, b⟩
  rewrite [fR b gl] at f0 f1
  replace p0 := p0.on b
  replace q0 := q0.on b
  replace v := v.on b
  replace dq := dq.on b
  replace dr := dr.on b
  rewrite [cR b rl] at r0 r1 r2
  replace rl := lK b rl
  rewrite [cR b kl] at k0 k1 k2
  replace kl := lK b kl
  rewrite [cR b gl] at g0 g1
  replace gl := lK b gl
  replace cc := bK cc b
  clear b
  go_wp2_with fail
  refine (of_N _ 1 (by decide)).mono ?_
  rintro e w6 ⟨Ao, no, co, rfl, o, b⟩
  rewrite [fR b gl] at f0 f1
  replace p0 := p0.on b
  replace q0 := q0.on b
  replace v := v.on b
  replace dq := dq.on b
  replace dr := dr.on b
  rewrite [cR b rl] at r0 r1 r2
  replace rl := lK b rl
  rewrite [cR b kl] at k0 k1 k2
  replace kl := lK b kl
  rewrite [cR b gl] at g0 g1
  replace gl := lK b gl
  replace cc := bK cc b
  clear b
  go_wp2_with fail
  refine (add_N dq o (by omega) (by omega)).mono ?_
  rintro e w7 ⟨Aa, na, ca, rfl, a, b⟩
  rewrite [fR b gl] at f0 f1
  replace p0 := p0.on b
  replace q0 := q0.on b
  replace v := v.on b
  replace dq := dq.on b
  replace dr := dr.on b
  replace o := o.on b
  rewrite [cR b rl] at r0 r1 r2
  replace rl := lK b rl
  rewrite [cR b kl] at k0 k1 k2
  replace kl := lK b kl
  rewrite [cR b gl] at g0 g1
  replace gl := lK b gl
  replace cc := bK cc b
  clear b
  have hn : Zn w7 false Aa na ca (nea x0 k) := by rw [HV.out]; exact zn_nat a
  have eb : Box w7 (w.heap.size + 1) false none 0 0 := ⟨g0, g1⟩
  have HZ : Hid (Zn ((w7.setCell ⟨w.heap.size + 1, 0, none⟩ (.bool false)).setCell ⟨w.heap.size + 1, 1, none⟩ (.slice Aa na ca)) false Aa na ca (nea x0 k)) := Lib.hid (hn.put eb _ _)
  clear hn
  go_wp2_with fail
  refine bodyPost_ret (v := .tuple #[.agg #[.bool false, .slice Aa na ca], .int .i64 0]) (by simp [results, Try.results83, go_sem, g0, g1]) rfl ⟨_, _, _, _, rfl, HZ.out, below_put cc (by omega) _ _⟩

theorem rdnea_tf0 {w : World} {b0 : Bool} {A0 B0 : Option Addr} {n0 c0 m0 d0 : Nat} {g : Nat} {x0 : Rat} (hx : Rt w b0 A0 n0 c0 B0 m0 d0 x0) (s0 : Sz x0 20) {j : Int} (h0 : 0 ≤ j) (h1 : j ≤ 500) (hg : BoxR w g b0 A0 n0 c0 B0 m0 d0) (hs : x0.num < 0) (ht : fars (x0.num.natAbs * 2 ^ j.toNat) x0.den = false) (hz : x0.num.natAbs * 2 ^ j.toNat / x0.den = 0) :
    Calls Try.prog 83 #[.agg #[.bool b0, .slice A0 n0 c0, .slice B0 m0 d0], .int .i64 j, .func (.func 84) #[] #[.pointer (some ⟨g, 0, none⟩)]] w (GotZp w (nea x0 j.toNat) 0) := by
  have je := to_nat h0
  have jl : j.toNat ≤ 500 := by omega
  have hj2 : j ≤ 2000 := by omega
  obtain ⟨k, hk⟩ : ∃ k, j.toNat = k := ⟨_, rfl⟩
  rw [hk] at je jl ht hz ⊢
  have lk := len_pow2 jl
  have p0 := hx.1.1
  have q0 := hx.2
  have hb0 : b0 = true := by rw [hx.1.2]; exact decide_eq_true hs
  subst hb0
  have lp := s0.1
  have lq := s0.2
  have hq0 := x0.den_nz
  have lu : (limbs (x0.num.natAbs * 2 ^ k)).length ≤ 28 := limbs_length_mul lp lk
  have ld : (limbs (x0.num.natAbs * 2 ^ k / x0.den)).length ≤ 28 := Nat.le_trans (limbs_length_mono (Nat.div_le_self _ _)) lu
  have hlt := Nat.mod_lt (x0.num.natAbs * 2 ^ k) (Nat.pos_of_ne_zero hq0)
  have lr : (limbs (x0.num.natAbs * 2 ^ k % x0.den)).length ≤ 20 := Nat.le_trans (limbs_length_mono (Nat.le_of_lt hlt)) lq
  clear hlt
  have HF : nea x0 k = -(((x0.num.natAbs * 2 ^ k / x0.den : Nat) : Nat) : Int) := by rw [nea_less x0 k hs, if_neg (by rw [ht]; decide), Nat.add_zero]
  have CK : ∀ {W : World} {A B : Option Addr} {n c m d : Nat}, W.cell? ⟨g, 0, none⟩ = some (.bool true) → W.cell? ⟨g, 1, none⟩ = some (.slice A0 n0 c0) → W.cell? ⟨g, 2, none⟩ = some (.slice B0 m0 d0) → Num W A n c (x0.num.natAbs * 2 ^ k / x0.den) → Num W B m d (x0.num.natAbs * 2 ^ k % x0.den) → Num W B0 m0 d0 x0.den → Calls Try.prog 84 #[.slice A n c, .slice B m d, .pointer (some ⟨g, 0, none⟩)] W (GotV W (.bool false)) := fun r0 r1 r2 ha hb hq => by rw [← ht]; exact knear_N r0 r1 r2 ha hb hq (by omega) (by omega)
  obtain ⟨u, hU⟩ : ∃ u, x0.num.natAbs * 2 ^ k = u := ⟨_, rfl⟩
  obtain ⟨t, hT⟩ : ∃ t, x0.num.natAbs * 2 ^ k / x0.den = t := ⟨_, rfl⟩
  obtain ⟨l, hL⟩ : ∃ l, x0.num.natAbs * 2 ^ k % x0.den = l := ⟨_, rfl⟩
  rw [hT, hL] at CK
  rw [hT] at HF ld hz
  rw [hL] at lr
  rw [hU] at lu hT hL
  have CU : ∀ {W : World} {A : Option Addr} {m c : Nat}, Num W A m c x0.num.natAbs → Calls Try.prog 92 #[.slice A m c, .int .i64 j] W (GotP W u 0) := fun ha => by rw [← je, ← hU]; exact dshl_N ha (by omega) (by omega)
  have CD : ∀ {W : World} {A B : Option Addr} {n c m d : Nat}, Num W A n c u → Num W B m d x0.den → Calls Try.prog 39 #[.slice A n c, .slice B m d] W (GotD W t l) := fun ha hb => by rw [← hT, ← hL]; exact ddiv_N ha hb (by omega) (by omega) hq0
  subst hz
  have HV := Lib.hid HF
  clear HF hU hT hL hs ht lu
  obtain ⟨r0, r1, r2⟩ := hg
  have rl := cell_lt r0
  simp only at rl
  have cc := Below.refl w.heap.size w
  go_enter Try.func83, Try.ntmps83
  go_wp2_with fail
  generalize hv_ : (w.alloc (.cells #[.bool true, .slice A0 n0 c0, .slice B0 m0 d0] 72)).alloc (.cells #[.bool false, .slice none 0 0] 63) = v1
  obtain ⟨f0, f1⟩ : Fz2 v1 (w.heap.size + 1) := by simp [Fz2, ← hv_, go_sem]
  have bA : Below w.heap.size w v1 := by rw [← hv_]; exact (((Below.refl _ w).alloc (by simp) _).alloc (by simp) _)
  replace p0 := p0.on bA
  replace q0 := q0.on bA
  rewrite [cR bA rl] at r0 r1 r2
  replace rl := lK bA rl
  replace cc := bK cc bA
  clear bA
  obtain ⟨k0, k1, k2⟩ : Cs3 v1 w.heap.size (.bool true) (.slice A0 n0 c0) (.slice B0 m0 d0) := by simp [Cs3, ← hv_, go_sem]
  have kl : w.heap.size < v1.heap.size := by simp [← hv_] <;> omega
  obtain ⟨g0, g1⟩ : Cs2 v1 (w.heap.size + 1) (.bool false) (.slice none 0 0) := by simp [Cs2, ← hv_, go_sem]
  have gl : w.heap.size + 1 < v1.heap.size := by simp [← hv_] <;> omega
  clear hv_
  refine (isgrid_2 _ h0 hj2).mono ?_
  rintro e w2 ⟨rfl, b⟩
  rewrite [fR b gl] at f0 f1
  replace p0 := p0.on b
  replace q0 := q0.on b
  rewrite [cR b rl] at r0 r1 r2
  replace rl := lK b rl
  rewrite [cR b kl] at k0 k1 k2
  replace kl := lK b kl
  rewrite [cR b gl] at g0 g1
  replace gl := lK b gl
  replace cc := bK cc b
  clear b
  go_wp2_with fail
  refine (CU p0).mono ?_
  rintro e w3 ⟨Av, nv, cv, rfl, v, b⟩
  rewrite [fR b gl] at f0 f1
  replace p0 := p0.on b
  replace q0 := q0.on b
  rewrite [cR b rl] at r0 r1 r2
  replace rl := lK b rl
  rewrite [cR b kl] at k0 k1 k2
  replace kl := lK b kl
  rewrite [cR b gl] at g0 g1
  replace gl := lK b gl
  replace cc := bK cc b
  clear b
  go_wp2_with fail
  refine (CD v q0).mono ?_
  rintro e w4 ⟨Aq, nq, cq, Ar, nr_, cr, rfl, dq, dr, b⟩
  rewrite [fR b gl] at f0 f1
  replace p0 := p0.on b
  replace q0 := q0.on b
  replace v := v.on b
  rewrite [cR b rl] at r0 r1 r2
  replace rl := lK b rl
  rewrite [cR b kl] at k0 k1 k2
  replace kl := lK b kl
  rewrite [cR b gl] at g0 g1
  replace gl := lK b gl
  replace cc := bK cc b
  clear b
  go_wp2_with fail
  refine (CK r0 r1 r2 dq dr q0).mono ?_
  rintro e w5 ⟨rfl, b⟩
  rewrite [fR b gl] at f0 f1
  replace p0 := p0.on b
  replace q0 := q0.on b
  replace v := v.on b
  replace dq := dq.on b
  replace dr := dr.on b
  rewrite [cR b rl] at r0 r1 r2
  replace rl := lK b rl
  rewrite [cR b kl] at k0 k1 k2
  replace kl := lK b kl
  rewrite [cR b gl] at g0 g1
  replace gl := lK b gl
  replace cc := bK cc b
  clear b
  have hn0 := num_void dq rfl
  subst hn0
  have hn : Zn w5 false Aq 0 cq (nea x0 k) := by rw [HV.out]; exact zn_nat dq
  have eb : Box w5 (w.heap.size + 1) false none 0 0 := ⟨g0, g1⟩
  have HZ : Hid (Zn ((w5.setCell ⟨w.heap.size + 1, 0, none⟩ (.bool false)).setCell ⟨w.heap.size + 1, 1, none⟩ (.slice Aq 0 cq)) false Aq 0 cq (nea x0 k)) := Lib.hid (hn.put eb _ _)
  clear hn
  go_wp2_with fail
  refine bodyPost_ret (v := .tuple #[.agg #[.bool false, .slice Aq 0 cq], .int .i64 0]) (by simp [results, Try.results83, go_sem, g0, g1]) rfl ⟨_, _, _, _, rfl, HZ.out, below_put cc (by omega) _ _⟩

theorem rdnea_tf1 {w : World} {b0 : Bool} {A0 B0 : Option Addr} {n0 c0 m0 d0 : Nat} {g : Nat} {x0 : Rat} (hx : Rt w b0 A0 n0 c0 B0 m0 d0 x0) (s0 : Sz x0 20) {j : Int} (h0 : 0 ≤ j) (h1 : j ≤ 500) (hg : BoxR w g b0 A0 n0 c0 B0 m0 d0) (hs : x0.num < 0) (ht : fars (x0.num.natAbs * 2 ^ j.toNat) x0.den = false) (hz : x0.num.natAbs * 2 ^ j.toNat / x0.den ≠ 0) :
    Calls Try.prog 83 #[.agg #[.bool b0, .slice A0 n0 c0, .slice B0 m0 d0], .int .i64 j, .func (.func 84) #[] #[.pointer (some ⟨g, 0, none⟩)]] w (GotZp w (nea x0 j.toNat) 0) := by
  have je := to_nat h0
  have jl : j.toNat ≤ 500 := by omega
  have hj2 : j ≤ 2000 := by omega
  obtain ⟨k, hk⟩ : ∃ k, j.toNat = k := ⟨_, rfl⟩
  rw [hk] at je jl ht hz ⊢
  have lk := len_pow2 jl
  have p0 := hx.1.1
  have q0 := hx.2
  have hb0 : b0 = true := by rw [hx.1.2]; exact decide_eq_true hs
  subst hb0
  have lp := s0.1
  have lq := s0.2
  have hq0 := x0.den_nz
  have lu : (limbs (x0.num.natAbs * 2 ^ k)).length ≤ 28 := limbs_length_mul lp lk
  have ld : (limbs (x0.num.natAbs * 2 ^ k / x0.den)).length ≤ 28 := Nat.le_trans (limbs_length_mono (Nat.div_le_self _ _)) lu
  have hlt := Nat.mod_lt (x0.num.natAbs * 2 ^ k) (Nat.pos_of_ne_zero hq0)
  have lr : (limbs (x0.num.natAbs * 2 ^ k % x0.den)).length ≤ 20 := Nat.le_trans (limbs_length_mono (Nat.le_of_lt hlt)) lq
  clear hlt
  have HF : nea x0 k = -(((x0.num.natAbs * 2 ^ k / x0.den : Nat) : Nat) : Int) := by rw [nea_less x0 k hs, if_neg (by rw [ht]; decide), Nat.add_zero]
  have CK : ∀ {W : World} {A B : Option Addr} {n c m d : Nat}, W.cell? ⟨g, 0, none⟩ = some (.bool true) → W.cell? ⟨g, 1, none⟩ = some (.slice A0 n0 c0) → W.cell? ⟨g, 2, none⟩ = some (.slice B0 m0 d0) → Num W A n c (x0.num.natAbs * 2 ^ k / x0.den) → Num W B m d (x0.num.natAbs * 2 ^ k % x0.den) → Num W B0 m0 d0 x0.den → Calls Try.prog 84 #[.slice A n c, .slice B m d, .pointer (some ⟨g, 0, none⟩)] W (GotV W (.bool false)) := fun r0 r1 r2 ha hb hq => by rw [← ht]; exact knear_N r0 r1 r2 ha hb hq (by omega) (by omega)
  obtain ⟨u, hU⟩ : ∃ u, x0.num.natAbs * 2 ^ k = u := ⟨_, rfl⟩
  obtain ⟨t, hT⟩ : ∃ t, x0.num.natAbs * 2 ^ k / x0.den = t := ⟨_, rfl⟩
  obtain ⟨l, hL⟩ : ∃ l, x0.num.natAbs * 2 ^ k % x0.den = l := ⟨_, rfl⟩
  rw [hT, hL] at CK
  rw [hT] at HF ld hz
  rw [hL] at lr
  rw [hU] at lu hT hL
  have CU : ∀ {W : World} {A : Option Addr} {m c : Nat}, Num W A m c x0.num.natAbs → Calls Try.prog 92 #[.slice A m c, .int .i64 j] W (GotP W u 0) := fun ha => by rw [← je, ← hU]; exact dshl_N ha (by omega) (by omega)
  have CD : ∀ {W : World} {A B : Option Addr} {n c m d : Nat}, Num W A n c u → Num W B m d x0.den → Calls Try.prog 39 #[.slice A n c, .slice B m d] W (GotD W t l) := fun ha hb => by rw [← hT, ← hL]; exact ddiv_N ha hb (by omega) (by omega) hq0
  have HV := Lib.hid HF
  clear HF hU hT hL hs ht lu
  have HT0 := Lib.hid hz
  clear hz
  obtain ⟨r0, r1, r2⟩ := hg
  have rl := cell_lt r0
  simp only at rl
  have cc := Below.refl w.heap.size w
  go_enter Try.func83, Try.ntmps83
  go_wp2_with fail
  generalize hv_ : (w.alloc (.cells #[.bool true, .slice A0 n0 c0, .slice B0 m0 d0] 72)).alloc (.cells #[.bool false, .slice none 0 0] 63) = v1
  obtain ⟨f0, f1⟩ : Fz2 v1 (w.heap.size + 1) := by simp [Fz2, ← hv_, go_sem]
  have bA : Below w.heap.size w v1 := by rw [← hv_]; exact (((Below.refl _ w).alloc (by simp) _).alloc (by simp) _)
  replace p0 := p0.on bA
  replace q0 := q0.on bA
  rewrite [cR bA rl] at r0 r1 r2
  replace rl := lK bA rl
  replace cc := bK cc bA
  clear bA
  obtain ⟨k0, k1, k2⟩ : Cs3 v1 w.heap.size (.bool true) (.slice A0 n0 c0) (.slice B0 m0 d0) := by simp [Cs3, ← hv_, go_sem]
  have kl : w.heap.size < v1.heap.size := by simp [← hv_] <;> omega
  obtain ⟨g0, g1⟩ : Cs2 v1 (w.heap.size + 1) (.bool false) (.slice none 0 0) := by simp [Cs2, ← hv_, go_sem]
  have gl : w.heap.size + 1 < v1.heap.size := by simp [← hv_] <;> omega
  clear hv_
  refine (isgrid_2 _ h0 hj2).mono ?_
  rintro e w2 ⟨rfl, b⟩
  rewrite [fR b gl] at f0 f1
  replace p0 := p0.on b
  replace q0 := q0.on b
  rewrite [cR b rl] at r0 r1 r2
  replace rl := lK b rl
  rewrite [cR b kl] at k0 k1 k2
  replace kl := lK b kl
  rewrite [cR b gl] at g0 g1
  replace gl := lK b gl
  replace cc := bK cc b
  clear b
  go_wp2_with fail
  refine (CU p0).mono ?_
  rintro e w3 ⟨Av, nv, cv, rfl, v, b⟩
  rewrite [fR b gl] at f0 f1
  replace p0 := p0.on b
  replace q0 := q0.on b
  rewrite [cR b rl] at r0 r1 r2
  replace rl := lK b rl
  rewrite [cR b kl] at k0 k1 k2
  replace kl := lK b kl
  rewrite [cR b gl] at g0 g1
  replace gl := lK b gl
  replace cc := bK cc b
  clear b
  go_wp2_with fail
  refine (CD v q0).mono ?_
  rintro e w4 ⟨Aq, nq, cq, Ar, nr_, cr, rfl, dq, dr, b⟩
  rewrite [fR b gl] at f0 f1
  replace p0 := p0.on b
  replace q0 := q0.on b
  replace v := v.on b
  rewrite [cR b rl] at r0 r1 r2
  replace rl := lK b rl
  rewrite [cR b kl] at k0 k1 k2
  replace kl := lK b kl
  rewrite [cR b gl] at g0 g1
  replace gl := lK b gl
  replace cc := bK cc b
  clear b
  go_wp2_with fail
  refine (CK r0 r1 r2 dq dr q0).mono ?_
  rintro e w5 ⟨rfl, b⟩
  rewrite [fR b gl] at f0 f1
  replace p0 := p0.on b
  replace q0 := q0.on b
  replace v := v.on b
  replace dq := dq.on b
  replace dr := dr.on b
  rewrite [cR b rl] at r0 r1 r2
  replace rl := lK b rl
  rewrite [cR b kl] at k0 k1 k2
  replace kl := lK b kl
  rewrite [cR b gl] at g0 g1
  replace gl := lK b gl
  replace cc := bK cc b
  clear b
  have hn0 : 0 < nq := dq.some_len HT0.out
  have hn1 : decide ((0 : Int) < (nq : Int)) = true := decide_eq_true (by omega)
  have hn2 : decide (0 < nq) = true := decide_eq_true hn0
  have hn : Zn w5 true Aq nq cq (nea x0 k) := by rw [HV.out]; exact zn_minus dq (HT0.out)
  have eb : Box w5 (w.heap.size + 1) false none 0 0 := ⟨g0, g1⟩
  have HZ : Hid (Zn ((w5.setCell ⟨w.heap.size + 1, 0, none⟩ (.bool true)).setCell ⟨w.heap.size + 1, 1, none⟩ (.slice Aq nq cq)) true Aq nq cq (nea x0 k)) := Lib.hid (hn.put eb _ _)
  clear hn
  go_wp2_with fail
  refine bodyPost_ret (v := .tuple #[.agg #[.bool true, .slice Aq nq cq], .int .i64 0]) (by simp [results, Try.results83, go_sem, g0, g1]) rfl ⟨_, _, _, _, rfl, HZ.out, below_put cc (by omega) _ _⟩

theorem rdnea_tt {w : World} {b0 : Bool} {A0 B0 : Option Addr} {n0 c0 m0 d0 : Nat} {g : Nat} {x0 : Rat} (hx : Rt w b0 A0 n0 c0 B0 m0 d0 x0) (s0 : Sz x0 20) {j : Int} (h0 : 0 ≤ j) (h1 : j ≤ 500) (hg : BoxR w g b0 A0 n0 c0 B0 m0 d0) (hs : x0.num < 0) (ht : fars (x0.num.natAbs * 2 ^ j.toNat) x0.den = true) :
    Calls Try.prog 83 #[.agg #[.bool b0, .slice A0 n0 c0, .slice B0 m0 d0], .int .i64 j, .func (.func 84) #[] #[.pointer (some ⟨g, 0, none⟩)]] w (GotZp w (nea x0 j.toNat) 0) := by
  have je := to_nat h0
  have jl : j.toNat ≤ 500 := by omega
  have hj2 : j ≤ 2000 := by omega
  obtain ⟨k, hk⟩ : ∃ k, j.toNat = k := ⟨_, rfl⟩
  rw [hk] at je jl ht ⊢
  have lk := len_pow2 jl
  have p0 := hx.1.1
  have q0 := hx.2
  have hb0 : b0 = true := by rw [hx.1.2]; exact decide_eq_true hs
  subst hb0
  have lp := s0.1
  have lq := s0.2
  have hq0 := x0.den_nz
  have lu : (limbs (x0.num.natAbs * 2 ^ k)).length ≤ 28 := limbs_length_mul lp lk
  have ld : (limbs (x0.num.natAbs * 2 ^ k / x0.den)).length ≤ 28 := Nat.le_trans (limbs_length_mono (Nat.div_le_self _ _)) lu
  have hlt := Nat.mod_lt (x0.num.natAbs * 2 ^ k) (Nat.pos_of_ne_zero hq0)
  have lr : (limbs (x0.num.natAbs * 2 ^ k % x0.den)).length ≤ 20 := Nat.le_trans (limbs_length_mono (Nat.le_of_lt hlt)) lq
  clear hlt
  have HF : nea x0 k = -(((x0.num.natAbs * 2 ^ k / x0.den + 1 : Nat) : Nat) : Int) := by rw [nea_less x0 k hs, if_pos ht]
  have CK : ∀ {W : World} {A B : Option Addr} {n c m d : Nat}, W.cell? ⟨g, 0, none⟩ = some (.bool true) → W.cell? ⟨g, 1, none⟩ = some (.slice A0 n0 c0) → W.cell? ⟨g, 2, none⟩ = some (.slice B0 m0 d0) → Num W A n c (x0.num.natAbs * 2 ^ k / x0.den) → Num W B m d (x0.num.natAbs * 2 ^ k % x0.den) → Num W B0 m0 d0 x0.den → Calls Try.prog 84 #[.slice A n c, .slice B m d, .pointer (some ⟨g, 0, none⟩)] W (GotV W (.bool true)) := fun r0 r1 r2 ha hb hq => by rw [← ht]; exact knear_N r0 r1 r2 ha hb hq (by omega) (by omega)
  obtain ⟨u, hU⟩ : ∃ u, x0.num.natAbs * 2 ^ k = u := ⟨_, rfl⟩
  obtain ⟨t, hT⟩ : ∃ t, x0.num.natAbs * 2 ^ k / x0.den = t := ⟨_, rfl⟩
  obtain ⟨l, hL⟩ : ∃ l, x0.num.natAbs * 2 ^ k % x0.den = l := ⟨_, rfl⟩
  rw [hT, hL] at CK
  rw [hT] at HF ld
  rw [hL] at lr
  rw [hU] at lu hT hL
  have CU : ∀ {W : World} {A : Option Addr} {m c : Nat}, Num W A m c x0.num.natAbs → Calls Try.prog 92 #[.slice A m c, .int .i64 j] W (GotP W u 0) := fun ha => by rw [← je, ← hU]; exact dshl_N ha (by omega) (by omega)
  have CD : ∀ {W : World} {A B : Option Addr} {n c m d : Nat}, Num W A n c u → Num W B m d x0.den → Calls Try.prog 39 #[.slice A n c, .slice B m d] W (GotD W t l) := fun ha hb => by rw [← hT, ← hL]; exact ddiv_N ha hb (by omega) (by omega) hq0
  have HV := Lib.hid HF
  clear HF hU hT hL hs ht lu
  have la : (limbs (t + 1)).length ≤ 29 := limbs_length_add ld (Nat.le_trans (len_one (by decide)) (by omega))
  have l1 : (limbs 1).length ≤ 1000 := Nat.le_trans (len_one (by decide)) (by omega)
  obtain ⟨r0, r1, r2⟩ := hg
  have rl := cell_lt r0
  simp only at rl
  have cc := Below.refl w.heap.size w
  go_enter Try.func83, Try.ntmps83
  go_wp2_with fail
  generalize hv_ : (w.alloc (.cells #[.bool true, .slice A0 n0 c0, .slice B0 m0 d0] 72)).alloc (.cells #[.bool false, .slice none 0 0] 63) = v1
  obtain ⟨f0, f1⟩ : Fz2 v1 (w.heap.size + 1) := by simp [Fz2, ← hv_, go_sem]
  have bA : Below w.heap.size w v1 := by rw [← hv_]; exact (((Below.refl _ w).alloc (by simp) _).alloc (by simp) _)
  replace p0 := p0.on bA
  replace q0 := q0.on bA
  rewrite [cR bA rl] at r0 r1 r2
  replace rl := lK bA rl
  replace cc := bK cc bA
  clear bA
  obtain ⟨k0, k1, k2⟩ : Cs3 v1 w.heap.size (.bool true) (.slice A0 n0 c0) (.slice B0 m0 d0) := by simp [Cs3, ← hv_, go_sem]
  have kl : w.heap.size < v1.heap.size := by simp [← hv_] <;> omega
  obtain ⟨g0, g1⟩ : Cs2 v1 (w.heap.size + 1) (.bool false) (.slice none 0 0) := by simp [Cs2, ← hv_, go_sem]
  have gl : w.heap.size + 1 < v1.heap.size := by simp [← hv_] <;> omega
  clear hv_
  refine (isgrid_2 _ h0 hj2).mono ?_
  rintro e w2 ⟨rfl, b⟩
  rewrite [fR b gl] at f0 f1
  replace p0 := p0.on b
  replace q0 := q0.on b
  rewrite [cR b rl] at r0 r1 r2
  replace rl := lK b rl
  rewrite [cR b kl] at k0 k1 k2
  replace kl := lK b kl
  rewrite [cR b gl] at g0 g1
  replace gl := lK b gl
  replace cc := bK cc b
  clear b
  go_wp2_with fail
  refine (CU p0).mono ?_
  rintro e w3 ⟨Av, nv, cv, rfl, v, b⟩
  rewrite [fR b gl] at f0 f1
  replace p0 := p0.on b
  replace q0 := q0.on b
  rewrite [cR b rl] at r0 r1 r2
  replace rl := lK b rl
  rewrite [cR b kl] at k0 k1 k2
  replace kl := lK b kl
  rewrite [cR b gl] at g0 g1
  replace gl := lK b gl
  replace cc := bK cc b
  clear b
  go_wp2_with fail
  refine (CD v q0).mono ?_
  rintro e w4 ⟨Aq, nq, cq, Ar, nr_, cr, rfl, dq, dr, b⟩
  rewrite [fR b gl] at f0 f1
  replace p0 := p0.on b
  replace q0 := q0.on b
  replace v := v.on b
  rewrite [cR b rl] at r0 r1 r2
  replace rl := lK b rl
  rewrite [cR b kl] at k0 k1 k2
  replace kl := lK b kl
  rewrite [cR b gl] at g0 g1
  replace gl := lK b gl
  replace cc := bK cc b
  clear b
  go_wp2_with fail
  refine (CK r0 r1 r2 dq dr q0).mono ?_
  rintro e w5 ⟨rfl, b⟩
  rewrite [fR b gl] at f0 f1
  replace p0 := p0.on b
  replace q0 := q0.on b
  replace v := v.on b
  replace dq := dq.on b
  replace dr := dr.on b
  rewrite [cR b rl] at r0 r1 r2
  replace rl := lK b rl
  rewrite [cR b kl] at k0 k1 k2
  replace kl := lK b kl
  rewrite [cR b gl] at g0 g1
  replace gl := lK b gl
  replace cc := bK cc b
  clear b
  go_wp2_with fail
  refine (of_N _ 1 (by decide)).mono ?_
  rintro e w6 ⟨Ao, no, co, rfl, o, b⟩
  rewrite [fR b gl] at f0 f1
  replace p0 := p0.on b
  replace q0 := q0.on b
  replace v := v.on b
  replace dq := dq.on b
  replace dr := dr.on b
  rewrite [cR b rl] at r0 r1 r2
  replace rl := lK b rl
  rewrite [cR b kl] at k0 k1 k2
  replace kl := lK b kl
  rewrite [cR b gl] at g0 g1
  replace gl := lK b gl
  replace cc := bK cc b
  clear b
  go_wp2_with fail
  refine (add_N dq o (by omega) (by omega)).mono ?_
  rintro e w7 ⟨Aa, na, ca, rfl, a, b⟩
  rewrite [fR b gl] at f0 f1
  replace p0 := p0.on b
  replace q0 := q0.on b
  replace v := v.on b
  replace dq := dq.on b
  replace dr := dr.on b
  replace o := o.on b
  rewrite [cR b rl] at r0 r1 r2
  replace rl := lK b rl
  rewrite [cR b kl] at k0 k1 k2
  replace kl := lK b kl
  rewrite [cR b gl] at g0 g1
  replace gl := lK b gl
  replace cc := bK cc b
  clear b
  have hn0 : 0 < na := a.some_len (by omega)
  have hn1 : decide ((0 : Int) < (na : Int)) = true := decide_eq_true (by omega)
  have hn2 : decide (0 < na) = true := decide_eq_true hn0
  have hn : Zn w7 true Aa na ca (nea x0 k) := by rw [HV.out]; exact zn_minus a (by omega)
  have eb : Box w7 (w.heap.size + 1) false none 0 0 := ⟨g0, g1⟩
  have HZ : Hid (Zn ((w7.setCell ⟨w.heap.size + 1, 0, none⟩ (.bool true)).setCell ⟨w.heap.size + 1, 1, none⟩ (.slice Aa na ca)) true Aa na ca (nea x0 k)) := Lib.hid (hn.put eb _ _)
  clear hn
  go_wp2_with fail
  refine bodyPost_ret (v := .tuple #[.agg #[.bool true, .slice Aa na ca], .int .i64 0]) (by simp [results, Try.results83, go_sem, g0, g1]) rfl ⟨_, _, _, _, rfl, HZ.out, below_put cc (by omega) _ _⟩

theorem rdnea_N {w : World} {b0 : Bool} {A0 B0 : Option Addr} {n0 c0 m0 d0 : Nat} {g : Nat} {x0 : Rat} (hx : Rt w b0 A0 n0 c0 B0 m0 d0 x0) (s0 : Sz x0 20) {j : Int} (h0 : 0 ≤ j) (h1 : j ≤ 500) (hg : BoxR w g b0 A0 n0 c0 B0 m0 d0) :
    Calls Try.prog 83 #[.agg #[.bool b0, .slice A0 n0 c0, .slice B0 m0 d0], .int .i64 j, .func (.func 84) #[] #[.pointer (some ⟨g, 0, none⟩)]] w (GotZp w (nea x0 j.toNat) 0) := by
  by_cases hs : x0.num < 0
  · cases ht : fars (x0.num.natAbs * 2 ^ j.toNat) x0.den
    · by_cases hz : x0.num.natAbs * 2 ^ j.toNat / x0.den = 0
      · exact rdnea_tf0 hx s0 h0 h1 hg hs ht hz
      · exact rdnea_tf1 hx s0 h0 h1 hg hs ht hz
    · exact rdnea_tt hx s0 h0 h1 hg hs ht
  · cases ht : fars (x0.num.natAbs * 2 ^ j.toNat) x0.den
    · exact rdnea_ff hx s0 h0 h1 hg hs ht
    · exact rdnea_ft hx s0 h0 h1 hg hs ht

theorem rd_no {w : World} {b0 : Bool} {A0 B0 : Option Addr} {n0 c0 m0 d0 : Nat} {fv : Value} {j : Int} (h : j < 0 ∨ 2000 < j) :
    Calls Try.prog 83 #[.agg #[.bool b0, .slice A0 n0 c0, .slice B0 m0 d0], .int .i64 j, fv] w (GotZp w 0 1) := by
  have cc := Below.refl w.heap.size w
  go_enter Try.func83, Try.ntmps83
  go_wp2_with fail
  generalize hv_ : (w.alloc (.cells #[.bool b0, .slice A0 n0 c0, .slice B0 m0 d0] 72)).alloc (.cells #[.bool false, .slice none 0 0] 63) = v1
  obtain ⟨f0, f1⟩ : Fz2 v1 (w.heap.size + 1) := by simp [Fz2, ← hv_, go_sem]
  have bA : Below w.heap.size w v1 := by rw [← hv_]; exact (((Below.refl _ w).alloc (by simp) _).alloc (by simp) _)
  replace cc := bK cc bA
  clear bA
  obtain ⟨k0, k1, k2⟩ : Cs3 v1 w.heap.size (.bool b0) (.slice A0 n0 c0) (.slice B0 m0 d0) := by simp [Cs3, ← hv_, go_sem]
  have kl : w.heap.size < v1.heap.size := by simp [← hv_] <;> omega
  obtain ⟨g0, g1⟩ : Cs2 v1 (w.heap.size + 1) (.bool false) (.slice none 0 0) := by simp [Cs2, ← hv_, go_sem]
  have gl : w.heap.size + 1 < v1.heap.size := by simp [← hv_] <;> omega
  clear hv_
  refine (isgrid_no _ h).mono ?_
  rintro e w2 ⟨rfl, b⟩
  rewrite [fR b gl] at f0 f1
  rewrite [cR b kl] at k0 k1 k2
  replace kl := lK b kl
  rewrite [cR b gl] at g0 g1
  replace gl := lK b gl
  replace cc := bK cc b
  clear b
  have eb : Box w2 (w.heap.size + 1) false none 0 0 := ⟨g0, g1⟩
  have HZ := Lib.hid (Zn.put (zn_none w2) eb (.bool false) (.slice none 0 0))
  go_wp2_with fail
  exact bodyPost_ret (v := .tuple #[.agg #[.bool false, .slice none 0 0], .int .i64 1]) (by simp [results, Try.results83, go_sem, g0, g1]) rfl ⟨_, _, _, _, rfl, HZ.out, below_put cc (by omega) _ _⟩

end Go.Proofs.Ytmaolhajeoigpaa

/-
  The contracts of dyad: Floor, Ceil, Near, Back.
-/
namespace Go.Proofs.Ytmaolhajeoigpaa
set_option maxRecDepth 100000
set_option maxHeartbeats 8000000
open Go.RowKit
set_option linter.unusedVariables false
set_option linter.unusedSimpArgs false





theorem dnear_N {w : World} {b0 : Bool} {A0 B0 : Option Addr} {n0 c0 m0 d0 : Nat} {x0 : Rat} (hx : Rt w b0 A0 n0 c0 B0 m0 d0 x0) (s0 : Sz x0 15) {j : Int} (h0 : 0 ≤ j) (h1 : j ≤ 500) :
    Calls Try.prog 66 #[.agg #[.bool b0, .slice A0 n0 c0, .slice B0 m0 d0], .int .i64 j] w (GotZp w (nea x0 j.toNat) 0) := by
  have cc := Below.refl w.heap.size w
  go_enter Try.func66, Try.ntmps66
  go_wp2_with fail
  generalize hv_ : (w.alloc (.cells #[.bool b0, .slice A0 n0 c0, .slice B0 m0 d0] 72)).alloc (.cells #[.bool false, .slice none 0 0] 63) = v1
  obtain ⟨f0, f1⟩ : Fz2 v1 (w.heap.size + 1) := by simp [Fz2, ← hv_, go_sem]
  have bA : Below w.heap.size w v1 := by rw [← hv_]; exact (((Below.refl _ w).alloc (by simp) _).alloc (by simp) _)
  replace hx := hx.on bA
  replace cc := bK cc bA
  clear bA
  obtain ⟨k0, k1, k2⟩ : Cs3 v1 w.heap.size (.bool b0) (.slice A0 n0 c0) (.slice B0 m0 d0) := by simp [Cs3, ← hv_, go_sem]
  have kl : w.heap.size < v1.heap.size := by simp [← hv_] <;> omega
  obtain ⟨g0, g1⟩ : Cs2 v1 (w.heap.size + 1) (.bool false) (.slice none 0 0) := by simp [Cs2, ← hv_, go_sem]
  have gl : w.heap.size + 1 < v1.heap.size := by simp [← hv_] <;> omega
  clear hv_
  refine (rdnea_N hx (s0.le (by omega)) h0 h1 ⟨k0, k1, k2⟩).mono ?_
  rintro e w2 ⟨bm, Am, nm, cm, rfl, hm, b⟩
  rewrite [fR b gl] at f0 f1
  replace hx := hx.on b
  rewrite [cR b kl] at k0 k1 k2
  replace kl := lK b kl
  rewrite [cR b gl] at g0 g1
  replace gl := lK b gl
  replace cc := bK cc b
  clear b
  have hn : Zn w2 bm Am nm cm (nea x0 j.toNat) := hm
  have eb : Box w2 (w.heap.size + 1) false none 0 0 := ⟨g0, g1⟩
  have HZ : Hid (Zn ((w2.setCell ⟨w.heap.size + 1, 0, none⟩ (.bool bm)).setCell ⟨w.heap.size + 1, 1, none⟩ (.slice Am nm cm)) bm Am nm cm (nea x0 j.toNat)) := Lib.hid (hn.put eb _ _)
  clear hn
  go_wp2_with fail
  refine bodyPost_ret (v := .tuple #[.agg #[.bool bm, .slice Am nm cm], .int .i64 0]) (by simp [results, Try.results66, go_sem, g0, g1]) rfl ⟨_, _, _, _, rfl, HZ.out, below_put cc (by omega) _ _⟩

theorem dnear_no {w : World} {b0 : Bool} {A0 B0 : Option Addr} {n0 c0 m0 d0 : Nat} {x0 : Rat} (hx : Rt w b0 A0 n0 c0 B0 m0 d0 x0) (s0 : Sz x0 15) {j : Int} (h : j < 0 ∨ 2000 < j) :
    Calls Try.prog 66 #[.agg #[.bool b0, .slice A0 n0 c0, .slice B0 m0 d0], .int .i64 j] w (GotZp w 0 1) := by
  have cc := Below.refl w.heap.size w
  go_enter Try.func66, Try.ntmps66
  go_wp2_with fail
  generalize hv_ : (w.alloc (.cells #[.bool b0, .slice A0 n0 c0, .slice B0 m0 d0] 72)).alloc (.cells #[.bool false, .slice none 0 0] 63) = v1
  obtain ⟨f0, f1⟩ : Fz2 v1 (w.heap.size + 1) := by simp [Fz2, ← hv_, go_sem]
  have bA : Below w.heap.size w v1 := by rw [← hv_]; exact (((Below.refl _ w).alloc (by simp) _).alloc (by simp) _)
  replace hx := hx.on bA
  replace cc := bK cc bA
  clear bA
  obtain ⟨k0, k1, k2⟩ : Cs3 v1 w.heap.size (.bool b0) (.slice A0 n0 c0) (.slice B0 m0 d0) := by simp [Cs3, ← hv_, go_sem]
  have kl : w.heap.size < v1.heap.size := by simp [← hv_] <;> omega
  obtain ⟨g0, g1⟩ : Cs2 v1 (w.heap.size + 1) (.bool false) (.slice none 0 0) := by simp [Cs2, ← hv_, go_sem]
  have gl : w.heap.size + 1 < v1.heap.size := by simp [← hv_] <;> omega
  clear hv_
  refine (rd_no h).mono ?_
  rintro e w2 ⟨bm, Am, nm, cm, rfl, hm, b⟩
  rewrite [fR b gl] at f0 f1
  replace hx := hx.on b
  rewrite [cR b kl] at k0 k1 k2
  replace kl := lK b kl
  rewrite [cR b gl] at g0 g1
  replace gl := lK b gl
  replace cc := bK cc b
  clear b
  have hn : Zn w2 bm Am nm cm (0) := hm
  have eb : Box w2 (w.heap.size + 1) false none 0 0 := ⟨g0, g1⟩
  have HZ : Hid (Zn ((w2.setCell ⟨w.heap.size + 1, 0, none⟩ (.bool bm)).setCell ⟨w.heap.size + 1, 1, none⟩ (.slice Am nm cm)) bm Am nm cm (0)) := Lib.hid (hn.put eb _ _)
  clear hn
  go_wp2_with fail
  refine bodyPost_ret (v := .tuple #[.agg #[.bool bm, .slice Am nm cm], .int .i64 1]) (by simp [results, Try.results66, go_sem, g0, g1]) rfl ⟨_, _, _, _, rfl, HZ.out, below_put cc (by omega) _ _⟩



end Go.Proofs.Ytmaolhajeoigpaa

/-
  The contracts of the landed fix: Sqrt, Of, Rat.
-/
namespace Go.Proofs.Ytmaolhajeoigpaa
set_option maxRecDepth 100000
set_option maxHeartbeats 8000000
open Go.RowKit
set_option linter.unusedVariables false
set_option linter.unusedSimpArgs false




theorem fof_N {w : World} {b0 : Bool} {A0 B0 : Option Addr} {n0 c0 m0 d0 : Nat} {x0 : Rat} (h0 : Rt w b0 A0 n0 c0 B0 m0 d0 x0) (s0 : Sz x0 15) {j : Int} (j0 : 0 ≤ j) (j1 : j ≤ 40) :
    Calls Try.prog 47 #[.agg #[.bool b0, .slice A0 n0 c0, .slice B0 m0 d0], .int .i64 j] w (GotV w (.tuple #[.int .i64 (nI (nea x0 j.toNat)), .int .i64 (nE (nea x0 j.toNat))])) := by
  have lz_ := nea_len s0 (show j.toNat ≤ 500 by omega)
  have cc := Below.refl w.heap.size w
  go_enter Try.func47, Try.ntmps47
  go_wp2_with fail
  generalize hv_ : w.alloc (.cells #[.bool b0, .slice A0 n0 c0, .slice B0 m0 d0] 72) = v1
  have bA : Below w.heap.size w v1 := by rw [← hv_]; exact ((Below.refl _ w).alloc (by simp) _)
  replace h0 := h0.on bA
  replace cc := bK cc bA
  clear bA
  obtain ⟨ka0, ka1, ka2⟩ : Cs3 v1 w.heap.size (.bool b0) (.slice A0 n0 c0) (.slice B0 m0 d0) := by simp [Cs3, ← hv_, go_sem]
  have kal : w.heap.size < v1.heap.size := by simp [← hv_] <;> omega
  clear hv_
  refine (isf_2 _ j0 j1).mono ?_
  rintro e w2 ⟨rfl, b⟩
  replace h0 := h0.on b
  rewrite [cR b kal] at ka0 ka1 ka2
  replace kal := lK b kal
  replace cc := bK cc b
  clear b
  go_wp2_with fail
  refine (dnear_N h0 s0 j0 (by omega)).mono ?_
  rintro e w3 ⟨bz, Az, nz, cz, rfl, hz, b⟩
  replace h0 := h0.on b
  rewrite [cR b kal] at ka0 ka1 ka2
  replace kal := lK b kal
  replace cc := bK cc b
  clear b
  go_wp2_with fail
  generalize hv_ : w3.alloc (.cells #[.bool bz, .slice Az nz cz] 63) = v4
  have bA : Below w3.heap.size w3 v4 := by rw [← hv_]; exact below_one _ _
  replace h0 := h0.on bA
  replace hz := hz.on bA
  rewrite [cR bA kal] at ka0 ka1 ka2
  replace kal := lK bA kal
  replace cc := bK cc bA
  clear bA
  obtain ⟨zb0, zb1⟩ : Cs2 v4 w3.heap.size (.bool bz) (.slice Az nz cz) := by simp [Cs2, ← hv_, go_sem]
  have zbl : w3.heap.size < v4.heap.size := by simp [← hv_]
  clear hv_
  refine (mant_N hz (Nat.le_trans lz_ (by omega))).mono ?_
  rintro e w5 ⟨rfl, b⟩
  replace h0 := h0.on b
  replace hz := hz.on b
  rewrite [cR b kal] at ka0 ka1 ka2
  replace kal := lK b kal
  rewrite [cR b zbl] at zb0 zb1
  replace zbl := lK b zbl
  replace cc := bK cc b
  clear b
  go_wp2_with fail
  go_ret2
  exact ⟨rfl, cc⟩

theorem fof_no {w : World} {b0 : Bool} {A0 B0 : Option Addr} {n0 c0 m0 d0 : Nat} {x0 : Rat} (h0 : Rt w b0 A0 n0 c0 B0 m0 d0 x0) (s0 : Sz x0 15) {j : Int} (h : j < 0 ∨ 40 < j) :
    Calls Try.prog 47 #[.agg #[.bool b0, .slice A0 n0 c0, .slice B0 m0 d0], .int .i64 j] w (GotV w (.tuple #[.int .i64 (0), .int .i64 (1)])) := by
  have cc := Below.refl w.heap.size w
  go_enter Try.func47, Try.ntmps47
  go_wp2_with fail
  generalize hv_ : w.alloc (.cells #[.bool b0, .slice A0 n0 c0, .slice B0 m0 d0] 72) = v1
  have bA : Below w.heap.size w v1 := by rw [← hv_]; exact ((Below.refl _ w).alloc (by simp) _)
  replace cc := bK cc bA
  clear bA
  obtain ⟨ka0, ka1, ka2⟩ : Cs3 v1 w.heap.size (.bool b0) (.slice A0 n0 c0) (.slice B0 m0 d0) := by simp [Cs3, ← hv_, go_sem]
  have kal : w.heap.size < v1.heap.size := by simp [← hv_] <;> omega
  clear hv_
  refine (isf_no _ h).mono ?_
  rintro e w2 ⟨rfl, b⟩
  rewrite [cR b kal] at ka0 ka1 ka2
  replace kal := lK b kal
  replace cc := bK cc b
  clear b
  go_wp2_with fail
  go_ret2
  exact ⟨rfl, cc⟩



end Go.Proofs.Ytmaolhajeoigpaa

/-
  The contracts of the landed sched: byPower.
-/
namespace Go.Proofs.Ytmaolhajeoigpaa
set_option maxRecDepth 100000
set_option maxHeartbeats 8000000
open Go.RowKit
set_option linter.unusedVariables false
set_option linter.unusedSimpArgs false

theorem pow_len8 {x : Nat} (hx : (limbs x).length ≤ 1) : ∀ k, (limbs (x ^ k)).length ≤ k + 1
  | 0 => by rw [Nat.pow_zero]; exact Nat.le_trans (len_one (x := 1) (by decide)) (by omega)
  | k + 1 => by rw [Nat.pow_succ]; exact limbs_length_mul (pow_len8 hx k) hx

theorem sPoly_end {w : World} {kd ba ra en wa ev la po t f : Int} (h : la ≤ t) :
    Calls Try.prog 32 #[.agg #[.int .i64 kd, .int .i64 ba, .int .i64 ra, .int .i64 en, .int .i64 wa, .int .i64 ev, .int .i64 la, .int .i64 po], .int .i64 t, .int .i64 f] w (GotV w (.int .i64 (polyR ba en t la po))) := by
  have t0 : decide (la ≤ t) = true := decide_eq_true h
  have e : polyR ba en t la po = en := by unfold polyR; rw [if_pos h]
  rw [e]
  clear h e
  have cc := Below.refl w.heap.size w
  go_enter Try.func32, Try.ntmps32
  go_wp2_with fail
  generalize hv_ : w.alloc (.cells #[.int .i64 kd, .int .i64 ba, .int .i64 ra, .int .i64 en, .int .i64 wa, .int .i64 ev, .int .i64 la, .int .i64 po] 23) = v1
  have bA : Below w.heap.size w v1 := by rw [← hv_]; exact ((Below.refl _ w).alloc (by simp) _)
  replace cc := bK cc bA
  clear bA
  have sc0 : v1.cell? ⟨w.heap.size, 0, none⟩ = some (.int .i64 kd) := by simp [← hv_, go_sem]
  have sc1 : v1.cell? ⟨w.heap.size, 1, none⟩ = some (.int .i64 ba) := by simp [← hv_, go_sem]
  have sc2 : v1.cell? ⟨w.heap.size, 2, none⟩ = some (.int .i64 ra) := by simp [← hv_, go_sem]
  have sc3 : v1.cell? ⟨w.heap.size, 3, none⟩ = some (.int .i64 en) := by simp [← hv_, go_sem]
  have sc4 : v1.cell? ⟨w.heap.size, 4, none⟩ = some (.int .i64 wa) := by simp [← hv_, go_sem]
  have sc5 : v1.cell? ⟨w.heap.size, 5, none⟩ = some (.int .i64 ev) := by simp [← hv_, go_sem]
  have sc6 : v1.cell? ⟨w.heap.size, 6, none⟩ = some (.int .i64 la) := by simp [← hv_, go_sem]
  have sc7 : v1.cell? ⟨w.heap.size, 7, none⟩ = some (.int .i64 po) := by simp [← hv_, go_sem]
  have scl : w.heap.size < v1.heap.size := by simp [← hv_] <;> omega
  clear hv_
  go_wp2_with fail
  go_ret
  exact ⟨rfl, cc⟩

theorem sPoly_main {w : World} {kd ba ra en wa ev la po t f : Int} (h : t < la) (hi : I64 ba) (he : 0 ≤ en) (hb : en ≤ ba) (h1 : 1 ≤ la) (h2 : la ≤ 1000000) (h3 : 1 ≤ t) (h4 : 1 ≤ po) (h5 : po ≤ 8) :
    Calls Try.prog 32 #[.agg #[.int .i64 kd, .int .i64 ba, .int .i64 ra, .int .i64 en, .int .i64 wa, .int .i64 ev, .int .i64 la, .int .i64 po], .int .i64 t, .int .i64 f] w (GotV w (.int .i64 (polyR ba en t la po))) := by
  have t0 : decide (la ≤ t) = false := decide_eq_false (by omega)
  obtain ⟨pn, rfl⟩ : ∃ n : Nat, po = (n : Int) := ⟨po.toNat, by omega⟩
  obtain ⟨ln, rfl⟩ : ∃ n : Nat, la = (n : Int) := ⟨la.toNat, by omega⟩
  obtain ⟨bn, eb⟩ : ∃ b : Nat, (ln : Int) - t = (b : Int) := ⟨((ln : Int) - t).toNat, by omega⟩
  have hin := poly_in (t := t) (po := (pn : Int)) he hb (show 1 ≤ (ln : Int) by omega) (show 0 ≤ t by omega)
  have hP : polyR ba en t (ln : Int) (pn : Int) = en + rn ((ba - en) * ((bn ^ pn : Nat) : Int)) (ln ^ pn) := by unfold polyR; rw [if_neg (by omega), Int.toNat_natCast, Int.toNat_natCast, eb, Int.natCast_pow]
  rw [hP] at hin ⊢
  obtain ⟨a, ea⟩ : ∃ a, ba - en = a := ⟨_, rfl⟩
  have ai : I64 a := by unfold I64 at hi ⊢; omega
  have b64 : bn < B64 := by unfold B64; omega
  have l64 : ln < B64 := by unfold B64; omega
  have k1 : IntKind.i64.wrap (ba - en) = a := by rw [ea]; exact IntWalk.i64_in _ ai
  have k2 : IntKind.i64.wrap ((ln : Int) - t) = (bn : Int) := by rw [eb]; exact IntWalk.i64_in _ (by omega)
  have k3 : IntKind.u64.wrap (bn : Int) = (bn : Int) := by rw [IntKind.wrap_u64]; omega
  have k4 : IntKind.u64.wrap (ln : Int) = (ln : Int) := by rw [IntKind.wrap_u64]; omega
  rw [ea] at hin ⊢
  have la_ := len_one ai.abs
  have lb := len_one b64
  have ll := len_one l64
  have lbp := Nat.le_trans (pow_len8 lb pn) (show pn + 1 ≤ 9 by omega)
  have llp := Nat.le_trans (pow_len8 ll pn) (show pn + 1 ≤ 9 by omega)
  have L0 : ln ^ pn ≠ 0 := Nat.ne_of_gt (Nat.pow_pos (by omega))
  obtain ⟨X, eX⟩ : ∃ X, bn ^ pn = X := ⟨_, rfl⟩
  obtain ⟨Y, eY⟩ : ∃ Y, ln ^ pn = Y := ⟨_, rfl⟩
  have CBp := fun {W : World} {A : Option Addr} {n c : Nat} (h : Num W A n c bn) => pow_N (k := pn) h (Nat.le_trans lb (by omega)) (by omega) (by omega)
  have CLp := fun {W : World} {A : Option Addr} {n c : Nat} (h : Num W A n c ln) => pow_N (k := pn) h (Nat.le_trans ll (by omega)) (by omega) (by omega)
  rw [eX] at CBp lbp hin ⊢
  rw [eY] at CLp llp L0 hin ⊢
  have lx : (limbs (a * (X : Int)).natAbs).length ≤ 10 := by rw [Int.natAbs_mul, Int.natAbs_natCast]; exact Nat.le_trans (limbs_length_mul la_ lbp) (by omega)
  have hS := sz_mk (p := a * (X : Int)) (q := Y) (k := 15) L0 (Nat.le_trans lx (by omega)) (Nat.le_trans llp (by omega))
  have hn : nea (mkRat (a * (X : Int)) Y) 0 = rn (a * (X : Int)) Y := by unfold nea rn; rw [show dw 0 = 1 from rfl, Rat.mul_one]
  obtain ⟨R, eR⟩ : ∃ R, rn (a * (X : Int)) Y = R := ⟨_, rfl⟩
  rw [eR] at hin hn ⊢
  have ri : I64 R := by unfold I64 at hi ⊢; omega
  have k9 : IntKind.i64.wrap (en + R) = en + R := IntWalk.i64_in _ (by unfold I64 at hi; omega)
  have CB := fun W : World => of_N W bn b64
  have CL := fun W : World => of_N W ln l64
  have CA := fun W : World => zof_N W a ai
  have CO := fun {W : World} {b : Bool} {A B : Option Addr} {n c m d : Nat} (h : Rt W b A n c B m d (mkRat (a * (X : Int)) Y)) => fof_N h hS (j := 0) (by omega) (by omega)
  rw [show nea (mkRat (a * (X : Int)) Y) (0 : Int).toNat = R from hn, (nI_yes ri).1, (nI_yes ri).2] at CO
  have HLX := Lib.hid lx
  have HLB := Lib.hid lbp
  have HLL := Lib.hid llp
  have HLA := Lib.hid la_
  have HL0 := Lib.hid L0
  clear h hb he hi h1 h2 h3 h4 h5 hin hP ea eb ai b64 l64 la_ lb ll lbp llp L0 eX eY lx hS hn eR ri
  have cc := Below.refl w.heap.size w
  go_enter Try.func32, Try.ntmps32
  go_wp2_with fail
  generalize hv_ : w.alloc (.cells #[.int .i64 kd, .int .i64 ba, .int .i64 ra, .int .i64 en, .int .i64 wa, .int .i64 ev, .int .i64 (ln : Int), .int .i64 (pn : Int)] 23) = v1
  have bA : Below w.heap.size w v1 := by rw [← hv_]; exact ((Below.refl _ w).alloc (by simp) _)
  replace cc := bK cc bA
  clear bA
  have sc0 : v1.cell? ⟨w.heap.size, 0, none⟩ = some (.int .i64 kd) := by simp [← hv_, go_sem]
  have sc1 : v1.cell? ⟨w.heap.size, 1, none⟩ = some (.int .i64 ba) := by simp [← hv_, go_sem]
  have sc2 : v1.cell? ⟨w.heap.size, 2, none⟩ = some (.int .i64 ra) := by simp [← hv_, go_sem]
  have sc3 : v1.cell? ⟨w.heap.size, 3, none⟩ = some (.int .i64 en) := by simp [← hv_, go_sem]
  have sc4 : v1.cell? ⟨w.heap.size, 4, none⟩ = some (.int .i64 wa) := by simp [← hv_, go_sem]
  have sc5 : v1.cell? ⟨w.heap.size, 5, none⟩ = some (.int .i64 ev) := by simp [← hv_, go_sem]
  have sc6 : v1.cell? ⟨w.heap.size, 6, none⟩ = some (.int .i64 (ln : Int)) := by simp [← hv_, go_sem]
  have sc7 : v1.cell? ⟨w.heap.size, 7, none⟩ = some (.int .i64 (pn : Int)) := by simp [← hv_, go_sem]
  have scl : w.heap.size < v1.heap.size := by simp [← hv_] <;> omega
  clear hv_
  go_wp2_with fail
  have bD : Below v1.heap.size v1 v1.drew := below_drewN (Below.refl _ v1) 1
  rewrite [cR bD scl] at sc0 sc1 sc2 sc3 sc4 sc5 sc6 sc7
  replace scl := lK bD scl
  replace cc := bK cc bD
  clear bD
  refine wp_region_held_drew (S := fun w' => w'.cell? ⟨w.heap.size, 0, none⟩ = some (.int .i64 kd) ∧ w'.cell? ⟨w.heap.size, 1, none⟩ = some (.int .i64 ba) ∧ w'.cell? ⟨w.heap.size, 2, none⟩ = some (.int .i64 ra) ∧ w'.cell? ⟨w.heap.size, 3, none⟩ = some (.int .i64 en) ∧ w'.cell? ⟨w.heap.size, 4, none⟩ = some (.int .i64 wa) ∧ w'.cell? ⟨w.heap.size, 5, none⟩ = some (.int .i64 ev) ∧ w'.cell? ⟨w.heap.size, 6, none⟩ = some (.int .i64 (ln : Int)) ∧ w'.cell? ⟨w.heap.size, 7, none⟩ = some (.int .i64 (pn : Int))) (by kernel_rfl) ?_ (fun hHeld => ?_)
  · exact ⟨sc0, sc1, sc2, sc3, sc4, sc5, sc6, sc7⟩
  refine tY (i := 0) (v := ?_) rfl ?_ hHeld ?_
  rotate_left
  · (intro w hSw; (try dsimp only at hSw); go_simp; (try with_reducible rfl))
  try simp only [Act.put, pT]
  refine tY (i := 1) (v := ?_) rfl ?_ hHeld ?_
  rotate_left
  · (intro w hSw; (try dsimp only at hSw); go_simp; (try with_reducible rfl))
  try simp only [Act.put, pT]
  refine tY (i := 2) (v := ?_) rfl ?_ hHeld ?_
  rotate_left
  · (intro w hSw; (try dsimp only at hSw); go_simp; (try with_reducible rfl))
  try simp only [Act.put, pT]
  refine tY (i := 3) (v := ?_) rfl ?_ hHeld ?_
  rotate_left
  · (intro w hSw; (try dsimp only at hSw); go_simp; (try with_reducible rfl))
  try simp only [Act.put, pT]
  refine tY (i := 4) (v := ?_) rfl ?_ hHeld ?_
  rotate_left
  · (intro w hSw; (try dsimp only at hSw); go_simp; (try with_reducible rfl))
  try simp only [Act.put, pT]
  refine tY (i := 6) (v := ?_) rfl ?_ hHeld ?_
  rotate_left
  · (intro w hSw; (try dsimp only at hSw); go_simp; (try with_reducible rfl))
  try simp only [Act.put, pT]
  refine tY (i := 7) (v := ?_) rfl ?_ hHeld ?_
  rotate_left
  · (intro w hSw; (try dsimp only at hSw); go_simp; (try with_reducible rfl))
  try simp only [Act.put, pT]
  refine wpAnyH_ready (rs := [5]) (by kernel_rfl) (by simp) ?_
  refine AllReadyH.cons rfl (fun K hK => ?_) AllReadyH.nil
  (try simp only [pT])
  rw [if_pos (by rfl)]
  go_simp
  go_at_call 36
  refine (CB _).mono ?_
  rintro e w2 ⟨Ab, nb, cb, rfl, hb, b⟩
  rewrite [cR b scl] at sc0 sc1 sc2 sc3 sc4 sc5 sc6 sc7
  replace scl := lK b scl
  replace cc := bK cc b
  clear b
  refine hK.out _ _ ?_ (fun hHeld => ?_)
  · exact ⟨sc0, sc1, sc2, sc3, sc4, sc5, sc6, sc7⟩
  clear hK K
  try simp only [Act.put, pT]
  refine wpAnyH_ready (rs := [8]) (by kernel_rfl) (by simp) ?_
  refine AllReadyH.cons rfl (fun K hK => ?_) AllReadyH.nil
  (try simp only [pT])
  rw [if_pos (by rfl)]
  go_simp
  go_at_call 43
  refine (CBp hb).mono ?_
  rintro e w3 ⟨Ax, nx, cx, rfl, hx, b⟩
  replace hb := hb.on b
  rewrite [cR b scl] at sc0 sc1 sc2 sc3 sc4 sc5 sc6 sc7
  replace scl := lK b scl
  replace cc := bK cc b
  clear b
  refine hK.out _ _ ?_ (fun hHeld => ?_)
  · exact ⟨sc0, sc1, sc2, sc3, sc4, sc5, sc6, sc7⟩
  clear hK K
  try simp only [Act.put, pT]
  refine tY (i := 9) (v := ?_) rfl ?_ hHeld ?_
  rotate_left
  · (intro w hSw; (try dsimp only at hSw); go_simp; (try with_reducible rfl))
  try simp only [Act.put, pT]
  refine tY (i := 10) (v := ?_) rfl ?_ hHeld ?_
  rotate_left
  · (intro w hSw; (try dsimp only at hSw); go_simp; (try with_reducible rfl))
  try simp only [Act.put, pT]
  refine tY (i := 11) (v := ?_) rfl ?_ hHeld ?_
  rotate_left
  · (intro w hSw; (try dsimp only at hSw); go_simp; (try with_reducible rfl))
  try simp only [Act.put, pT]
  refine tY (i := 12) (v := ?_) rfl ?_ hHeld ?_
  rotate_left
  · (intro w hSw; (try dsimp only at hSw); go_simp; (try with_reducible rfl))
  try simp only [Act.put, pT]
  refine tY (i := 13) (v := ?_) rfl ?_ hHeld ?_
  rotate_left
  · (intro w hSw; (try dsimp only at hSw); go_simp; (try with_reducible rfl))
  try simp only [Act.put, pT]
  refine wpAnyH_done (by kernel_rfl) ?_ _
  clear hHeld
  clear hb
  go_wp2_with fail
  have bD : Below w3.heap.size w3 w3.drew := below_drewN (Below.refl _ w3) 1
  replace hx := hx.on bD
  rewrite [cR bD scl] at sc0 sc1 sc2 sc3 sc4 sc5 sc6 sc7
  replace scl := lK bD scl
  replace cc := bK cc bD
  clear bD
  refine wp_region_held_drew (S := fun w' => w'.cell? ⟨w.heap.size, 0, none⟩ = some (.int .i64 kd) ∧ w'.cell? ⟨w.heap.size, 1, none⟩ = some (.int .i64 ba) ∧ w'.cell? ⟨w.heap.size, 2, none⟩ = some (.int .i64 ra) ∧ w'.cell? ⟨w.heap.size, 3, none⟩ = some (.int .i64 en) ∧ w'.cell? ⟨w.heap.size, 4, none⟩ = some (.int .i64 wa) ∧ w'.cell? ⟨w.heap.size, 5, none⟩ = some (.int .i64 ev) ∧ w'.cell? ⟨w.heap.size, 6, none⟩ = some (.int .i64 (ln : Int)) ∧ w'.cell? ⟨w.heap.size, 7, none⟩ = some (.int .i64 (pn : Int))) (by kernel_rfl) ?_ (fun hHeld => ?_)
  · exact ⟨sc0, sc1, sc2, sc3, sc4, sc5, sc6, sc7⟩
  refine tY (i := 0) (v := ?_) rfl ?_ hHeld ?_
  rotate_left
  · (intro w hSw; (try dsimp only at hSw); go_simp; (try with_reducible rfl))
  try simp only [Act.put, pT]
  refine tY (i := 1) (v := ?_) rfl ?_ hHeld ?_
  rotate_left
  · (intro w hSw; (try dsimp only at hSw); go_simp; (try with_reducible rfl))
  try simp only [Act.put, pT]
  refine tY (i := 2) (v := ?_) rfl ?_ hHeld ?_
  rotate_left
  · (intro w hSw; (try dsimp only at hSw); go_simp; (try with_reducible rfl))
  try simp only [Act.put, pT]
  refine tY (i := 4) (v := ?_) rfl ?_ hHeld ?_
  rotate_left
  · (intro w hSw; (try dsimp only at hSw); go_simp; (try with_reducible rfl))
  try simp only [Act.put, pT]
  refine tY (i := 5) (v := ?_) rfl ?_ hHeld ?_
  rotate_left
  · (intro w hSw; (try dsimp only at hSw); go_simp; (try with_reducible rfl))
  try simp only [Act.put, pT]
  refine wpAnyH_ready (rs := [3]) (by kernel_rfl) (by simp) ?_
  refine AllReadyH.cons rfl (fun K hK => ?_) AllReadyH.nil
  (try simp only [pT])
  rw [if_pos (by rfl)]
  go_simp
  go_at_call 36
  refine (CL _).mono ?_
  rintro e w4 ⟨Al, nl, cl, rfl, hl, b⟩
  replace hx := hx.on b
  rewrite [cR b scl] at sc0 sc1 sc2 sc3 sc4 sc5 sc6 sc7
  replace scl := lK b scl
  replace cc := bK cc b
  clear b
  refine hK.out _ _ ?_ (fun hHeld => ?_)
  · exact ⟨sc0, sc1, sc2, sc3, sc4, sc5, sc6, sc7⟩
  clear hK K
  try simp only [Act.put, pT]
  refine wpAnyH_ready (rs := [6]) (by kernel_rfl) (by simp) ?_
  refine AllReadyH.cons rfl (fun K hK => ?_) AllReadyH.nil
  (try simp only [pT])
  rw [if_pos (by rfl)]
  go_simp
  go_at_call 43
  refine (CLp hl).mono ?_
  rintro e w5 ⟨Ay, ny, cy, rfl, hy, b⟩
  replace hx := hx.on b
  replace hl := hl.on b
  rewrite [cR b scl] at sc0 sc1 sc2 sc3 sc4 sc5 sc6 sc7
  replace scl := lK b scl
  replace cc := bK cc b
  clear b
  refine hK.out _ _ ?_ (fun hHeld => ?_)
  · exact ⟨sc0, sc1, sc2, sc3, sc4, sc5, sc6, sc7⟩
  clear hK K
  try simp only [Act.put, pT]
  refine tY (i := 7) (v := ?_) rfl ?_ hHeld ?_
  rotate_left
  · (intro w hSw; (try dsimp only at hSw); go_simp; (try with_reducible rfl))
  try simp only [Act.put, pT]
  refine tY (i := 8) (v := ?_) rfl ?_ hHeld ?_
  rotate_left
  · (intro w hSw; (try dsimp only at hSw); go_simp; (try with_reducible rfl))
  try simp only [Act.put, pT]
  refine tY (i := 9) (v := ?_) rfl ?_ hHeld ?_
  rotate_left
  · (intro w hSw; (try dsimp only at hSw); go_simp; (try with_reducible rfl))
  try simp only [Act.put, pT]
  refine tY (i := 10) (v := ?_) rfl ?_ hHeld ?_
  rotate_left
  · (intro w hSw; (try dsimp only at hSw); go_simp; (try with_reducible rfl))
  try simp only [Act.put, pT]
  refine tY (i := 11) (v := ?_) rfl ?_ hHeld ?_
  rotate_left
  · (intro w hSw; (try dsimp only at hSw); go_simp; (try with_reducible rfl))
  try simp only [Act.put, pT]
  refine wpAnyH_done (by kernel_rfl) ?_ _
  clear hHeld
  clear hl
  go_wp2_with fail
  refine (CA _).mono ?_
  rintro e w6 ⟨ba_, Aa, na, ca, rfl, ha, b⟩
  replace hx := hx.on b
  replace hy := hy.on b
  rewrite [cR b scl] at sc0 sc1 sc2 sc3 sc4 sc5 sc6 sc7
  replace scl := lK b scl
  replace cc := bK cc b
  clear b
  have hz : Zn w6 false Ax nx cx (X : Int) := ⟨by rw [Int.natAbs_natCast]; exact hx, by simp⟩
  go_wp2_with fail
  refine (zmul_N ha hz (Nat.le_trans HLA.out (by omega)) (by rw [Int.natAbs_natCast]; exact Nat.le_trans HLB.out (by omega))).mono ?_
  rintro e w7 ⟨bm, Am, nm, cm, rfl, hm, b⟩
  replace hx := hx.on b
  replace hy := hy.on b
  replace ha := ha.on b
  replace hz := hz.on b
  rewrite [cR b scl] at sc0 sc1 sc2 sc3 sc4 sc5 sc6 sc7
  replace scl := lK b scl
  replace cc := bK cc b
  clear b
  go_wp2_with fail
  refine (qmake_N hm hy HL0.out (Nat.le_trans HLX.out (by omega)) (Nat.le_trans HLL.out (by omega))).mono ?_
  rintro e w8 ⟨bq, Aq, nq, cq, Bq, mq, dq, rfl, hq, b⟩
  replace hx := hx.on b
  replace hy := hy.on b
  replace ha := ha.on b
  replace hz := hz.on b
  replace hm := hm.on b
  rewrite [cR b scl] at sc0 sc1 sc2 sc3 sc4 sc5 sc6 sc7
  replace scl := lK b scl
  replace cc := bK cc b
  clear b
  clear hm ha hz hx hy
  go_upto_region 6 with fail
  have qsqsc : w.heap.size < w8.heap.size := scl
  generalize hv_ : w8.alloc (.cells #[.bool bq, .slice Aq nq cq, .slice Bq mq dq] 72) = v9
  have bA : Below w8.heap.size w8 v9 := by rw [← hv_]; exact below_one _ _
  replace hq := hq.on bA
  rewrite [cR bA scl] at sc0 sc1 sc2 sc3 sc4 sc5 sc6 sc7
  replace scl := lK bA scl
  replace cc := bK cc bA
  clear bA
  obtain ⟨qs0, qs1, qs2⟩ : Cs3 v9 w8.heap.size (.bool bq) (.slice Aq nq cq) (.slice Bq mq dq) := by simp [Cs3, ← hv_, go_sem]
  have qsl : w8.heap.size < v9.heap.size := by simp [← hv_]
  clear hv_
  go_wp2_with fail
  refine (CO hq).mono ?_
  rintro e w10 ⟨rfl, b⟩
  replace hq := hq.on b
  rewrite [cR b scl] at sc0 sc1 sc2 sc3 sc4 sc5 sc6 sc7
  replace scl := lK b scl
  rewrite [cR b qsl] at qs0 qs1 qs2
  replace qsl := lK b qsl
  replace cc := bK cc b
  clear b
  clear hq
  go_wp2_with fail
  go_ret
  exact ⟨rfl, cc⟩

end Go.Proofs.Ytmaolhajeoigpaa

/-
  The contracts of the landed sched: laws, Rate.
-/
namespace Go.Proofs.Ytmaolhajeoigpaa
set_option maxRecDepth 100000
set_option maxHeartbeats 8000000
open Go.RowKit
set_option linter.unusedVariables false
set_option linter.unusedSimpArgs false

theorem st_func15 {P : Program} {w : World} {a : Addr} {m : Mode} (fn : Fn) (first captured : Array Value) : (store a (.func fn first captured) m).run P w = stored P w a (.func fn first captured) m := run_store P w a _ m rfl
attribute [local go_sem] st_func15

theorem sLaws_N {w : World} :
    Calls Try.prog 21 #[] w (GotV w (.agg #[.func (.func 29) #[] #[], .func (.func 30) #[] #[], .func (.func 31) #[] #[], .func (.func 32) #[] #[]])) := by
  have cc := Below.refl w.heap.size w
  go_enter Try.func21, Try.ntmps21
  go_wp2_with fail
  refine bodyPost_ret (v := .agg #[.func (.func 29) #[] #[], .func (.func 30) #[] #[], .func (.func 31) #[] #[], .func (.func 32) #[] #[]]) (by simp [results, Try.results21, go_sem]) rfl ⟨rfl, below_one _ _⟩

theorem sIdx_0 (w : World) : (Instr.index 47 (.agg #[.func (.func 29) #[] #[], .func (.func 30) #[] #[], .func (.func 31) #[] #[], .func (.func 32) #[] #[]]) (.int .i64 0)).run Try.prog w = .ok (.func (.func 29) #[] #[]) w := by
  have h : Try.prog.underlying 47 = some (.array 4 46) := by kernel_rfl
  simp [Instr.index, run_underlying h, asIntOf, go_sem]

theorem sIdx_1 (w : World) : (Instr.index 47 (.agg #[.func (.func 29) #[] #[], .func (.func 30) #[] #[], .func (.func 31) #[] #[], .func (.func 32) #[] #[]]) (.int .i64 1)).run Try.prog w = .ok (.func (.func 30) #[] #[]) w := by
  have h : Try.prog.underlying 47 = some (.array 4 46) := by kernel_rfl
  simp [Instr.index, run_underlying h, asIntOf, go_sem]

theorem sIdx_2 (w : World) : (Instr.index 47 (.agg #[.func (.func 29) #[] #[], .func (.func 30) #[] #[], .func (.func 31) #[] #[], .func (.func 32) #[] #[]]) (.int .i64 2)).run Try.prog w = .ok (.func (.func 31) #[] #[]) w := by
  have h : Try.prog.underlying 47 = some (.array 4 46) := by kernel_rfl
  simp [Instr.index, run_underlying h, asIntOf, go_sem]

theorem sIdx_3 (w : World) : (Instr.index 47 (.agg #[.func (.func 29) #[] #[], .func (.func 30) #[] #[], .func (.func 31) #[] #[], .func (.func 32) #[] #[]]) (.int .i64 3)).run Try.prog w = .ok (.func (.func 32) #[] #[]) w := by
  have h : Try.prog.underlying 47 = some (.array 4 46) := by kernel_rfl
  simp [Instr.index, run_underlying h, asIntOf, go_sem]

theorem sRate_n0 {w : World} {kd ba ra en wa ev la po t f : Int} (hI : I64 kd ∧ I64 ba ∧ I64 ra ∧ I64 en ∧ I64 wa ∧ I64 ev ∧ I64 la ∧ I64 po ∧ I64 t ∧ I64 f) (hR : ¬ OkR f kd ba ra en wa ev la po) :
    Calls Try.prog 10 #[.agg #[.int .i64 kd, .int .i64 ba, .int .i64 ra, .int .i64 en, .int .i64 wa, .int .i64 ev, .int .i64 la, .int .i64 po], .int .i64 t, .int .i64 f] w (GotV w (.tuple #[.int .i64 (0), .int .i64 1])) := by
  have CR : ∀ W : World, Calls Try.prog 18 #[.agg #[.int .i64 kd, .int .i64 ba, .int .i64 ra, .int .i64 en, .int .i64 wa, .int .i64 ev, .int .i64 la, .int .i64 po], .int .i64 f] W (GotV W (.bool false)) := fun W => by have h := sRight_N W (f := f) (kd := kd) (ba := ba) (ra := ra) (en := en) (wa := wa) (ev := ev) (la := la) (po := po) (by obtain ⟨i_kd, i_ba, i_ra, i_en, i_wa, i_ev, i_la, i_po, i_t, i_f⟩ := hI; exact ⟨i_kd, i_ba, i_ra, i_en, i_wa, i_ev, i_la, i_po, i_f⟩); rw [decide_eq_false hR] at h; exact h
  clear hR hI
  have cc := Below.refl w.heap.size w
  go_enter Try.func10, Try.ntmps10
  go_wp2_with fail
  generalize hv_ : w.alloc (.cells #[.int .i64 kd, .int .i64 ba, .int .i64 ra, .int .i64 en, .int .i64 wa, .int .i64 ev, .int .i64 la, .int .i64 po] 23) = v1
  have bA : Below w.heap.size w v1 := by rw [← hv_]; exact ((Below.refl _ w).alloc (by simp) _)
  replace cc := bK cc bA
  clear bA
  have sc0 : v1.cell? ⟨w.heap.size, 0, none⟩ = some (.int .i64 kd) := by simp [← hv_, go_sem]
  have sc1 : v1.cell? ⟨w.heap.size, 1, none⟩ = some (.int .i64 ba) := by simp [← hv_, go_sem]
  have sc2 : v1.cell? ⟨w.heap.size, 2, none⟩ = some (.int .i64 ra) := by simp [← hv_, go_sem]
  have sc3 : v1.cell? ⟨w.heap.size, 3, none⟩ = some (.int .i64 en) := by simp [← hv_, go_sem]
  have sc4 : v1.cell? ⟨w.heap.size, 4, none⟩ = some (.int .i64 wa) := by simp [← hv_, go_sem]
  have sc5 : v1.cell? ⟨w.heap.size, 5, none⟩ = some (.int .i64 ev) := by simp [← hv_, go_sem]
  have sc6 : v1.cell? ⟨w.heap.size, 6, none⟩ = some (.int .i64 la) := by simp [← hv_, go_sem]
  have sc7 : v1.cell? ⟨w.heap.size, 7, none⟩ = some (.int .i64 po) := by simp [← hv_, go_sem]
  have scl : w.heap.size < v1.heap.size := by simp [← hv_] <;> omega
  clear hv_
  go_wp2_with fail
  refine (CR _).mono ?_
  rintro e w2 ⟨rfl, b⟩
  rewrite [cR b scl] at sc0 sc1 sc2 sc3 sc4 sc5 sc6 sc7
  replace scl := lK b scl
  replace cc := bK cc b
  clear b
  go_wp2_with fail
  go_ret2
  exact ⟨rfl, cc⟩

theorem sRate_n1 {w : World} {kd ba ra en wa ev la po t f : Int} (hI : I64 kd ∧ I64 ba ∧ I64 ra ∧ I64 en ∧ I64 wa ∧ I64 ev ∧ I64 la ∧ I64 po ∧ I64 t ∧ I64 f) (hR : OkR f kd ba ra en wa ev la po) (hT : ¬ (1 ≤ t ∧ t ≤ 1000000)) :
    Calls Try.prog 10 #[.agg #[.int .i64 kd, .int .i64 ba, .int .i64 ra, .int .i64 en, .int .i64 wa, .int .i64 ev, .int .i64 la, .int .i64 po], .int .i64 t, .int .i64 f] w (GotV w (.tuple #[.int .i64 (0), .int .i64 1])) := by
  have CR : ∀ W : World, Calls Try.prog 18 #[.agg #[.int .i64 kd, .int .i64 ba, .int .i64 ra, .int .i64 en, .int .i64 wa, .int .i64 ev, .int .i64 la, .int .i64 po], .int .i64 f] W (GotV W (.bool true)) := fun W => by have h := sRight_N W (f := f) (kd := kd) (ba := ba) (ra := ra) (en := en) (wa := wa) (ev := ev) (la := la) (po := po) (by obtain ⟨i_kd, i_ba, i_ra, i_en, i_wa, i_ev, i_la, i_po, i_t, i_f⟩ := hI; exact ⟨i_kd, i_ba, i_ra, i_en, i_wa, i_ev, i_la, i_po, i_f⟩); rw [decide_eq_true hR] at h; exact h
  have CI := fun W : World => sStep_false (w := W) hT
  clear hR hT hI
  have cc := Below.refl w.heap.size w
  go_enter Try.func10, Try.ntmps10
  go_wp2_with fail
  generalize hv_ : w.alloc (.cells #[.int .i64 kd, .int .i64 ba, .int .i64 ra, .int .i64 en, .int .i64 wa, .int .i64 ev, .int .i64 la, .int .i64 po] 23) = v1
  have bA : Below w.heap.size w v1 := by rw [← hv_]; exact ((Below.refl _ w).alloc (by simp) _)
  replace cc := bK cc bA
  clear bA
  have sc0 : v1.cell? ⟨w.heap.size, 0, none⟩ = some (.int .i64 kd) := by simp [← hv_, go_sem]
  have sc1 : v1.cell? ⟨w.heap.size, 1, none⟩ = some (.int .i64 ba) := by simp [← hv_, go_sem]
  have sc2 : v1.cell? ⟨w.heap.size, 2, none⟩ = some (.int .i64 ra) := by simp [← hv_, go_sem]
  have sc3 : v1.cell? ⟨w.heap.size, 3, none⟩ = some (.int .i64 en) := by simp [← hv_, go_sem]
  have sc4 : v1.cell? ⟨w.heap.size, 4, none⟩ = some (.int .i64 wa) := by simp [← hv_, go_sem]
  have sc5 : v1.cell? ⟨w.heap.size, 5, none⟩ = some (.int .i64 ev) := by simp [← hv_, go_sem]
  have sc6 : v1.cell? ⟨w.heap.size, 6, none⟩ = some (.int .i64 la) := by simp [← hv_, go_sem]
  have sc7 : v1.cell? ⟨w.heap.size, 7, none⟩ = some (.int .i64 po) := by simp [← hv_, go_sem]
  have scl : w.heap.size < v1.heap.size := by simp [← hv_] <;> omega
  clear hv_
  go_wp2_with fail
  refine (CR _).mono ?_
  rintro e w2 ⟨rfl, b⟩
  rewrite [cR b scl] at sc0 sc1 sc2 sc3 sc4 sc5 sc6 sc7
  replace scl := lK b scl
  replace cc := bK cc b
  clear b
  go_wp2_with fail
  refine (CI _).mono ?_
  rintro e w3 ⟨rfl, b⟩
  rewrite [cR b scl] at sc0 sc1 sc2 sc3 sc4 sc5 sc6 sc7
  replace scl := lK b scl
  replace cc := bK cc b
  clear b
  go_wp2_with fail
  go_ret2
  exact ⟨rfl, cc⟩

theorem sRate_warm {w : World} {kd ba ra en wa ev la po t f : Int} (hR : OkR f kd ba ra en wa ev la po) (hT : 1 ≤ t ∧ t ≤ 1000000) (hI : I64 kd ∧ I64 ba ∧ I64 ra ∧ I64 en ∧ I64 wa ∧ I64 ev ∧ I64 la ∧ I64 po ∧ I64 t ∧ I64 f) (hw : t ≤ wa) :
    Calls Try.prog 10 #[.agg #[.int .i64 kd, .int .i64 ba, .int .i64 ra, .int .i64 en, .int .i64 wa, .int .i64 ev, .int .i64 la, .int .i64 po], .int .i64 t, .int .i64 f] w (GotV w (.tuple #[.int .i64 (rn (ba * t) wa.toNat), .int .i64 0])) := by
  have CR : ∀ W : World, Calls Try.prog 18 #[.agg #[.int .i64 kd, .int .i64 ba, .int .i64 ra, .int .i64 en, .int .i64 wa, .int .i64 ev, .int .i64 la, .int .i64 po], .int .i64 f] W (GotV W (.bool true)) := fun W => by have h := sRight_N W (f := f) (kd := kd) (ba := ba) (ra := ra) (en := en) (wa := wa) (ev := ev) (la := la) (po := po) (by obtain ⟨i_kd, i_ba, i_ra, i_en, i_wa, i_ev, i_la, i_po, i_t, i_f⟩ := hI; exact ⟨i_kd, i_ba, i_ra, i_en, i_wa, i_ev, i_la, i_po, i_f⟩); rw [decide_eq_true hR] at h; exact h
  have CI := fun W : World => sStep_true (w := W) hT
  have t0 : decide (t ≤ wa) = true := decide_eq_true (by omega)
  obtain ⟨f0, f1, b0, w0, d0, p0⟩ := id hR
  obtain ⟨i_kd, i_ba, i_ra, i_en, i_wa, i_ev, i_la, i_po, i_t, i_f⟩ := id hI
  have e1 : wa.natAbs = wa.toNat := by omega
  have CS := fun W : World => fscale_N (w := W) i_ba i_t i_wa (by omega)
  rw [e1] at CS
  have h1 := rn_nonneg (x := ba * t) (d := wa.toNat) (by omega) (Int.mul_nonneg b0 (by omega))
  have h2 := rn_le (x := ba) (ra := t) (d := wa.toNat) (by omega) b0 (by omega)
  obtain ⟨v, ev_⟩ : ∃ v, rn (ba * t) wa.toNat = v := ⟨_, rfl⟩
  rw [ev_] at CS h1 h2 ⊢
  have hv : I64 v := by unfold I64 at i_ba ⊢; omega
  rw [(nI_yes hv).1, (nI_yes hv).2] at CS
  clear f0 f1 b0 w0 d0 p0 i_kd i_ba i_ra i_en i_wa i_ev i_la i_po i_t i_f hR hT hI hw h1 h2 hv ev_ e1
  have cc := Below.refl w.heap.size w
  go_enter Try.func10, Try.ntmps10
  go_wp2_with fail
  generalize hv_ : w.alloc (.cells #[.int .i64 kd, .int .i64 ba, .int .i64 ra, .int .i64 en, .int .i64 wa, .int .i64 ev, .int .i64 la, .int .i64 po] 23) = v1
  have bA : Below w.heap.size w v1 := by rw [← hv_]; exact ((Below.refl _ w).alloc (by simp) _)
  replace cc := bK cc bA
  clear bA
  have sc0 : v1.cell? ⟨w.heap.size, 0, none⟩ = some (.int .i64 kd) := by simp [← hv_, go_sem]
  have sc1 : v1.cell? ⟨w.heap.size, 1, none⟩ = some (.int .i64 ba) := by simp [← hv_, go_sem]
  have sc2 : v1.cell? ⟨w.heap.size, 2, none⟩ = some (.int .i64 ra) := by simp [← hv_, go_sem]
  have sc3 : v1.cell? ⟨w.heap.size, 3, none⟩ = some (.int .i64 en) := by simp [← hv_, go_sem]
  have sc4 : v1.cell? ⟨w.heap.size, 4, none⟩ = some (.int .i64 wa) := by simp [← hv_, go_sem]
  have sc5 : v1.cell? ⟨w.heap.size, 5, none⟩ = some (.int .i64 ev) := by simp [← hv_, go_sem]
  have sc6 : v1.cell? ⟨w.heap.size, 6, none⟩ = some (.int .i64 la) := by simp [← hv_, go_sem]
  have sc7 : v1.cell? ⟨w.heap.size, 7, none⟩ = some (.int .i64 po) := by simp [← hv_, go_sem]
  have scl : w.heap.size < v1.heap.size := by simp [← hv_] <;> omega
  clear hv_
  go_wp2_with fail
  refine (CR _).mono ?_
  rintro e w2 ⟨rfl, b⟩
  rewrite [cR b scl] at sc0 sc1 sc2 sc3 sc4 sc5 sc6 sc7
  replace scl := lK b scl
  replace cc := bK cc b
  clear b
  go_wp2_with fail
  refine (CI _).mono ?_
  rintro e w3 ⟨rfl, b⟩
  rewrite [cR b scl] at sc0 sc1 sc2 sc3 sc4 sc5 sc6 sc7
  replace scl := lK b scl
  replace cc := bK cc b
  clear b
  go_wp2_with fail
  refine (CS _).mono ?_
  rintro e w4 ⟨rfl, b⟩
  rewrite [cR b scl] at sc0 sc1 sc2 sc3 sc4 sc5 sc6 sc7
  replace scl := lK b scl
  replace cc := bK cc b
  clear b
  go_wp2_with fail
  go_ret2
  exact ⟨rfl, cc⟩

theorem sRate_const {w : World} {kd ba ra en wa ev la po t f : Int} (hR : OkR f kd ba ra en wa ev la po) (hT : 1 ≤ t ∧ t ≤ 1000000) (hI : I64 kd ∧ I64 ba ∧ I64 ra ∧ I64 en ∧ I64 wa ∧ I64 ev ∧ I64 la ∧ I64 po ∧ I64 t ∧ I64 f) (hw : ¬ t ≤ wa) (hk : 0 = kd) :
    Calls Try.prog 10 #[.agg #[.int .i64 kd, .int .i64 ba, .int .i64 ra, .int .i64 en, .int .i64 wa, .int .i64 ev, .int .i64 la, .int .i64 po], .int .i64 t, .int .i64 f] w (GotV w (.tuple #[.int .i64 (ba), .int .i64 0])) := by
  subst hk
  have CR : ∀ W : World, Calls Try.prog 18 #[.agg #[.int .i64 0, .int .i64 ba, .int .i64 ra, .int .i64 en, .int .i64 wa, .int .i64 ev, .int .i64 la, .int .i64 po], .int .i64 f] W (GotV W (.bool true)) := fun W => by have h := sRight_N W (f := f) (kd := 0) (ba := ba) (ra := ra) (en := en) (wa := wa) (ev := ev) (la := la) (po := po) (by obtain ⟨i_kd, i_ba, i_ra, i_en, i_wa, i_ev, i_la, i_po, i_t, i_f⟩ := hI; exact ⟨i_kd, i_ba, i_ra, i_en, i_wa, i_ev, i_la, i_po, i_f⟩); rw [decide_eq_true hR] at h; exact h
  have CI := fun W : World => sStep_true (w := W) hT
  have t0 : decide (t ≤ wa) = false := decide_eq_false (by omega)
  obtain ⟨f0, f1, b0, w0, d0, p0⟩ := id hR
  obtain ⟨i_kd, i_ba, i_ra, i_en, i_wa, i_ev, i_la, i_po, i_t, i_f⟩ := id hI
  have CK := fun W : World => sStay_N (w := W) (kd := 0) (ba := ba) (ra := ra) (en := en) (wa := wa) (ev := ev) (la := la) (po := po) (t := t) (f := f)
  have CL := fun W : World => sLaws_N (w := W)
  have hIx := sIdx_0
  skip
  clear f0 f1 b0 w0 d0 p0 i_kd i_ba i_ra i_en i_wa i_ev i_la i_po i_t i_f hR hT hI hw
  have cc := Below.refl w.heap.size w
  go_enter Try.func10, Try.ntmps10
  go_wp2_with fail
  generalize hv_ : w.alloc (.cells #[.int .i64 0, .int .i64 ba, .int .i64 ra, .int .i64 en, .int .i64 wa, .int .i64 ev, .int .i64 la, .int .i64 po] 23) = v1
  have bA : Below w.heap.size w v1 := by rw [← hv_]; exact ((Below.refl _ w).alloc (by simp) _)
  replace cc := bK cc bA
  clear bA
  have sc0 : v1.cell? ⟨w.heap.size, 0, none⟩ = some (.int .i64 0) := by simp [← hv_, go_sem]
  have sc1 : v1.cell? ⟨w.heap.size, 1, none⟩ = some (.int .i64 ba) := by simp [← hv_, go_sem]
  have sc2 : v1.cell? ⟨w.heap.size, 2, none⟩ = some (.int .i64 ra) := by simp [← hv_, go_sem]
  have sc3 : v1.cell? ⟨w.heap.size, 3, none⟩ = some (.int .i64 en) := by simp [← hv_, go_sem]
  have sc4 : v1.cell? ⟨w.heap.size, 4, none⟩ = some (.int .i64 wa) := by simp [← hv_, go_sem]
  have sc5 : v1.cell? ⟨w.heap.size, 5, none⟩ = some (.int .i64 ev) := by simp [← hv_, go_sem]
  have sc6 : v1.cell? ⟨w.heap.size, 6, none⟩ = some (.int .i64 la) := by simp [← hv_, go_sem]
  have sc7 : v1.cell? ⟨w.heap.size, 7, none⟩ = some (.int .i64 po) := by simp [← hv_, go_sem]
  have scl : w.heap.size < v1.heap.size := by simp [← hv_] <;> omega
  clear hv_
  go_wp2_with fail
  refine (CR _).mono ?_
  rintro e w2 ⟨rfl, b⟩
  rewrite [cR b scl] at sc0 sc1 sc2 sc3 sc4 sc5 sc6 sc7
  replace scl := lK b scl
  replace cc := bK cc b
  clear b
  go_wp2_with fail
  refine (CI _).mono ?_
  rintro e w3 ⟨rfl, b⟩
  rewrite [cR b scl] at sc0 sc1 sc2 sc3 sc4 sc5 sc6 sc7
  replace scl := lK b scl
  replace cc := bK cc b
  clear b
  go_wp2_with fail
  have bD : Below w3.heap.size w3 w3.drew := below_drewN (Below.refl _ w3) 1
  rewrite [cR bD scl] at sc0 sc1 sc2 sc3 sc4 sc5 sc6 sc7
  replace scl := lK bD scl
  replace cc := bK cc bD
  clear bD
  refine wp_region_held_drew (S := fun w' => w'.cell? ⟨w.heap.size, 0, none⟩ = some (.int .i64 0) ∧ w'.cell? ⟨w.heap.size, 1, none⟩ = some (.int .i64 ba) ∧ w'.cell? ⟨w.heap.size, 2, none⟩ = some (.int .i64 ra) ∧ w'.cell? ⟨w.heap.size, 3, none⟩ = some (.int .i64 en) ∧ w'.cell? ⟨w.heap.size, 4, none⟩ = some (.int .i64 wa) ∧ w'.cell? ⟨w.heap.size, 5, none⟩ = some (.int .i64 ev) ∧ w'.cell? ⟨w.heap.size, 6, none⟩ = some (.int .i64 la) ∧ w'.cell? ⟨w.heap.size, 7, none⟩ = some (.int .i64 po)) (by kernel_rfl) ?_ (fun hHeld => ?_)
  · exact ⟨sc0, sc1, sc2, sc3, sc4, sc5, sc6, sc7⟩
  refine tY (i := 1) (v := ?_) rfl ?_ hHeld ?_
  rotate_left
  · (intro w hSw; (try dsimp only at hSw); go_simp; (try with_reducible rfl))
  try simp only [Act.put, pT]
  refine tY (i := 2) (v := ?_) rfl ?_ hHeld ?_
  rotate_left
  · (intro w hSw; (try dsimp only at hSw); go_simp; (try with_reducible rfl))
  try simp only [Act.put, pT]
  refine tY (i := 4) (v := ?_) rfl ?_ hHeld ?_
  rotate_left
  · (intro w hSw; (try dsimp only at hSw); go_simp; (try with_reducible rfl))
  try simp only [Act.put, pT]
  refine tY (i := 5) (v := ?_) rfl ?_ hHeld ?_
  rotate_left
  · (intro w hSw; (try dsimp only at hSw); go_simp; (try with_reducible rfl))
  try simp only [Act.put, pT]
  refine tY (i := 6) (v := ?_) rfl ?_ hHeld ?_
  rotate_left
  · (intro w hSw; (try dsimp only at hSw); go_simp; (try with_reducible rfl))
  try simp only [Act.put, pT]
  refine wpAnyH_ready (rs := [0]) (by kernel_rfl) (by simp) ?_
  refine AllReadyH.cons rfl (fun K hK => ?_) AllReadyH.nil
  (try simp only [pT])
  rw [if_pos (by rfl)]
  go_simp
  go_at_call 21
  refine (CL _).mono ?_
  rintro e w4 ⟨rfl, b⟩
  rewrite [cR b scl] at sc0 sc1 sc2 sc3 sc4 sc5 sc6 sc7
  replace scl := lK b scl
  replace cc := bK cc b
  clear b
  refine hK.out _ _ ?_ (fun hHeld => ?_)
  · exact ⟨sc0, sc1, sc2, sc3, sc4, sc5, sc6, sc7⟩
  clear hK K
  try simp only [Act.put, pT]
  refine tY (i := 3) (v := ?_) rfl ?_ hHeld ?_
  rotate_left
  · (intro w hSw; (try dsimp only at hSw); go_simp; (try with_reducible rfl))
  try simp only [Act.put, pT]
  refine wpAnyH_ready (rs := [7]) (by kernel_rfl) (by simp) ?_
  refine AllReadyH.cons rfl (fun K hK => ?_) AllReadyH.nil
  (try simp only [pT])
  rw [if_pos (by rfl)]
  go_simp
  go_at_call 29
  refine (CK _).mono ?_
  rintro e w5 ⟨rfl, b⟩
  rewrite [cR b scl] at sc0 sc1 sc2 sc3 sc4 sc5 sc6 sc7
  replace scl := lK b scl
  replace cc := bK cc b
  clear b
  refine hK.out _ _ ?_ (fun hHeld => ?_)
  · exact ⟨sc0, sc1, sc2, sc3, sc4, sc5, sc6, sc7⟩
  clear hK K
  try simp only [Act.put, pT]
  refine tY (i := 8) (v := ?_) rfl ?_ hHeld ?_
  rotate_left
  · (intro w hSw; (try dsimp only at hSw); go_simp; (try with_reducible rfl))
  try simp only [Act.put, pT]
  refine tY (i := 9) (v := ?_) rfl ?_ hHeld ?_
  rotate_left
  · (intro w hSw; (try dsimp only at hSw); go_simp; (try with_reducible rfl))
  try simp only [Act.put, pT]
  refine wpAnyH_done (by kernel_rfl) ?_ _
  clear hHeld
  go_wp2_with fail
  go_ret2
  exact ⟨rfl, cc⟩

theorem sRate_root {w : World} {kd ba ra en wa ev la po t f : Int} (hR : OkR f kd ba ra en wa ev la po) (hT : 1 ≤ t ∧ t ≤ 1000000) (hI : I64 kd ∧ I64 ba ∧ I64 ra ∧ I64 en ∧ I64 wa ∧ I64 ev ∧ I64 la ∧ I64 po ∧ I64 t ∧ I64 f) (hw : ¬ t ≤ wa) (hk : 1 = kd) :
    Calls Try.prog 10 #[.agg #[.int .i64 kd, .int .i64 ba, .int .i64 ra, .int .i64 en, .int .i64 wa, .int .i64 ev, .int .i64 la, .int .i64 po], .int .i64 t, .int .i64 f] w (GotV w (.tuple #[.int .i64 (fellR ba wa t), .int .i64 0])) := by
  subst hk
  have CR : ∀ W : World, Calls Try.prog 18 #[.agg #[.int .i64 1, .int .i64 ba, .int .i64 ra, .int .i64 en, .int .i64 wa, .int .i64 ev, .int .i64 la, .int .i64 po], .int .i64 f] W (GotV W (.bool true)) := fun W => by have h := sRight_N W (f := f) (kd := 1) (ba := ba) (ra := ra) (en := en) (wa := wa) (ev := ev) (la := la) (po := po) (by obtain ⟨i_kd, i_ba, i_ra, i_en, i_wa, i_ev, i_la, i_po, i_t, i_f⟩ := hI; exact ⟨i_kd, i_ba, i_ra, i_en, i_wa, i_ev, i_la, i_po, i_f⟩); rw [decide_eq_true hR] at h; exact h
  have CI := fun W : World => sStep_true (w := W) hT
  have t0 : decide (t ≤ wa) = false := decide_eq_false (by omega)
  obtain ⟨f0, f1, b0, w0, d0, p0⟩ := id hR
  obtain ⟨i_kd, i_ba, i_ra, i_en, i_wa, i_ev, i_la, i_po, i_t, i_f⟩ := id hI
  have CK := fun W : World => sRoot_N (w := W) (kd := 1) (ra := ra) (en := en) (ev := ev) (la := la) (po := po) (f := f) w0.1 w0.2 b0 i_ba (show wa < t by omega) hT.1 hT.2
  have CL := fun W : World => sLaws_N (w := W)
  have hIx := sIdx_1
  generalize fellR ba wa t = v at *
  clear f0 f1 b0 w0 d0 p0 i_kd i_ba i_ra i_en i_wa i_ev i_la i_po i_t i_f hR hT hI hw
  have cc := Below.refl w.heap.size w
  go_enter Try.func10, Try.ntmps10
  go_wp2_with fail
  generalize hv_ : w.alloc (.cells #[.int .i64 1, .int .i64 ba, .int .i64 ra, .int .i64 en, .int .i64 wa, .int .i64 ev, .int .i64 la, .int .i64 po] 23) = v1
  have bA : Below w.heap.size w v1 := by rw [← hv_]; exact ((Below.refl _ w).alloc (by simp) _)
  replace cc := bK cc bA
  clear bA
  have sc0 : v1.cell? ⟨w.heap.size, 0, none⟩ = some (.int .i64 1) := by simp [← hv_, go_sem]
  have sc1 : v1.cell? ⟨w.heap.size, 1, none⟩ = some (.int .i64 ba) := by simp [← hv_, go_sem]
  have sc2 : v1.cell? ⟨w.heap.size, 2, none⟩ = some (.int .i64 ra) := by simp [← hv_, go_sem]
  have sc3 : v1.cell? ⟨w.heap.size, 3, none⟩ = some (.int .i64 en) := by simp [← hv_, go_sem]
  have sc4 : v1.cell? ⟨w.heap.size, 4, none⟩ = some (.int .i64 wa) := by simp [← hv_, go_sem]
  have sc5 : v1.cell? ⟨w.heap.size, 5, none⟩ = some (.int .i64 ev) := by simp [← hv_, go_sem]
  have sc6 : v1.cell? ⟨w.heap.size, 6, none⟩ = some (.int .i64 la) := by simp [← hv_, go_sem]
  have sc7 : v1.cell? ⟨w.heap.size, 7, none⟩ = some (.int .i64 po) := by simp [← hv_, go_sem]
  have scl : w.heap.size < v1.heap.size := by simp [← hv_] <;> omega
  clear hv_
  go_wp2_with fail
  refine (CR _).mono ?_
  rintro e w2 ⟨rfl, b⟩
  rewrite [cR b scl] at sc0 sc1 sc2 sc3 sc4 sc5 sc6 sc7
  replace scl := lK b scl
  replace cc := bK cc b
  clear b
  go_wp2_with fail
  refine (CI _).mono ?_
  rintro e w3 ⟨rfl, b⟩
  rewrite [cR b scl] at sc0 sc1 sc2 sc3 sc4 sc5 sc6 sc7
  replace scl := lK b scl
  replace cc := bK cc b
  clear b
  go_wp2_with fail
  have bD : Below w3.heap.size w3 w3.drew := below_drewN (Below.refl _ w3) 1
  rewrite [cR bD scl] at sc0 sc1 sc2 sc3 sc4 sc5 sc6 sc7
  replace scl := lK bD scl
  replace cc := bK cc bD
  clear bD
  refine wp_region_held_drew (S := fun w' => w'.cell? ⟨w.heap.size, 0, none⟩ = some (.int .i64 1) ∧ w'.cell? ⟨w.heap.size, 1, none⟩ = some (.int .i64 ba) ∧ w'.cell? ⟨w.heap.size, 2, none⟩ = some (.int .i64 ra) ∧ w'.cell? ⟨w.heap.size, 3, none⟩ = some (.int .i64 en) ∧ w'.cell? ⟨w.heap.size, 4, none⟩ = some (.int .i64 wa) ∧ w'.cell? ⟨w.heap.size, 5, none⟩ = some (.int .i64 ev) ∧ w'.cell? ⟨w.heap.size, 6, none⟩ = some (.int .i64 la) ∧ w'.cell? ⟨w.heap.size, 7, none⟩ = some (.int .i64 po)) (by kernel_rfl) ?_ (fun hHeld => ?_)
  · exact ⟨sc0, sc1, sc2, sc3, sc4, sc5, sc6, sc7⟩
  refine tY (i := 1) (v := ?_) rfl ?_ hHeld ?_
  rotate_left
  · (intro w hSw; (try dsimp only at hSw); go_simp; (try with_reducible rfl))
  try simp only [Act.put, pT]
  refine tY (i := 2) (v := ?_) rfl ?_ hHeld ?_
  rotate_left
  · (intro w hSw; (try dsimp only at hSw); go_simp; (try with_reducible rfl))
  try simp only [Act.put, pT]
  refine tY (i := 4) (v := ?_) rfl ?_ hHeld ?_
  rotate_left
  · (intro w hSw; (try dsimp only at hSw); go_simp; (try with_reducible rfl))
  try simp only [Act.put, pT]
  refine tY (i := 5) (v := ?_) rfl ?_ hHeld ?_
  rotate_left
  · (intro w hSw; (try dsimp only at hSw); go_simp; (try with_reducible rfl))
  try simp only [Act.put, pT]
  refine tY (i := 6) (v := ?_) rfl ?_ hHeld ?_
  rotate_left
  · (intro w hSw; (try dsimp only at hSw); go_simp; (try with_reducible rfl))
  try simp only [Act.put, pT]
  refine wpAnyH_ready (rs := [0]) (by kernel_rfl) (by simp) ?_
  refine AllReadyH.cons rfl (fun K hK => ?_) AllReadyH.nil
  (try simp only [pT])
  rw [if_pos (by rfl)]
  go_simp
  go_at_call 21
  refine (CL _).mono ?_
  rintro e w4 ⟨rfl, b⟩
  rewrite [cR b scl] at sc0 sc1 sc2 sc3 sc4 sc5 sc6 sc7
  replace scl := lK b scl
  replace cc := bK cc b
  clear b
  refine hK.out _ _ ?_ (fun hHeld => ?_)
  · exact ⟨sc0, sc1, sc2, sc3, sc4, sc5, sc6, sc7⟩
  clear hK K
  try simp only [Act.put, pT]
  refine tY (i := 3) (v := ?_) rfl ?_ hHeld ?_
  rotate_left
  · (intro w hSw; (try dsimp only at hSw); go_simp; (try with_reducible rfl))
  try simp only [Act.put, pT]
  refine wpAnyH_ready (rs := [7]) (by kernel_rfl) (by simp) ?_
  refine AllReadyH.cons rfl (fun K hK => ?_) AllReadyH.nil
  (try simp only [pT])
  rw [if_pos (by rfl)]
  go_simp
  go_at_call 30
  refine (CK _).mono ?_
  rintro e w5 ⟨rfl, b⟩
  rewrite [cR b scl] at sc0 sc1 sc2 sc3 sc4 sc5 sc6 sc7
  replace scl := lK b scl
  replace cc := bK cc b
  clear b
  refine hK.out _ _ ?_ (fun hHeld => ?_)
  · exact ⟨sc0, sc1, sc2, sc3, sc4, sc5, sc6, sc7⟩
  clear hK K
  try simp only [Act.put, pT]
  refine tY (i := 8) (v := ?_) rfl ?_ hHeld ?_
  rotate_left
  · (intro w hSw; (try dsimp only at hSw); go_simp; (try with_reducible rfl))
  try simp only [Act.put, pT]
  refine tY (i := 9) (v := ?_) rfl ?_ hHeld ?_
  rotate_left
  · (intro w hSw; (try dsimp only at hSw); go_simp; (try with_reducible rfl))
  try simp only [Act.put, pT]
  refine wpAnyH_done (by kernel_rfl) ?_ _
  clear hHeld
  go_wp2_with fail
  go_ret2
  exact ⟨rfl, cc⟩

theorem sRate_drop {w : World} {kd ba ra en wa ev la po t f : Int} (hR : OkR f kd ba ra en wa ev la po) (hT : 1 ≤ t ∧ t ≤ 1000000) (hI : I64 kd ∧ I64 ba ∧ I64 ra ∧ I64 en ∧ I64 wa ∧ I64 ev ∧ I64 la ∧ I64 po ∧ I64 t ∧ I64 f) (hw : ¬ t ≤ wa) (hk : 2 = kd) :
    Calls Try.prog 10 #[.agg #[.int .i64 kd, .int .i64 ba, .int .i64 ra, .int .i64 en, .int .i64 wa, .int .i64 ev, .int .i64 la, .int .i64 po], .int .i64 t, .int .i64 f] w (GotV w (.tuple #[.int .i64 (dropR ba ra (2 ^ f.toNat) (min ((t - wa) / ev) 200).toNat), .int .i64 0])) := by
  subst hk
  have CR : ∀ W : World, Calls Try.prog 18 #[.agg #[.int .i64 2, .int .i64 ba, .int .i64 ra, .int .i64 en, .int .i64 wa, .int .i64 ev, .int .i64 la, .int .i64 po], .int .i64 f] W (GotV W (.bool true)) := fun W => by have h := sRight_N W (f := f) (kd := 2) (ba := ba) (ra := ra) (en := en) (wa := wa) (ev := ev) (la := la) (po := po) (by obtain ⟨i_kd, i_ba, i_ra, i_en, i_wa, i_ev, i_la, i_po, i_t, i_f⟩ := hI; exact ⟨i_kd, i_ba, i_ra, i_en, i_wa, i_ev, i_la, i_po, i_f⟩); rw [decide_eq_true hR] at h; exact h
  have CI := fun W : World => sStep_true (w := W) hT
  have t0 : decide (t ≤ wa) = false := decide_eq_false (by omega)
  obtain ⟨f0, f1, b0, w0, d0, p0⟩ := id hR
  obtain ⟨i_kd, i_ba, i_ra, i_en, i_wa, i_ev, i_la, i_po, i_t, i_f⟩ := id hI
  have CK := fun W : World => sDrops_N (w := W) hR hT hI hw rfl
  have CL := fun W : World => sLaws_N (w := W)
  have hIx := sIdx_2
  generalize dropR ba ra (2 ^ f.toNat) (min ((t - wa) / ev) 200).toNat = v at *
  clear f0 f1 b0 w0 d0 p0 i_kd i_ba i_ra i_en i_wa i_ev i_la i_po i_t i_f hR hT hI hw
  have cc := Below.refl w.heap.size w
  go_enter Try.func10, Try.ntmps10
  go_wp2_with fail
  generalize hv_ : w.alloc (.cells #[.int .i64 2, .int .i64 ba, .int .i64 ra, .int .i64 en, .int .i64 wa, .int .i64 ev, .int .i64 la, .int .i64 po] 23) = v1
  have bA : Below w.heap.size w v1 := by rw [← hv_]; exact ((Below.refl _ w).alloc (by simp) _)
  replace cc := bK cc bA
  clear bA
  have sc0 : v1.cell? ⟨w.heap.size, 0, none⟩ = some (.int .i64 2) := by simp [← hv_, go_sem]
  have sc1 : v1.cell? ⟨w.heap.size, 1, none⟩ = some (.int .i64 ba) := by simp [← hv_, go_sem]
  have sc2 : v1.cell? ⟨w.heap.size, 2, none⟩ = some (.int .i64 ra) := by simp [← hv_, go_sem]
  have sc3 : v1.cell? ⟨w.heap.size, 3, none⟩ = some (.int .i64 en) := by simp [← hv_, go_sem]
  have sc4 : v1.cell? ⟨w.heap.size, 4, none⟩ = some (.int .i64 wa) := by simp [← hv_, go_sem]
  have sc5 : v1.cell? ⟨w.heap.size, 5, none⟩ = some (.int .i64 ev) := by simp [← hv_, go_sem]
  have sc6 : v1.cell? ⟨w.heap.size, 6, none⟩ = some (.int .i64 la) := by simp [← hv_, go_sem]
  have sc7 : v1.cell? ⟨w.heap.size, 7, none⟩ = some (.int .i64 po) := by simp [← hv_, go_sem]
  have scl : w.heap.size < v1.heap.size := by simp [← hv_] <;> omega
  clear hv_
  go_wp2_with fail
  refine (CR _).mono ?_
  rintro e w2 ⟨rfl, b⟩
  rewrite [cR b scl] at sc0 sc1 sc2 sc3 sc4 sc5 sc6 sc7
  replace scl := lK b scl
  replace cc := bK cc b
  clear b
  go_wp2_with fail
  refine (CI _).mono ?_
  rintro e w3 ⟨rfl, b⟩
  rewrite [cR b scl] at sc0 sc1 sc2 sc3 sc4 sc5 sc6 sc7
  replace scl := lK b scl
  replace cc := bK cc b
  clear b
  go_wp2_with fail
  have bD : Below w3.heap.size w3 w3.drew := below_drewN (Below.refl _ w3) 1
  rewrite [cR bD scl] at sc0 sc1 sc2 sc3 sc4 sc5 sc6 sc7
  replace scl := lK bD scl
  replace cc := bK cc bD
  clear bD
  refine wp_region_held_drew (S := fun w' => w'.cell? ⟨w.heap.size, 0, none⟩ = some (.int .i64 2) ∧ w'.cell? ⟨w.heap.size, 1, none⟩ = some (.int .i64 ba) ∧ w'.cell? ⟨w.heap.size, 2, none⟩ = some (.int .i64 ra) ∧ w'.cell? ⟨w.heap.size, 3, none⟩ = some (.int .i64 en) ∧ w'.cell? ⟨w.heap.size, 4, none⟩ = some (.int .i64 wa) ∧ w'.cell? ⟨w.heap.size, 5, none⟩ = some (.int .i64 ev) ∧ w'.cell? ⟨w.heap.size, 6, none⟩ = some (.int .i64 la) ∧ w'.cell? ⟨w.heap.size, 7, none⟩ = some (.int .i64 po)) (by kernel_rfl) ?_ (fun hHeld => ?_)
  · exact ⟨sc0, sc1, sc2, sc3, sc4, sc5, sc6, sc7⟩
  refine tY (i := 1) (v := ?_) rfl ?_ hHeld ?_
  rotate_left
  · (intro w hSw; (try dsimp only at hSw); go_simp; (try with_reducible rfl))
  try simp only [Act.put, pT]
  refine tY (i := 2) (v := ?_) rfl ?_ hHeld ?_
  rotate_left
  · (intro w hSw; (try dsimp only at hSw); go_simp; (try with_reducible rfl))
  try simp only [Act.put, pT]
  refine tY (i := 4) (v := ?_) rfl ?_ hHeld ?_
  rotate_left
  · (intro w hSw; (try dsimp only at hSw); go_simp; (try with_reducible rfl))
  try simp only [Act.put, pT]
  refine tY (i := 5) (v := ?_) rfl ?_ hHeld ?_
  rotate_left
  · (intro w hSw; (try dsimp only at hSw); go_simp; (try with_reducible rfl))
  try simp only [Act.put, pT]
  refine tY (i := 6) (v := ?_) rfl ?_ hHeld ?_
  rotate_left
  · (intro w hSw; (try dsimp only at hSw); go_simp; (try with_reducible rfl))
  try simp only [Act.put, pT]
  refine wpAnyH_ready (rs := [0]) (by kernel_rfl) (by simp) ?_
  refine AllReadyH.cons rfl (fun K hK => ?_) AllReadyH.nil
  (try simp only [pT])
  rw [if_pos (by rfl)]
  go_simp
  go_at_call 21
  refine (CL _).mono ?_
  rintro e w4 ⟨rfl, b⟩
  rewrite [cR b scl] at sc0 sc1 sc2 sc3 sc4 sc5 sc6 sc7
  replace scl := lK b scl
  replace cc := bK cc b
  clear b
  refine hK.out _ _ ?_ (fun hHeld => ?_)
  · exact ⟨sc0, sc1, sc2, sc3, sc4, sc5, sc6, sc7⟩
  clear hK K
  try simp only [Act.put, pT]
  refine tY (i := 3) (v := ?_) rfl ?_ hHeld ?_
  rotate_left
  · (intro w hSw; (try dsimp only at hSw); go_simp; (try with_reducible rfl))
  try simp only [Act.put, pT]
  refine wpAnyH_ready (rs := [7]) (by kernel_rfl) (by simp) ?_
  refine AllReadyH.cons rfl (fun K hK => ?_) AllReadyH.nil
  (try simp only [pT])
  rw [if_pos (by rfl)]
  go_simp
  go_at_call 31
  refine (CK _).mono ?_
  rintro e w5 ⟨rfl, b⟩
  rewrite [cR b scl] at sc0 sc1 sc2 sc3 sc4 sc5 sc6 sc7
  replace scl := lK b scl
  replace cc := bK cc b
  clear b
  refine hK.out _ _ ?_ (fun hHeld => ?_)
  · exact ⟨sc0, sc1, sc2, sc3, sc4, sc5, sc6, sc7⟩
  clear hK K
  try simp only [Act.put, pT]
  refine tY (i := 8) (v := ?_) rfl ?_ hHeld ?_
  rotate_left
  · (intro w hSw; (try dsimp only at hSw); go_simp; (try with_reducible rfl))
  try simp only [Act.put, pT]
  refine tY (i := 9) (v := ?_) rfl ?_ hHeld ?_
  rotate_left
  · (intro w hSw; (try dsimp only at hSw); go_simp; (try with_reducible rfl))
  try simp only [Act.put, pT]
  refine wpAnyH_done (by kernel_rfl) ?_ _
  clear hHeld
  go_wp2_with fail
  go_ret2
  exact ⟨rfl, cc⟩

theorem sRate_poly {w : World} {kd ba ra en wa ev la po t f : Int} (hR : OkR f kd ba ra en wa ev la po) (hT : 1 ≤ t ∧ t ≤ 1000000) (hI : I64 kd ∧ I64 ba ∧ I64 ra ∧ I64 en ∧ I64 wa ∧ I64 ev ∧ I64 la ∧ I64 po ∧ I64 t ∧ I64 f) (hw : ¬ t ≤ wa) (hk : 3 = kd) :
    Calls Try.prog 10 #[.agg #[.int .i64 kd, .int .i64 ba, .int .i64 ra, .int .i64 en, .int .i64 wa, .int .i64 ev, .int .i64 la, .int .i64 po], .int .i64 t, .int .i64 f] w (GotV w (.tuple #[.int .i64 (polyR ba en t la po), .int .i64 0])) := by
  subst hk
  have CR : ∀ W : World, Calls Try.prog 18 #[.agg #[.int .i64 3, .int .i64 ba, .int .i64 ra, .int .i64 en, .int .i64 wa, .int .i64 ev, .int .i64 la, .int .i64 po], .int .i64 f] W (GotV W (.bool true)) := fun W => by have h := sRight_N W (f := f) (kd := 3) (ba := ba) (ra := ra) (en := en) (wa := wa) (ev := ev) (la := la) (po := po) (by obtain ⟨i_kd, i_ba, i_ra, i_en, i_wa, i_ev, i_la, i_po, i_t, i_f⟩ := hI; exact ⟨i_kd, i_ba, i_ra, i_en, i_wa, i_ev, i_la, i_po, i_f⟩); rw [decide_eq_true hR] at h; exact h
  have CI := fun W : World => sStep_true (w := W) hT
  have t0 : decide (t ≤ wa) = false := decide_eq_false (by omega)
  obtain ⟨f0, f1, b0, w0, d0, p0⟩ := id hR
  obtain ⟨i_kd, i_ba, i_ra, i_en, i_wa, i_ev, i_la, i_po, i_t, i_f⟩ := id hI
  obtain ⟨p1, p2, p3, p4⟩ := p0 rfl
  have CK : ∀ W : World, Calls Try.prog 32 #[.agg #[.int .i64 3, .int .i64 ba, .int .i64 ra, .int .i64 en, .int .i64 wa, .int .i64 ev, .int .i64 la, .int .i64 po], .int .i64 t, .int .i64 f] W (GotV W (.int .i64 (polyR ba en t la po))) := fun W => by
    by_cases q : la ≤ t
    · exact sPoly_end q
    · exact sPoly_main (by omega) i_ba p3 p4 p1.1 p1.2 hT.1 p2.1 p2.2
  have CL := fun W : World => sLaws_N (w := W)
  have hIx := sIdx_3
  generalize polyR ba en t la po = v at *
  clear f0 f1 b0 w0 d0 p0 i_kd i_ba i_ra i_en i_wa i_ev i_la i_po i_t i_f hR hT hI hw p1 p2 p3 p4
  have cc := Below.refl w.heap.size w
  go_enter Try.func10, Try.ntmps10
  go_wp2_with fail
  generalize hv_ : w.alloc (.cells #[.int .i64 3, .int .i64 ba, .int .i64 ra, .int .i64 en, .int .i64 wa, .int .i64 ev, .int .i64 la, .int .i64 po] 23) = v1
  have bA : Below w.heap.size w v1 := by rw [← hv_]; exact ((Below.refl _ w).alloc (by simp) _)
  replace cc := bK cc bA
  clear bA
  have sc0 : v1.cell? ⟨w.heap.size, 0, none⟩ = some (.int .i64 3) := by simp [← hv_, go_sem]
  have sc1 : v1.cell? ⟨w.heap.size, 1, none⟩ = some (.int .i64 ba) := by simp [← hv_, go_sem]
  have sc2 : v1.cell? ⟨w.heap.size, 2, none⟩ = some (.int .i64 ra) := by simp [← hv_, go_sem]
  have sc3 : v1.cell? ⟨w.heap.size, 3, none⟩ = some (.int .i64 en) := by simp [← hv_, go_sem]
  have sc4 : v1.cell? ⟨w.heap.size, 4, none⟩ = some (.int .i64 wa) := by simp [← hv_, go_sem]
  have sc5 : v1.cell? ⟨w.heap.size, 5, none⟩ = some (.int .i64 ev) := by simp [← hv_, go_sem]
  have sc6 : v1.cell? ⟨w.heap.size, 6, none⟩ = some (.int .i64 la) := by simp [← hv_, go_sem]
  have sc7 : v1.cell? ⟨w.heap.size, 7, none⟩ = some (.int .i64 po) := by simp [← hv_, go_sem]
  have scl : w.heap.size < v1.heap.size := by simp [← hv_] <;> omega
  clear hv_
  go_wp2_with fail
  refine (CR _).mono ?_
  rintro e w2 ⟨rfl, b⟩
  rewrite [cR b scl] at sc0 sc1 sc2 sc3 sc4 sc5 sc6 sc7
  replace scl := lK b scl
  replace cc := bK cc b
  clear b
  go_wp2_with fail
  refine (CI _).mono ?_
  rintro e w3 ⟨rfl, b⟩
  rewrite [cR b scl] at sc0 sc1 sc2 sc3 sc4 sc5 sc6 sc7
  replace scl := lK b scl
  replace cc := bK cc b
  clear b
  go_wp2_with fail
  have bD : Below w3.heap.size w3 w3.drew := below_drewN (Below.refl _ w3) 1
  rewrite [cR bD scl] at sc0 sc1 sc2 sc3 sc4 sc5 sc6 sc7
  replace scl := lK bD scl
  replace cc := bK cc bD
  clear bD
  refine wp_region_held_drew (S := fun w' => w'.cell? ⟨w.heap.size, 0, none⟩ = some (.int .i64 3) ∧ w'.cell? ⟨w.heap.size, 1, none⟩ = some (.int .i64 ba) ∧ w'.cell? ⟨w.heap.size, 2, none⟩ = some (.int .i64 ra) ∧ w'.cell? ⟨w.heap.size, 3, none⟩ = some (.int .i64 en) ∧ w'.cell? ⟨w.heap.size, 4, none⟩ = some (.int .i64 wa) ∧ w'.cell? ⟨w.heap.size, 5, none⟩ = some (.int .i64 ev) ∧ w'.cell? ⟨w.heap.size, 6, none⟩ = some (.int .i64 la) ∧ w'.cell? ⟨w.heap.size, 7, none⟩ = some (.int .i64 po)) (by kernel_rfl) ?_ (fun hHeld => ?_)
  · exact ⟨sc0, sc1, sc2, sc3, sc4, sc5, sc6, sc7⟩
  refine tY (i := 1) (v := ?_) rfl ?_ hHeld ?_
  rotate_left
  · (intro w hSw; (try dsimp only at hSw); go_simp; (try with_reducible rfl))
  try simp only [Act.put, pT]
  refine tY (i := 2) (v := ?_) rfl ?_ hHeld ?_
  rotate_left
  · (intro w hSw; (try dsimp only at hSw); go_simp; (try with_reducible rfl))
  try simp only [Act.put, pT]
  refine tY (i := 4) (v := ?_) rfl ?_ hHeld ?_
  rotate_left
  · (intro w hSw; (try dsimp only at hSw); go_simp; (try with_reducible rfl))
  try simp only [Act.put, pT]
  refine tY (i := 5) (v := ?_) rfl ?_ hHeld ?_
  rotate_left
  · (intro w hSw; (try dsimp only at hSw); go_simp; (try with_reducible rfl))
  try simp only [Act.put, pT]
  refine tY (i := 6) (v := ?_) rfl ?_ hHeld ?_
  rotate_left
  · (intro w hSw; (try dsimp only at hSw); go_simp; (try with_reducible rfl))
  try simp only [Act.put, pT]
  refine wpAnyH_ready (rs := [0]) (by kernel_rfl) (by simp) ?_
  refine AllReadyH.cons rfl (fun K hK => ?_) AllReadyH.nil
  (try simp only [pT])
  rw [if_pos (by rfl)]
  go_simp
  go_at_call 21
  refine (CL _).mono ?_
  rintro e w4 ⟨rfl, b⟩
  rewrite [cR b scl] at sc0 sc1 sc2 sc3 sc4 sc5 sc6 sc7
  replace scl := lK b scl
  replace cc := bK cc b
  clear b
  refine hK.out _ _ ?_ (fun hHeld => ?_)
  · exact ⟨sc0, sc1, sc2, sc3, sc4, sc5, sc6, sc7⟩
  clear hK K
  try simp only [Act.put, pT]
  refine tY (i := 3) (v := ?_) rfl ?_ hHeld ?_
  rotate_left
  · (intro w hSw; (try dsimp only at hSw); go_simp; (try with_reducible rfl))
  try simp only [Act.put, pT]
  refine wpAnyH_ready (rs := [7]) (by kernel_rfl) (by simp) ?_
  refine AllReadyH.cons rfl (fun K hK => ?_) AllReadyH.nil
  (try simp only [pT])
  rw [if_pos (by rfl)]
  go_simp
  go_at_call 32
  refine (CK _).mono ?_
  rintro e w5 ⟨rfl, b⟩
  rewrite [cR b scl] at sc0 sc1 sc2 sc3 sc4 sc5 sc6 sc7
  replace scl := lK b scl
  replace cc := bK cc b
  clear b
  refine hK.out _ _ ?_ (fun hHeld => ?_)
  · exact ⟨sc0, sc1, sc2, sc3, sc4, sc5, sc6, sc7⟩
  clear hK K
  try simp only [Act.put, pT]
  refine tY (i := 8) (v := ?_) rfl ?_ hHeld ?_
  rotate_left
  · (intro w hSw; (try dsimp only at hSw); go_simp; (try with_reducible rfl))
  try simp only [Act.put, pT]
  refine tY (i := 9) (v := ?_) rfl ?_ hHeld ?_
  rotate_left
  · (intro w hSw; (try dsimp only at hSw); go_simp; (try with_reducible rfl))
  try simp only [Act.put, pT]
  refine wpAnyH_done (by kernel_rfl) ?_ _
  clear hHeld
  go_wp2_with fail
  go_ret2
  exact ⟨rfl, cc⟩

theorem sRate_N (w : World) {kd ba ra en wa ev la po t f : Int} (hI : I64 kd ∧ I64 ba ∧ I64 ra ∧ I64 en ∧ I64 wa ∧ I64 ev ∧ I64 la ∧ I64 po ∧ I64 t ∧ I64 f) : Calls Try.prog 10 #[.agg #[.int .i64 kd, .int .i64 ba, .int .i64 ra, .int .i64 en, .int .i64 wa, .int .i64 ev, .int .i64 la, .int .i64 po], .int .i64 t, .int .i64 f] w (GotV w (.tuple #[.int .i64 (rV f kd ba ra en wa ev la po t), .int .i64 (rE f kd ba ra en wa ev la po t)])) := by
  by_cases hR : OkR f kd ba ra en wa ev la po
  rotate_left
  · unfold rV rE; rw [if_neg (fun h => hR h.1), if_neg (fun h => hR h.1)]; exact sRate_n0 hI hR
  by_cases hT : 1 ≤ t ∧ t ≤ 1000000
  rotate_left
  · unfold rV rE; rw [if_neg (fun h => hT h.2), if_neg (fun h => hT h.2)]; exact sRate_n1 hI hR hT
  unfold rV rE
  rw [if_pos ⟨hR, hT⟩, if_pos ⟨hR, hT⟩]
  unfold rt15
  have hk := hR.2.1
  by_cases hw : t ≤ wa
  · rw [if_pos hw]; exact sRate_warm hR hT hI hw
  rw [if_neg hw]
  by_cases k1 : kd = 1
  · rw [if_pos k1]; exact sRate_root hR hT hI hw k1.symm
  rw [if_neg k1]
  by_cases k3 : kd = 3
  · rw [if_pos k3]; exact sRate_poly hR hT hI hw k3.symm
  rw [if_neg k3]
  by_cases k2 : kd = 2
  · rw [if_pos k2]; exact sRate_drop hR hT hI hw k2.symm
  rw [if_neg k2]
  exact sRate_const hR hT hI hw (by omega)

end Go.Proofs.Ytmaolhajeoigpaa

/-
  What the laws of sched lean on: alive.
-/
namespace Go.Proofs.Ytmaolhajeoigpaa
set_option maxRecDepth 100000
open Go.RowKit
set_option linter.unusedVariables false
set_option linter.unusedSimpArgs false

instance (z : Int) : Decidable (I64 z) := by unfold I64; infer_instance
set_option maxHeartbeats 8000000 in
theorem alive15_any (w : World) :
    Calls Try.prog 9 #[] w (GotV w (.bool true)) := by
  have CA : ∀ W : World, Calls Try.prog 10 #[.agg #[.int .i64 1, .int .i64 100, .int .i64 0, .int .i64 0, .int .i64 4, .int .i64 0, .int .i64 0, .int .i64 0], .int .i64 16, .int .i64 0] W (GotV W (.tuple #[.int .i64 50, .int .i64 0])) := fun W => by
    have h := sRate_N W (kd := 1) (ba := 100) (ra := 0) (en := 0) (wa := 4) (ev := 0) (la := 0) (po := 0) (t := 16) (f := 0) (by decide)
    rw [show rV 0 1 100 0 0 4 0 0 0 16 = 50 by decide +kernel, show rE 0 1 100 0 0 4 0 0 0 16 = 0 by decide +kernel] at h
    exact h
  have CB : ∀ W : World, Calls Try.prog 10 #[.agg #[.int .i64 1, .int .i64 100, .int .i64 0, .int .i64 0, .int .i64 4, .int .i64 0, .int .i64 0, .int .i64 0], .int .i64 1, .int .i64 0] W (GotV W (.tuple #[.int .i64 25, .int .i64 0])) := fun W => by
    have h := sRate_N W (kd := 1) (ba := 100) (ra := 0) (en := 0) (wa := 4) (ev := 0) (la := 0) (po := 0) (t := 1) (f := 0) (by decide)
    rw [show rV 0 1 100 0 0 4 0 0 0 1 = 25 by decide +kernel, show rE 0 1 100 0 0 4 0 0 0 1 = 0 by decide +kernel] at h
    exact h
  have CC : ∀ W : World, Calls Try.prog 10 #[.agg #[.int .i64 1, .int .i64 100, .int .i64 0, .int .i64 0, .int .i64 4, .int .i64 0, .int .i64 0, .int .i64 0], .int .i64 0, .int .i64 0] W (GotV W (.tuple #[.int .i64 0, .int .i64 1])) := fun W => by
    have h := sRate_N W (kd := 1) (ba := 100) (ra := 0) (en := 0) (wa := 4) (ev := 0) (la := 0) (po := 0) (t := 0) (f := 0) (by decide)
    rw [show rV 0 1 100 0 0 4 0 0 0 0 = 0 by decide +kernel, show rE 0 1 100 0 0 4 0 0 0 0 = 1 by decide +kernel] at h
    exact h
  have CR : ∀ W : World, Calls Try.prog 18 #[.agg #[.int .i64 1, .int .i64 100, .int .i64 0, .int .i64 0, .int .i64 4, .int .i64 0, .int .i64 0, .int .i64 0], .int .i64 0] W (GotV W (.bool true)) := fun W => by
    have h := sRight_N W (kd := 1) (ba := 100) (ra := 0) (en := 0) (wa := 4) (ev := 0) (la := 0) (po := 0) (f := 0) (by decide)
    rw [show decide (OkR 0 1 100 0 0 4 0 0 0) = true by decide +kernel] at h
    exact h
  have CS : ∀ W : World, Calls Try.prog 18 #[.agg #[.int .i64 1, .int .i64 100, .int .i64 0, .int .i64 0, .int .i64 4, .int .i64 0, .int .i64 0, .int .i64 0], .int .i64 41] W (GotV W (.bool false)) := fun W => by
    have h := sRight_N W (kd := 1) (ba := 100) (ra := 0) (en := 0) (wa := 4) (ev := 0) (la := 0) (po := 0) (f := 41) (by decide)
    rw [show decide (OkR 41 1 100 0 0 4 0 0 0) = false by decide +kernel] at h
    exact h
  have cc := Below.refl w.heap.size w
  go_enter Try.func9, Try.ntmps9
  go_upto_region 2 with fail
  generalize hv_ : w.alloc (.cells #[.int .i64 1, .int .i64 100, .int .i64 0, .int .i64 0, .int .i64 4, .int .i64 0, .int .i64 0, .int .i64 0] 23) = v1
  have bA : Below w.heap.size w v1 := by rw [← hv_]; exact below_one _ _
  replace cc := bK cc bA
  clear bA
  have sb0 : v1.cell? ⟨w.heap.size, 0, none⟩ = some (.int .i64 1) := by simp [← hv_, go_sem]
  have sb1 : v1.cell? ⟨w.heap.size, 1, none⟩ = some (.int .i64 100) := by simp [← hv_, go_sem]
  have sb2 : v1.cell? ⟨w.heap.size, 2, none⟩ = some (.int .i64 0) := by simp [← hv_, go_sem]
  have sb3 : v1.cell? ⟨w.heap.size, 3, none⟩ = some (.int .i64 0) := by simp [← hv_, go_sem]
  have sb4 : v1.cell? ⟨w.heap.size, 4, none⟩ = some (.int .i64 4) := by simp [← hv_, go_sem]
  have sb5 : v1.cell? ⟨w.heap.size, 5, none⟩ = some (.int .i64 0) := by simp [← hv_, go_sem]
  have sb6 : v1.cell? ⟨w.heap.size, 6, none⟩ = some (.int .i64 0) := by simp [← hv_, go_sem]
  have sb7 : v1.cell? ⟨w.heap.size, 7, none⟩ = some (.int .i64 0) := by simp [← hv_, go_sem]
  have sbl : w.heap.size < v1.heap.size := by simp [← hv_]
  clear hv_
  go_wp2_with fail
  refine (CA _).mono ?_
  rintro e w2 ⟨rfl, b⟩
  rewrite [cR b sbl] at sb0 sb1 sb2 sb3 sb4 sb5 sb6 sb7
  replace sbl := lK b sbl
  replace cc := bK cc b
  clear b
  go_wp2_with fail
  refine (CB _).mono ?_
  rintro e w3 ⟨rfl, b⟩
  rewrite [cR b sbl] at sb0 sb1 sb2 sb3 sb4 sb5 sb6 sb7
  replace sbl := lK b sbl
  replace cc := bK cc b
  clear b
  go_wp2_with fail
  refine (CC _).mono ?_
  rintro e w4 ⟨rfl, b⟩
  rewrite [cR b sbl] at sb0 sb1 sb2 sb3 sb4 sb5 sb6 sb7
  replace sbl := lK b sbl
  replace cc := bK cc b
  clear b
  go_wp2_with fail
  refine (CR _).mono ?_
  rintro e w5 ⟨rfl, b⟩
  rewrite [cR b sbl] at sb0 sb1 sb2 sb3 sb4 sb5 sb6 sb7
  replace sbl := lK b sbl
  replace cc := bK cc b
  clear b
  go_wp2_with fail
  refine (CS _).mono ?_
  rintro e w6 ⟨rfl, b⟩
  rewrite [cR b sbl] at sb0 sb1 sb2 sb3 sb4 sb5 sb6 sb7
  replace sbl := lK b sbl
  replace cc := bK cc b
  clear b
  go_wp2_with fail
  go_ret
  exact ⟨rfl, cc⟩

end Go.Proofs.Ytmaolhajeoigpaa
