/-
  Several texts in one: KR, DU, DT, JF, JKm, JKf, JKg, JK, L16, B12, WTells16.
-/
import Derived.Test.YtpephogadljncaaGreatA9
import Derived.Test.YtpephogadljncaaGreatA8
import Derived.Test.YtpephogadljncaaGreatA3
import Derived.Test.YtpephogadljncaaGreatA4
import Derived.Test.YtpephogadljncaaGreatA6
import Derived.Test.YtpephogadljncaaGreatA7
import Derived.Test.YtpephogadljncaaGreatA5
import Derived.Test.YtpephogadljncaaGreatA2

/-
  The contract of the eighth reference: Sqrt.
-/
namespace Go.Proofs.YtpephogadljncaaGreat
open Go.RowKit
set_option linter.unusedVariables false
set_option linter.unusedSimpArgs false

attribute [local go_sem] field_N
theorem root8_fits {a : Int} (ha : I64 a) {k : Nat} (hk : k ≤ 40) : I64 ((iroot 2 (a.natAbs * 2 ^ k) : Nat) : Int) := by
  have h1 : a.natAbs < 9223372036854775808 + 1 := by unfold I64 at ha; omega
  have h2 : 2 ^ k ≤ 1099511627776 := Nat.le_trans (Nat.pow_le_pow_right (by omega) hk) (by decide)
  have h3 : a.natAbs * 2 ^ k ≤ 9223372036854775808 * 1099511627776 := Nat.mul_le_mul (by omega) h2
  have h4 : iroot 2 (a.natAbs * 2 ^ k) ≤ 9223372036854775807 := by
    refine Nat.le_of_not_lt fun h => ?_
    have h5 := iroot_pow (k := 2) (a.natAbs * 2 ^ k) (by omega)
    have h6 : 9223372036854775808 ^ 2 ≤ iroot 2 (a.natAbs * 2 ^ k) ^ 2 := Nat.pow_le_pow_left h 2
    omega
  unfold I64; omega




end Go.Proofs.YtpephogadljncaaGreat

/-
  The contracts of dyad: rounded.
-/
namespace Go.Proofs.YtpephogadljncaaGreat
set_option maxRecDepth 100000
set_option maxHeartbeats 8000000
open Go.RowKit
set_option linter.unusedVariables false
set_option linter.unusedSimpArgs false

theorem rdnea_ff {w : World} {b0 : Bool} {A0 B0 : Option Addr} {n0 c0 m0 d0 : Nat} {g : Nat} {x0 : Rat} (hx : Rt w b0 A0 n0 c0 B0 m0 d0 x0) (s0 : Sz x0 20) {j : Int} (h0 : 0 ≤ j) (h1 : j ≤ 500) (hg : BoxR w g b0 A0 n0 c0 B0 m0 d0) (hs : ¬ x0.num < 0) (ht : fars (x0.num.natAbs * 2 ^ j.toNat) x0.den = false) :
    Calls Tryz.prog 105 #[.agg #[.bool b0, .slice A0 n0 c0, .slice B0 m0 d0], .int .i64 j, .func (.func 106) #[] #[.pointer (some ⟨g, 0, none⟩)]] w (GotZp w (nea x0 j.toNat) 0) := by
  have je := to_nat h0
  have jl : j.toNat ≤ 500 := by omega
  have hj2 : j ≤ 2000 := by omega
  obtain ⟨k, hk⟩ : ∃ k, j.toNat = k := ⟨_, rfl⟩
  rw [hk] at je jl ht ⊢
  have lk := len_pow2 jl
  have p0 := hx.1.1
  have q0 := hx.2
  have hb0 : b0 = false := by rw [hx.1.2]; exact decide_eq_false hs
  subst hb0
  have lp := s0.1
  have lq := s0.2
  have hq0 := x0.den_nz
  have lu : (limbs (x0.num.natAbs * 2 ^ k)).length ≤ 28 := limbs_length_mul lp lk
  have ld : (limbs (x0.num.natAbs * 2 ^ k / x0.den)).length ≤ 28 := Nat.le_trans (limbs_length_mono (Nat.div_le_self _ _)) lu
  have hlt := Nat.mod_lt (x0.num.natAbs * 2 ^ k) (Nat.pos_of_ne_zero hq0)
  have lr : (limbs (x0.num.natAbs * 2 ^ k % x0.den)).length ≤ 20 := Nat.le_trans (limbs_length_mono (Nat.le_of_lt hlt)) lq
  clear hlt
  have HF : nea x0 k = (((x0.num.natAbs * 2 ^ k / x0.den : Nat) : Nat) : Int) := by rw [nea_pos x0 k hs, if_neg (by rw [ht]; decide), Nat.add_zero]
  have CK : ∀ {W : World} {A B : Option Addr} {n c m d : Nat}, W.cell? ⟨g, 0, none⟩ = some (.bool false) → W.cell? ⟨g, 1, none⟩ = some (.slice A0 n0 c0) → W.cell? ⟨g, 2, none⟩ = some (.slice B0 m0 d0) → Num W A n c (x0.num.natAbs * 2 ^ k / x0.den) → Num W B m d (x0.num.natAbs * 2 ^ k % x0.den) → Num W B0 m0 d0 x0.den → Calls Tryz.prog 106 #[.slice A n c, .slice B m d, .pointer (some ⟨g, 0, none⟩)] W (GotV W (.bool false)) := fun r0 r1 r2 ha hb hq => by rw [← ht]; exact knear_N r0 r1 r2 ha hb hq (by omega) (by omega)
  obtain ⟨u, hU⟩ : ∃ u, x0.num.natAbs * 2 ^ k = u := ⟨_, rfl⟩
  obtain ⟨t, hT⟩ : ∃ t, x0.num.natAbs * 2 ^ k / x0.den = t := ⟨_, rfl⟩
  obtain ⟨l, hL⟩ : ∃ l, x0.num.natAbs * 2 ^ k % x0.den = l := ⟨_, rfl⟩
  rw [hT, hL] at CK
  rw [hT] at HF ld
  rw [hL] at lr
  rw [hU] at lu hT hL
  have CU : ∀ {W : World} {A : Option Addr} {m c : Nat}, Num W A m c x0.num.natAbs → Calls Tryz.prog 123 #[.slice A m c, .int .i64 j] W (GotP W u 0) := fun ha => by rw [← je, ← hU]; exact dshl_N ha (by omega) (by omega)
  have CD : ∀ {W : World} {A B : Option Addr} {n c m d : Nat}, Num W A n c u → Num W B m d x0.den → Calls Tryz.prog 65 #[.slice A n c, .slice B m d] W (GotD W t l) := fun ha hb => by rw [← hT, ← hL]; exact ddiv_N ha hb (by omega) (by omega) hq0
  have HV := Lib.hid HF
  clear HF hU hT hL hs ht lu
  obtain ⟨r0, r1, r2⟩ := hg
  have rl := cell_lt r0
  simp only at rl
  have cc := Below.refl w.heap.size w
  go_enter Tryz.func105, Tryz.ntmps105
  go_wp2_with fail
  generalize hv_ : (w.alloc (.cells #[.bool false, .slice A0 n0 c0, .slice B0 m0 d0] 48)).alloc (.cells #[.bool false, .slice none 0 0] 42) = v1
  obtain ⟨f0, f1⟩ : Fz2 v1 (w.heap.size + 1) := by simp [Fz2, ← hv_, go_sem]
  have bA : Below w.heap.size w v1 := by rw [← hv_]; exact (((Below.refl _ w).alloc (by simp) _).alloc (by simp) _)
  replace p0 := p0.on bA
  replace q0 := q0.on bA
  rewrite [cR bA rl] at r0 r1 r2
  replace rl := lK bA rl
  replace cc := bK cc bA
  clear bA
  obtain ⟨k0, k1, k2⟩ : Cs3 v1 w.heap.size (.bool false) (.slice A0 n0 c0) (.slice B0 m0 d0) := by simp [Cs3, ← hv_, go_sem]
  have kl : w.heap.size < v1.heap.size := by simp [← hv_] <;> omega
  obtain ⟨g0, g1⟩ : Cs2 v1 (w.heap.size + 1) (.bool false) (.slice none 0 0) := by simp [Cs2, ← hv_, go_sem]
  have gl : w.heap.size + 1 < v1.heap.size := by simp [← hv_] <;> omega
  clear hv_
  refine (isgrid_2 _ h0 hj2).mono ?_
  rintro e w2 ⟨rfl, b⟩
  rewrite [fR b gl] at f0 f1
  replace p0 := p0.on b
  replace q0 := q0.on b
  rewrite [cR b rl] at r0 r1 r2
  replace rl := lK b rl
  rewrite [cR b kl] at k0 k1 k2
  replace kl := lK b kl
  rewrite [cR b gl] at g0 g1
  replace gl := lK b gl
  replace cc := bK cc b
  clear b
  go_wp2_with fail
  refine (CU p0).mono ?_
  rintro e w3 ⟨Av, nv, cv, rfl, v, b⟩
  rewrite [fR b gl] at f0 f1
  replace p0 := p0.on b
  replace q0 := q0.on b
  rewrite [cR b rl] at r0 r1 r2
  replace rl := lK b rl
  rewrite [cR b kl] at k0 k1 k2
  replace kl := lK b kl
  rewrite [cR b gl] at g0 g1
  replace gl := lK b gl
  replace cc := bK cc b
  clear b
  go_wp2_with fail
  refine (CD v q0).mono ?_
  rintro e w4 ⟨Aq, nq, cq, Ar, nr_, cr, rfl, dq, dr, b⟩
  rewrite [fR b gl] at f0 f1
  replace p0 := p0.on b
  replace q0 := q0.on b
  replace v := v.on b
  rewrite [cR b rl] at r0 r1 r2
  replace rl := lK b rl
  rewrite [cR b kl] at k0 k1 k2
  replace kl := lK b kl
  rewrite [cR b gl] at g0 g1
  replace gl := lK b gl
  replace cc := bK cc b
  clear b
  go_wp2_with fail
  refine (CK r0 r1 r2 dq dr q0).mono ?_
  rintro e w5 ⟨rfl, b⟩
  rewrite [fR b gl] at f0 f1
  replace p0 := p0.on b
  replace q0 := q0.on b
  replace v := v.on b
  replace dq := dq.on b
  replace dr := dr.on b
  rewrite [cR b rl] at r0 r1 r2
  replace rl := lK b rl
  rewrite [cR b kl] at k0 k1 k2
  replace kl := lK b kl
  rewrite [cR b gl] at g0 g1
  replace gl := lK b gl
  replace cc := bK cc b
  clear b
  have hn : Zn w5 false Aq nq cq (nea x0 k) := by rw [HV.out]; exact zn_nat dq
  have eb : Box w5 (w.heap.size + 1) false none 0 0 := ⟨g0, g1⟩
  have HZ : Hid (Zn ((w5.setCell ⟨w.heap.size + 1, 0, none⟩ (.bool false)).setCell ⟨w.heap.size + 1, 1, none⟩ (.slice Aq nq cq)) false Aq nq cq (nea x0 k)) := Lib.hid (hn.put eb _ _)
  clear hn
  go_wp2_with fail
  refine bodyPost_ret (v := .tuple #[.agg #[.bool false, .slice Aq nq cq], .int .i64 0]) (by simp [results, Tryz.results105, go_sem, g0, g1]) rfl ⟨_, _, _, _, rfl, HZ.out, below_put cc (by omega) _ _⟩

theorem rdnea_ft {w : World} {b0 : Bool} {A0 B0 : Option Addr} {n0 c0 m0 d0 : Nat} {g : Nat} {x0 : Rat} (hx : Rt w b0 A0 n0 c0 B0 m0 d0 x0) (s0 : Sz x0 20) {j : Int} (h0 : 0 ≤ j) (h1 : j ≤ 500) (hg : BoxR w g b0 A0 n0 c0 B0 m0 d0) (hs : ¬ x0.num < 0) (ht : fars (x0.num.natAbs * 2 ^ j.toNat) x0.den = true) :
    Calls Tryz.prog 105 #[.agg #[.bool b0, .slice A0 n0 c0, .slice B0 m0 d0], .int .i64 j, .func (.func 106) #[] #[.pointer (some ⟨g, 0, none⟩)]] w (GotZp w (nea x0 j.toNat) 0) := by
  have je := to_nat h0
  have jl : j.toNat ≤ 500 := by omega
  have hj2 : j ≤ 2000 := by omega
  obtain ⟨k, hk⟩ : ∃ k, j.toNat = k := ⟨_, rfl⟩
  rw [hk] at je jl ht ⊢
  have lk := len_pow2 jl
  have p0 := hx.1.1
  have q0 := hx.2
  have hb0 : b0 = false := by rw [hx.1.2]; exact decide_eq_false hs
  subst hb0
  have lp := s0.1
  have lq := s0.2
  have hq0 := x0.den_nz
  have lu : (limbs (x0.num.natAbs * 2 ^ k)).length ≤ 28 := limbs_length_mul lp lk
  have ld : (limbs (x0.num.natAbs * 2 ^ k / x0.den)).length ≤ 28 := Nat.le_trans (limbs_length_mono (Nat.div_le_self _ _)) lu
  have hlt := Nat.mod_lt (x0.num.natAbs * 2 ^ k) (Nat.pos_of_ne_zero hq0)
  have lr : (limbs (x0.num.natAbs * 2 ^ k % x0.den)).length ≤ 20 := Nat.le_trans (limbs_length_mono (Nat.le_of_lt hlt)) lq
  clear hlt
  have HF : nea x0 k = (((x0.num.natAbs * 2 ^ k / x0.den + 1 : Nat) : Nat) : Int) := by rw [nea_pos x0 k hs, if_pos ht]
  have CK : ∀ {W : World} {A B : Option Addr} {n c m d : Nat}, W.cell? ⟨g, 0, none⟩ = some (.bool false) → W.cell? ⟨g, 1, none⟩ = some (.slice A0 n0 c0) → W.cell? ⟨g, 2, none⟩ = some (.slice B0 m0 d0) → Num W A n c (x0.num.natAbs * 2 ^ k / x0.den) → Num W B m d (x0.num.natAbs * 2 ^ k % x0.den) → Num W B0 m0 d0 x0.den → Calls Tryz.prog 106 #[.slice A n c, .slice B m d, .pointer (some ⟨g, 0, none⟩)] W (GotV W (.bool true)) := fun r0 r1 r2 ha hb hq => by rw [← ht]; exact knear_N r0 r1 r2 ha hb hq (by omega) (by omega)
  obtain ⟨u, hU⟩ : ∃ u, x0.num.natAbs * 2 ^ k = u := ⟨_, rfl⟩
  obtain ⟨t, hT⟩ : ∃ t, x0.num.natAbs * 2 ^ k / x0.den = t := ⟨_, rfl⟩
  obtain ⟨l, hL⟩ : ∃ l, x0.num.natAbs * 2 ^ k % x0.den = l := ⟨_, rfl⟩
  rw [hT, hL] at CK
  rw [hT] at HF ld
  rw [hL] at lr
  rw [hU] at lu hT hL
  have CU : ∀ {W : World} {A : Option Addr} {m c : Nat}, Num W A m c x0.num.natAbs → Calls Tryz.prog 123 #[.slice A m c, .int .i64 j] W (GotP W u 0) := fun ha => by rw [← je, ← hU]; exact dshl_N ha (by omega) (by omega)
  have CD : ∀ {W : World} {A B : Option Addr} {n c m d : Nat}, Num W A n c u → Num W B m d x0.den → Calls Tryz.prog 65 #[.slice A n c, .slice B m d] W (GotD W t l) := fun ha hb => by rw [← hT, ← hL]; exact ddiv_N ha hb (by omega) (by omega) hq0
  have HV := Lib.hid HF
  clear HF hU hT hL hs ht lu
  have la : (limbs (t + 1)).length ≤ 29 := limbs_length_add ld (Nat.le_trans (len_one (by decide)) (by omega))
  have l1 : (limbs 1).length ≤ 1000 := Nat.le_trans (len_one (by decide)) (by omega)
  obtain ⟨r0, r1, r2⟩ := hg
  have rl := cell_lt r0
  simp only at rl
  have cc := Below.refl w.heap.size w
  go_enter Tryz.func105, Tryz.ntmps105
  go_wp2_with fail
  generalize hv_ : (w.alloc (.cells #[.bool false, .slice A0 n0 c0, .slice B0 m0 d0] 48)).alloc (.cells #[.bool false, .slice none 0 0] 42) = v1
  obtain ⟨f0, f1⟩ : Fz2 v1 (w.heap.size + 1) := by simp [Fz2, ← hv_, go_sem]
  have bA : Below w.heap.size w v1 := by rw [← hv_]; exact (((Below.refl _ w).alloc (by simp) _).alloc (by simp) _)
  replace p0 := p0.on bA
  replace q0 := q0.on bA
  rewrite [cR bA rl] at r0 r1 r2
  replace rl := lK bA rl
  replace cc := bK cc bA
  clear bA
  obtain ⟨k0, k1, k2⟩ : Cs3 v1 w.heap.size (.bool false) (.slice A0 n0 c0) (.slice B0 m0 d0) := by simp [Cs3, ← hv_, go_sem]
  have kl : w.heap.size < v1.heap.size := by simp [← hv_] <;> omega
  obtain ⟨g0, g1⟩ : Cs2 v1 (w.heap.size + 1) (.bool false) (.slice none 0 0) := by simp [Cs2, ← hv_, go_sem]
  have gl : w.heap.size + 1 < v1.heap.size := by simp [← hv_] <;> omega
  clear hv_
  refine (isgrid_2 _ h0 hj2).mono ?_
  rintro e w2 ⟨rfl, b⟩
  rewrite [fR b gl] at f0 f1
  replace p0 := p0.on b
  replace q0 := q0.on b
  rewrite [cR b rl] at r0 r1 r2
  replace rl := lK b rl
  rewrite [cR b kl] at k0 k1 k2
  replace kl := lK b kl
  rewrite [cR b gl] at g0 g1
  replace gl := lK b gl
  replace cc := bK cc b
  clear b
  go_wp2_with fail
  refine (CU p0).mono ?_
  rintro e w3 ⟨Av, nv, cv, rfl, v, b⟩
  rewrite [fR b gl] at f0 f1
  replace p0 := p0.on b
  replace q0 := q0.on b
  rewrite [cR b rl] at r0 r1 r2
  replace rl := lK b rl
  rewrite [cR b kl] at k0 k1 k2
  replace kl := lK b kl
  rewrite [cR b gl] at g0 g1
  replace gl := lK b gl
  replace cc := bK cc b
  clear b
  go_wp2_with fail
  refine (CD v q0).mono ?_
  rintro e w4 ⟨Aq, nq, cq, Ar, nr_, cr, rfl, dq, dr, b⟩
  rewrite [fR b gl] at f0 f1
  replace p0 := p0.on b
  replace q0 := q0.on b
  replace v := v.on b
  rewrite [cR b rl] at r0 r1 r2
  replace rl := lK b rl
  rewrite [cR b kl] at k0 k1 k2
  replace kl := lK b kl
  rewrite [cR b gl] at g0 g1
  replace gl := lK b gl
  replace cc := bK cc b
  clear b
  go_wp2_with fail
  refine (CK r0 r1 r2 dq dr q0).mono ?_
  rintro e w5 ⟨rfl, b⟩
  rewrite [fR b gl] at f0 f1
  replace p0 := p0.on b
  replace q0 := q0.on b
  replace v := v.on b
  replace dq := dq.on b
  replace dr := dr.on b
  rewrite [cR b rl] at r0 r1 r2
  replace rl := lK b rl
  rewrite [cR b kl] at k0 k1 k2
  replace kl := lK b kl
  rewrite [cR b gl] at g0 g1
  replace gl := lK b gl
  replace cc := bK cc b
  clear b
  go_wp2_with fail
  refine (of_N _ 1 (by decide)).mono ?_
  rintro e w6 ⟨Ao, no, co, rfl, o, b⟩
  rewrite [fR b gl] at f0 f1
  replace p0 := p0.on b
  replace q0 := q0.on b
  replace v := v.on b
  replace dq := dq.on b
  replace dr := dr.on b
  rewrite [cR b rl] at r0 r1 r2
  replace rl := lK b rl
  rewrite [cR b kl] at k0 k1 k2
  replace kl := lK b kl
  rewrite [cR b gl] at g0 g1
  replace gl := lK b gl
  replace cc := bK cc b
  clear b
  go_wp2_with fail
  refine (add_N dq o (by omega) (by omega)).mono ?_
  rintro e w7 ⟨Aa, na, ca, rfl, a, b⟩
  rewrite [fR b gl] at f0 f1
  replace p0 := p0.on b
  replace q0 := q0.on b
  replace v := v.on b
  replace dq := dq.on b
  replace dr := dr.on b
  replace o := o.on b
  rewrite [cR b rl] at r0 r1 r2
  replace rl := lK b rl
  rewrite [cR b kl] at k0 k1 k2
  replace kl := lK b kl
  rewrite [cR b gl] at g0 g1
  replace gl := lK b gl
  replace cc := bK cc b
  clear b
  have hn : Zn w7 false Aa na ca (nea x0 k) := by rw [HV.out]; exact zn_nat a
  have eb : Box w7 (w.heap.size + 1) false none 0 0 := ⟨g0, g1⟩
  have HZ : Hid (Zn ((w7.setCell ⟨w.heap.size + 1, 0, none⟩ (.bool false)).setCell ⟨w.heap.size + 1, 1, none⟩ (.slice Aa na ca)) false Aa na ca (nea x0 k)) := Lib.hid (hn.put eb _ _)
  clear hn
  go_wp2_with fail
  refine bodyPost_ret (v := .tuple #[.agg #[.bool false, .slice Aa na ca], .int .i64 0]) (by simp [results, Tryz.results105, go_sem, g0, g1]) rfl ⟨_, _, _, _, rfl, HZ.out, below_put cc (by omega) _ _⟩

theorem rdnea_tf0 {w : World} {b0 : Bool} {A0 B0 : Option Addr} {n0 c0 m0 d0 : Nat} {g : Nat} {x0 : Rat} (hx : Rt w b0 A0 n0 c0 B0 m0 d0 x0) (s0 : Sz x0 20) {j : Int} (h0 : 0 ≤ j) (h1 : j ≤ 500) (hg : BoxR w g b0 A0 n0 c0 B0 m0 d0) (hs : x0.num < 0) (ht : fars (x0.num.natAbs * 2 ^ j.toNat) x0.den = false) (hz : x0.num.natAbs * 2 ^ j.toNat / x0.den = 0) :
    Calls Tryz.prog 105 #[.agg #[.bool b0, .slice A0 n0 c0, .slice B0 m0 d0], .int .i64 j, .func (.func 106) #[] #[.pointer (some ⟨g, 0, none⟩)]] w (GotZp w (nea x0 j.toNat) 0) := by
  have je := to_nat h0
  have jl : j.toNat ≤ 500 := by omega
  have hj2 : j ≤ 2000 := by omega
  obtain ⟨k, hk⟩ : ∃ k, j.toNat = k := ⟨_, rfl⟩
  rw [hk] at je jl ht hz ⊢
  have lk := len_pow2 jl
  have p0 := hx.1.1
  have q0 := hx.2
  have hb0 : b0 = true := by rw [hx.1.2]; exact decide_eq_true hs
  subst hb0
  have lp := s0.1
  have lq := s0.2
  have hq0 := x0.den_nz
  have lu : (limbs (x0.num.natAbs * 2 ^ k)).length ≤ 28 := limbs_length_mul lp lk
  have ld : (limbs (x0.num.natAbs * 2 ^ k / x0.den)).length ≤ 28 := Nat.le_trans (limbs_length_mono (Nat.div_le_self _ _)) lu
  have hlt := Nat.mod_lt (x0.num.natAbs * 2 ^ k) (Nat.pos_of_ne_zero hq0)
  have lr : (limbs (x0.num.natAbs * 2 ^ k % x0.den)).length ≤ 20 := Nat.le_trans (limbs_length_mono (Nat.le_of_lt hlt)) lq
  clear hlt
  have HF : nea x0 k = -(((x0.num.natAbs * 2 ^ k / x0.den : Nat) : Nat) : Int) := by rw [nea_less x0 k hs, if_neg (by rw [ht]; decide), Nat.add_zero]
  have CK : ∀ {W : World} {A B : Option Addr} {n c m d : Nat}, W.cell? ⟨g, 0, none⟩ = some (.bool true) → W.cell? ⟨g, 1, none⟩ = some (.slice A0 n0 c0) → W.cell? ⟨g, 2, none⟩ = some (.slice B0 m0 d0) → Num W A n c (x0.num.natAbs * 2 ^ k / x0.den) → Num W B m d (x0.num.natAbs * 2 ^ k % x0.den) → Num W B0 m0 d0 x0.den → Calls Tryz.prog 106 #[.slice A n c, .slice B m d, .pointer (some ⟨g, 0, none⟩)] W (GotV W (.bool false)) := fun r0 r1 r2 ha hb hq => by rw [← ht]; exact knear_N r0 r1 r2 ha hb hq (by omega) (by omega)
  obtain ⟨u, hU⟩ : ∃ u, x0.num.natAbs * 2 ^ k = u := ⟨_, rfl⟩
  obtain ⟨t, hT⟩ : ∃ t, x0.num.natAbs * 2 ^ k / x0.den = t := ⟨_, rfl⟩
  obtain ⟨l, hL⟩ : ∃ l, x0.num.natAbs * 2 ^ k % x0.den = l := ⟨_, rfl⟩
  rw [hT, hL] at CK
  rw [hT] at HF ld hz
  rw [hL] at lr
  rw [hU] at lu hT hL
  have CU : ∀ {W : World} {A : Option Addr} {m c : Nat}, Num W A m c x0.num.natAbs → Calls Tryz.prog 123 #[.slice A m c, .int .i64 j] W (GotP W u 0) := fun ha => by rw [← je, ← hU]; exact dshl_N ha (by omega) (by omega)
  have CD : ∀ {W : World} {A B : Option Addr} {n c m d : Nat}, Num W A n c u → Num W B m d x0.den → Calls Tryz.prog 65 #[.slice A n c, .slice B m d] W (GotD W t l) := fun ha hb => by rw [← hT, ← hL]; exact ddiv_N ha hb (by omega) (by omega) hq0
  subst hz
  have HV := Lib.hid HF
  clear HF hU hT hL hs ht lu
  obtain ⟨r0, r1, r2⟩ := hg
  have rl := cell_lt r0
  simp only at rl
  have cc := Below.refl w.heap.size w
  go_enter Tryz.func105, Tryz.ntmps105
  go_wp2_with fail
  generalize hv_ : (w.alloc (.cells #[.bool true, .slice A0 n0 c0, .slice B0 m0 d0] 48)).alloc (.cells #[.bool false, .slice none 0 0] 42) = v1
  obtain ⟨f0, f1⟩ : Fz2 v1 (w.heap.size + 1) := by simp [Fz2, ← hv_, go_sem]
  have bA : Below w.heap.size w v1 := by rw [← hv_]; exact (((Below.refl _ w).alloc (by simp) _).alloc (by simp) _)
  replace p0 := p0.on bA
  replace q0 := q0.on bA
  rewrite [cR bA rl] at r0 r1 r2
  replace rl := lK bA rl
  replace cc := bK cc bA
  clear bA
  obtain ⟨k0, k1, k2⟩ : Cs3 v1 w.heap.size (.bool true) (.slice A0 n0 c0) (.slice B0 m0 d0) := by simp [Cs3, ← hv_, go_sem]
  have kl : w.heap.size < v1.heap.size := by simp [← hv_] <;> omega
  obtain ⟨g0, g1⟩ : Cs2 v1 (w.heap.size + 1) (.bool false) (.slice none 0 0) := by simp [Cs2, ← hv_, go_sem]
  have gl : w.heap.size + 1 < v1.heap.size := by simp [← hv_] <;> omega
  clear hv_
  refine (isgrid_2 _ h0 hj2).mono ?_
  rintro e w2 ⟨rfl, b⟩
  rewrite [fR b gl] at f0 f1
  replace p0 := p0.on b
  replace q0 := q0.on b
  rewrite [cR b rl] at r0 r1 r2
  replace rl := lK b rl
  rewrite [cR b kl] at k0 k1 k2
  replace kl := lK b kl
  rewrite [cR b gl] at g0 g1
  replace gl := lK b gl
  replace cc := bK cc b
  clear b
  go_wp2_with fail
  refine (CU p0).mono ?_
  rintro e w3 ⟨Av, nv, cv, rfl, v, b⟩
  rewrite [fR b gl] at f0 f1
  replace p0 := p0.on b
  replace q0 := q0.on b
  rewrite [cR b rl] at r0 r1 r2
  replace rl := lK b rl
  rewrite [cR b kl] at k0 k1 k2
  replace kl := lK b kl
  rewrite [cR b gl] at g0 g1
  replace gl := lK b gl
  replace cc := bK cc b
  clear b
  go_wp2_with fail
  refine (CD v q0).mono ?_
  rintro e w4 ⟨Aq, nq, cq, Ar, nr_, cr, rfl, dq, dr, b⟩
  rewrite [fR b gl] at f0 f1
  replace p0 := p0.on b
  replace q0 := q0.on b
  replace v := v.on b
  rewrite [cR b rl] at r0 r1 r2
  replace rl := lK b rl
  rewrite [cR b kl] at k0 k1 k2
  replace kl := lK b kl
  rewrite [cR b gl] at g0 g1
  replace gl := lK b gl
  replace cc := bK cc b
  clear b
  go_wp2_with fail
  refine (CK r0 r1 r2 dq dr q0).mono ?_
  rintro e w5 ⟨rfl, b⟩
  rewrite [fR b gl] at f0 f1
  replace p0 := p0.on b
  replace q0 := q0.on b
  replace v := v.on b
  replace dq := dq.on b
  replace dr := dr.on b
  rewrite [cR b rl] at r0 r1 r2
  replace rl := lK b rl
  rewrite [cR b kl] at k0 k1 k2
  replace kl := lK b kl
  rewrite [cR b gl] at g0 g1
  replace gl := lK b gl
  replace cc := bK cc b
  clear b
  have hn0 := num_void dq rfl
  subst hn0
  have hn : Zn w5 false Aq 0 cq (nea x0 k) := by rw [HV.out]; exact zn_nat dq
  have eb : Box w5 (w.heap.size + 1) false none 0 0 := ⟨g0, g1⟩
  have HZ : Hid (Zn ((w5.setCell ⟨w.heap.size + 1, 0, none⟩ (.bool false)).setCell ⟨w.heap.size + 1, 1, none⟩ (.slice Aq 0 cq)) false Aq 0 cq (nea x0 k)) := Lib.hid (hn.put eb _ _)
  clear hn
  go_wp2_with fail
  refine bodyPost_ret (v := .tuple #[.agg #[.bool false, .slice Aq 0 cq], .int .i64 0]) (by simp [results, Tryz.results105, go_sem, g0, g1]) rfl ⟨_, _, _, _, rfl, HZ.out, below_put cc (by omega) _ _⟩

theorem rdnea_tf1 {w : World} {b0 : Bool} {A0 B0 : Option Addr} {n0 c0 m0 d0 : Nat} {g : Nat} {x0 : Rat} (hx : Rt w b0 A0 n0 c0 B0 m0 d0 x0) (s0 : Sz x0 20) {j : Int} (h0 : 0 ≤ j) (h1 : j ≤ 500) (hg : BoxR w g b0 A0 n0 c0 B0 m0 d0) (hs : x0.num < 0) (ht : fars (x0.num.natAbs * 2 ^ j.toNat) x0.den = false) (hz : x0.num.natAbs * 2 ^ j.toNat / x0.den ≠ 0) :
    Calls Tryz.prog 105 #[.agg #[.bool b0, .slice A0 n0 c0, .slice B0 m0 d0], .int .i64 j, .func (.func 106) #[] #[.pointer (some ⟨g, 0, none⟩)]] w (GotZp w (nea x0 j.toNat) 0) := by
  have je := to_nat h0
  have jl : j.toNat ≤ 500 := by omega
  have hj2 : j ≤ 2000 := by omega
  obtain ⟨k, hk⟩ : ∃ k, j.toNat = k := ⟨_, rfl⟩
  rw [hk] at je jl ht hz ⊢
  have lk := len_pow2 jl
  have p0 := hx.1.1
  have q0 := hx.2
  have hb0 : b0 = true := by rw [hx.1.2]; exact decide_eq_true hs
  subst hb0
  have lp := s0.1
  have lq := s0.2
  have hq0 := x0.den_nz
  have lu : (limbs (x0.num.natAbs * 2 ^ k)).length ≤ 28 := limbs_length_mul lp lk
  have ld : (limbs (x0.num.natAbs * 2 ^ k / x0.den)).length ≤ 28 := Nat.le_trans (limbs_length_mono (Nat.div_le_self _ _)) lu
  have hlt := Nat.mod_lt (x0.num.natAbs * 2 ^ k) (Nat.pos_of_ne_zero hq0)
  have lr : (limbs (x0.num.natAbs * 2 ^ k % x0.den)).length ≤ 20 := Nat.le_trans (limbs_length_mono (Nat.le_of_lt hlt)) lq
  clear hlt
  have HF : nea x0 k = -(((x0.num.natAbs * 2 ^ k / x0.den : Nat) : Nat) : Int) := by rw [nea_less x0 k hs, if_neg (by rw [ht]; decide), Nat.add_zero]
  have CK : ∀ {W : World} {A B : Option Addr} {n c m d : Nat}, W.cell? ⟨g, 0, none⟩ = some (.bool true) → W.cell? ⟨g, 1, none⟩ = some (.slice A0 n0 c0) → W.cell? ⟨g, 2, none⟩ = some (.slice B0 m0 d0) → Num W A n c (x0.num.natAbs * 2 ^ k / x0.den) → Num W B m d (x0.num.natAbs * 2 ^ k % x0.den) → Num W B0 m0 d0 x0.den → Calls Tryz.prog 106 #[.slice A n c, .slice B m d, .pointer (some ⟨g, 0, none⟩)] W (GotV W (.bool false)) := fun r0 r1 r2 ha hb hq => by rw [← ht]; exact knear_N r0 r1 r2 ha hb hq (by omega) (by omega)
  obtain ⟨u, hU⟩ : ∃ u, x0.num.natAbs * 2 ^ k = u := ⟨_, rfl⟩
  obtain ⟨t, hT⟩ : ∃ t, x0.num.natAbs * 2 ^ k / x0.den = t := ⟨_, rfl⟩
  obtain ⟨l, hL⟩ : ∃ l, x0.num.natAbs * 2 ^ k % x0.den = l := ⟨_, rfl⟩
  rw [hT, hL] at CK
  rw [hT] at HF ld hz
  rw [hL] at lr
  rw [hU] at lu hT hL
  have CU : ∀ {W : World} {A : Option Addr} {m c : Nat}, Num W A m c x0.num.natAbs → Calls Tryz.prog 123 #[.slice A m c, .int .i64 j] W (GotP W u 0) := fun ha => by rw [← je, ← hU]; exact dshl_N ha (by omega) (by omega)
  have CD : ∀ {W : World} {A B : Option Addr} {n c m d : Nat}, Num W A n c u → Num W B m d x0.den → Calls Tryz.prog 65 #[.slice A n c, .slice B m d] W (GotD W t l) := fun ha hb => by rw [← hT, ← hL]; exact ddiv_N ha hb (by omega) (by omega) hq0
  have HV := Lib.hid HF
  clear HF hU hT hL hs ht lu
  have HT0 := Lib.hid hz
  clear hz
  obtain ⟨r0, r1, r2⟩ := hg
  have rl := cell_lt r0
  simp only at rl
  have cc := Below.refl w.heap.size w
  go_enter Tryz.func105, Tryz.ntmps105
  go_wp2_with fail
  generalize hv_ : (w.alloc (.cells #[.bool true, .slice A0 n0 c0, .slice B0 m0 d0] 48)).alloc (.cells #[.bool false, .slice none 0 0] 42) = v1
  obtain ⟨f0, f1⟩ : Fz2 v1 (w.heap.size + 1) := by simp [Fz2, ← hv_, go_sem]
  have bA : Below w.heap.size w v1 := by rw [← hv_]; exact (((Below.refl _ w).alloc (by simp) _).alloc (by simp) _)
  replace p0 := p0.on bA
  replace q0 := q0.on bA
  rewrite [cR bA rl] at r0 r1 r2
  replace rl := lK bA rl
  replace cc := bK cc bA
  clear bA
  obtain ⟨k0, k1, k2⟩ : Cs3 v1 w.heap.size (.bool true) (.slice A0 n0 c0) (.slice B0 m0 d0) := by simp [Cs3, ← hv_, go_sem]
  have kl : w.heap.size < v1.heap.size := by simp [← hv_] <;> omega
  obtain ⟨g0, g1⟩ : Cs2 v1 (w.heap.size + 1) (.bool false) (.slice none 0 0) := by simp [Cs2, ← hv_, go_sem]
  have gl : w.heap.size + 1 < v1.heap.size := by simp [← hv_] <;> omega
  clear hv_
  refine (isgrid_2 _ h0 hj2).mono ?_
  rintro e w2 ⟨rfl, b⟩
  rewrite [fR b gl] at f0 f1
  replace p0 := p0.on b
  replace q0 := q0.on b
  rewrite [cR b rl] at r0 r1 r2
  replace rl := lK b rl
  rewrite [cR b kl] at k0 k1 k2
  replace kl := lK b kl
  rewrite [cR b gl] at g0 g1
  replace gl := lK b gl
  replace cc := bK cc b
  clear b
  go_wp2_with fail
  refine (CU p0).mono ?_
  rintro e w3 ⟨Av, nv, cv, rfl, v, b⟩
  rewrite [fR b gl] at f0 f1
  replace p0 := p0.on b
  replace q0 := q0.on b
  rewrite [cR b rl] at r0 r1 r2
  replace rl := lK b rl
  rewrite [cR b kl] at k0 k1 k2
  replace kl := lK b kl
  rewrite [cR b gl] at g0 g1
  replace gl := lK b gl
  replace cc := bK cc b
  clear b
  go_wp2_with fail
  refine (CD v q0).mono ?_
  rintro e w4 ⟨Aq, nq, cq, Ar, nr_, cr, rfl, dq, dr, b⟩
  rewrite [fR b gl] at f0 f1
  replace p0 := p0.on b
  replace q0 := q0.on b
  replace v := v.on b
  rewrite [cR b rl] at r0 r1 r2
  replace rl := lK b rl
  rewrite [cR b kl] at k0 k1 k2
  replace kl := lK b kl
  rewrite [cR b gl] at g0 g1
  replace gl := lK b gl
  replace cc := bK cc b
  clear b
  go_wp2_with fail
  refine (CK r0 r1 r2 dq dr q0).mono ?_
  rintro e w5 ⟨rfl, b⟩
  rewrite [fR b gl] at f0 f1
  replace p0 := p0.on b
  replace q0 := q0.on b
  replace v := v.on b
  replace dq := dq.on b
  replace dr := dr.on b
  rewrite [cR b rl] at r0 r1 r2
  replace rl := lK b rl
  rewrite [cR b kl] at k0 k1 k2
  replace kl := lK b kl
  rewrite [cR b gl] at g0 g1
  replace gl := lK b gl
  replace cc := bK cc b
  clear b
  have hn0 : 0 < nq := dq.some_len HT0.out
  have hn1 : decide ((0 : Int) < (nq : Int)) = true := decide_eq_true (by omega)
  have hn2 : decide (0 < nq) = true := decide_eq_true hn0
  have hn : Zn w5 true Aq nq cq (nea x0 k) := by rw [HV.out]; exact zn_minus dq (HT0.out)
  have eb : Box w5 (w.heap.size + 1) false none 0 0 := ⟨g0, g1⟩
  have HZ : Hid (Zn ((w5.setCell ⟨w.heap.size + 1, 0, none⟩ (.bool true)).setCell ⟨w.heap.size + 1, 1, none⟩ (.slice Aq nq cq)) true Aq nq cq (nea x0 k)) := Lib.hid (hn.put eb _ _)
  clear hn
  go_wp2_with fail
  refine bodyPost_ret (v := .tuple #[.agg #[.bool true, .slice Aq nq cq], .int .i64 0]) (by simp [results, Tryz.results105, go_sem, g0, g1]) rfl ⟨_, _, _, _, rfl, HZ.out, below_put cc (by omega) _ _⟩

theorem rdnea_tt {w : World} {b0 : Bool} {A0 B0 : Option Addr} {n0 c0 m0 d0 : Nat} {g : Nat} {x0 : Rat} (hx : Rt w b0 A0 n0 c0 B0 m0 d0 x0) (s0 : Sz x0 20) {j : Int} (h0 : 0 ≤ j) (h1 : j ≤ 500) (hg : BoxR w g b0 A0 n0 c0 B0 m0 d0) (hs : x0.num < 0) (ht : fars (x0.num.natAbs * 2 ^ j.toNat) x0.den = true) :
    Calls Tryz.prog 105 #[.agg #[.bool b0, .slice A0 n0 c0, .slice B0 m0 d0], .int .i64 j, .func (.func 106) #[] #[.pointer (some ⟨g, 0, none⟩)]] w (GotZp w (nea x0 j.toNat) 0) := by
  have je := to_nat h0
  have jl : j.toNat ≤ 500 := by omega
  have hj2 : j ≤ 2000 := by omega
  obtain ⟨k, hk⟩ : ∃ k, j.toNat = k := ⟨_, rfl⟩
  rw [hk] at je jl ht ⊢
  have lk := len_pow2 jl
  have p0 := hx.1.1
  have q0 := hx.2
  have hb0 : b0 = true := by rw [hx.1.2]; exact decide_eq_true hs
  subst hb0
  have lp := s0.1
  have lq := s0.2
  have hq0 := x0.den_nz
  have lu : (limbs (x0.num.natAbs * 2 ^ k)).length ≤ 28 := limbs_length_mul lp lk
  have ld : (limbs (x0.num.natAbs * 2 ^ k / x0.den)).length ≤ 28 := Nat.le_trans (limbs_length_mono (Nat.div_le_self _ _)) lu
  have hlt := Nat.mod_lt (x0.num.natAbs * 2 ^ k) (Nat.pos_of_ne_zero hq0)
  have lr : (limbs (x0.num.natAbs * 2 ^ k % x0.den)).length ≤ 20 := Nat.le_trans (limbs_length_mono (Nat.le_of_lt hlt)) lq
  clear hlt
  have HF : nea x0 k = -(((x0.num.natAbs * 2 ^ k / x0.den + 1 : Nat) : Nat) : Int) := by rw [nea_less x0 k hs, if_pos ht]
  have CK : ∀ {W : World} {A B : Option Addr} {n c m d : Nat}, W.cell? ⟨g, 0, none⟩ = some (.bool true) → W.cell? ⟨g, 1, none⟩ = some (.slice A0 n0 c0) → W.cell? ⟨g, 2, none⟩ = some (.slice B0 m0 d0) → Num W A n c (x0.num.natAbs * 2 ^ k / x0.den) → Num W B m d (x0.num.natAbs * 2 ^ k % x0.den) → Num W B0 m0 d0 x0.den → Calls Tryz.prog 106 #[.slice A n c, .slice B m d, .pointer (some ⟨g, 0, none⟩)] W (GotV W (.bool true)) := fun r0 r1 r2 ha hb hq => by rw [← ht]; exact knear_N r0 r1 r2 ha hb hq (by omega) (by omega)
  obtain ⟨u, hU⟩ : ∃ u, x0.num.natAbs * 2 ^ k = u := ⟨_, rfl⟩
  obtain ⟨t, hT⟩ : ∃ t, x0.num.natAbs * 2 ^ k / x0.den = t := ⟨_, rfl⟩
  obtain ⟨l, hL⟩ : ∃ l, x0.num.natAbs * 2 ^ k % x0.den = l := ⟨_, rfl⟩
  rw [hT, hL] at CK
  rw [hT] at HF ld
  rw [hL] at lr
  rw [hU] at lu hT hL
  have CU : ∀ {W : World} {A : Option Addr} {m c : Nat}, Num W A m c x0.num.natAbs → Calls Tryz.prog 123 #[.slice A m c, .int .i64 j] W (GotP W u 0) := fun ha => by rw [← je, ← hU]; exact dshl_N ha (by omega) (by omega)
  have CD : ∀ {W : World} {A B : Option Addr} {n c m d : Nat}, Num W A n c u → Num W B m d x0.den → Calls Tryz.prog 65 #[.slice A n c, .slice B m d] W (GotD W t l) := fun ha hb => by rw [← hT, ← hL]; exact ddiv_N ha hb (by omega) (by omega) hq0
  have HV := Lib.hid HF
  clear HF hU hT hL hs ht lu
  have la : (limbs (t + 1)).length ≤ 29 := limbs_length_add ld (Nat.le_trans (len_one (by decide)) (by omega))
  have l1 : (limbs 1).length ≤ 1000 := Nat.le_trans (len_one (by decide)) (by omega)
  obtain ⟨r0, r1, r2⟩ := hg
  have rl := cell_lt r0
  simp only at rl
  have cc := Below.refl w.heap.size w
  go_enter Tryz.func105, Tryz.ntmps105
  go_wp2_with fail
  generalize hv_ : (w.alloc (.cells #[.bool true, .slice A0 n0 c0, .slice B0 m0 d0] 48)).alloc (.cells #[.bool false, .slice none 0 0] 42) = v1
  obtain ⟨f0, f1⟩ : Fz2 v1 (w.heap.size + 1) := by simp [Fz2, ← hv_, go_sem]
  have bA : Below w.heap.size w v1 := by rw [← hv_]; exact (((Below.refl _ w).alloc (by simp) _).alloc (by simp) _)
  replace p0 := p0.on bA
  replace q0 := q0.on bA
  rewrite [cR bA rl] at r0 r1 r2
  replace rl := lK bA rl
  replace cc := bK cc bA
  clear bA
  obtain ⟨k0, k1, k2⟩ : Cs3 v1 w.heap.size (.bool true) (.slice A0 n0 c0) (.slice B0 m0 d0) := by simp [Cs3, ← hv_, go_sem]
  have kl : w.heap.size < v1.heap.size := by simp [← hv_] <;> omega
  obtain ⟨g0, g1⟩ : Cs2 v1 (w.heap.size + 1) (.bool false) (.slice none 0 0) := by simp [Cs2, ← hv_, go_sem]
  have gl : w.heap.size + 1 < v1.heap.size := by simp [← hv_] <;> omega
  clear hv_
  refine (isgrid_2 _ h0 hj2).mono ?_
  rintro e w2 ⟨rfl, b⟩
  rewrite [fR b gl] at f0 f1
  replace p0 := p0.on b
  replace q0 := q0.on b
  rewrite [cR b rl] at r0 r1 r2
  replace rl := lK b rl
  rewrite [cR b kl] at k0 k1 k2
  replace kl := lK b kl
  rewrite [cR b gl] at g0 g1
  replace gl := lK b gl
  replace cc := bK cc b
  clear b
  go_wp2_with fail
  refine (CU p0).mono ?_
  rintro e w3 ⟨Av, nv, cv, rfl, v, b⟩
  rewrite [fR b gl] at f0 f1
  replace p0 := p0.on b
  replace q0 := q0.on b
  rewrite [cR b rl] at r0 r1 r2
  replace rl := lK b rl
  rewrite [cR b kl] at k0 k1 k2
  replace kl := lK b kl
  rewrite [cR b gl] at g0 g1
  replace gl := lK b gl
  replace cc := bK cc b
  clear b
  go_wp2_with fail
  refine (CD v q0).mono ?_
  rintro e w4 ⟨Aq, nq, cq, Ar, nr_, cr, rfl, dq, dr, b⟩
  rewrite [fR b gl] at f0 f1
  replace p0 := p0.on b
  replace q0 := q0.on b
  replace v := v.on b
  rewrite [cR b rl] at r0 r1 r2
  replace rl := lK b rl
  rewrite [cR b kl] at k0 k1 k2
  replace kl := lK b kl
  rewrite [cR b gl] at g0 g1
  replace gl := lK b gl
  replace cc := bK cc b
  clear b
  go_wp2_with fail
  refine (CK r0 r1 r2 dq dr q0).mono ?_
  rintro e w5 ⟨rfl, b⟩
  rewrite [fR b gl] at f0 f1
  replace p0 := p0.on b
  replace q0 := q0.on b
  replace v := v.on b
  replace dq := dq.on b
  replace dr := dr.on b
  rewrite [cR b rl] at r0 r1 r2
  replace rl := lK b rl
  rewrite [cR b kl] at k0 k1 k2
  replace kl := lK b kl
  rewrite [cR b gl] at g0 g1
  replace gl := lK b gl
  replace cc := bK cc b
  clear b
  go_wp2_with fail
  refine (of_N _ 1 (by decide)).mono ?_
  rintro e w6 ⟨Ao, no, co, rfl, o, b⟩
  rewrite [fR b gl] at f0 f1
  replace p0 := p0.on b
  replace q0 := q0.on b
  replace v := v.on b
  replace dq := dq.on b
  replace dr := dr.on b
  rewrite [cR b rl] at r0 r1 r2
  replace rl := lK b rl
  rewrite [cR b kl] at k0 k1 k2
  replace kl := lK b kl
  rewrite [cR b gl] at g0 g1
  replace gl := lK b gl
  replace cc := bK cc b
  clear b
  go_wp2_with fail
  refine (add_N dq o (by omega) (by omega)).mono ?_
  rintro e w7 ⟨Aa, na, ca, rfl, a, b⟩
  rewrite [fR b gl] at f0 f1
  replace p0 := p0.on b
  replace q0 := q0.on b
  replace v := v.on b
  replace dq := dq.on b
  replace dr := dr.on b
  replace o := o.on b
  rewrite [cR b rl] at r0 r1 r2
  replace rl := lK b rl
  rewrite [cR b kl] at k0 k1 k2
  replace kl := lK b kl
  rewrite [cR b gl] at g0 g1
  replace gl := lK b gl
  replace cc := bK cc b
  clear b
  have hn0 : 0 < na := a.some_len (by omega)
  have hn1 : decide ((0 : Int) < (na : Int)) = true := decide_eq_true (by omega)
  have hn2 : decide (0 < na) = true := decide_eq_true hn0
  have hn : Zn w7 true Aa na ca (nea x0 k) := by rw [HV.out]; exact zn_minus a (by omega)
  have eb : Box w7 (w.heap.size + 1) false none 0 0 := ⟨g0, g1⟩
  have HZ : Hid (Zn ((w7.setCell ⟨w.heap.size + 1, 0, none⟩ (.bool true)).setCell ⟨w.heap.size + 1, 1, none⟩ (.slice Aa na ca)) true Aa na ca (nea x0 k)) := Lib.hid (hn.put eb _ _)
  clear hn
  go_wp2_with fail
  refine bodyPost_ret (v := .tuple #[.agg #[.bool true, .slice Aa na ca], .int .i64 0]) (by simp [results, Tryz.results105, go_sem, g0, g1]) rfl ⟨_, _, _, _, rfl, HZ.out, below_put cc (by omega) _ _⟩

theorem rdnea_N {w : World} {b0 : Bool} {A0 B0 : Option Addr} {n0 c0 m0 d0 : Nat} {g : Nat} {x0 : Rat} (hx : Rt w b0 A0 n0 c0 B0 m0 d0 x0) (s0 : Sz x0 20) {j : Int} (h0 : 0 ≤ j) (h1 : j ≤ 500) (hg : BoxR w g b0 A0 n0 c0 B0 m0 d0) :
    Calls Tryz.prog 105 #[.agg #[.bool b0, .slice A0 n0 c0, .slice B0 m0 d0], .int .i64 j, .func (.func 106) #[] #[.pointer (some ⟨g, 0, none⟩)]] w (GotZp w (nea x0 j.toNat) 0) := by
  by_cases hs : x0.num < 0
  · cases ht : fars (x0.num.natAbs * 2 ^ j.toNat) x0.den
    · by_cases hz : x0.num.natAbs * 2 ^ j.toNat / x0.den = 0
      · exact rdnea_tf0 hx s0 h0 h1 hg hs ht hz
      · exact rdnea_tf1 hx s0 h0 h1 hg hs ht hz
    · exact rdnea_tt hx s0 h0 h1 hg hs ht
  · cases ht : fars (x0.num.natAbs * 2 ^ j.toNat) x0.den
    · exact rdnea_ff hx s0 h0 h1 hg hs ht
    · exact rdnea_ft hx s0 h0 h1 hg hs ht

theorem rd_no {w : World} {b0 : Bool} {A0 B0 : Option Addr} {n0 c0 m0 d0 : Nat} {fv : Value} {j : Int} (h : j < 0 ∨ 2000 < j) :
    Calls Tryz.prog 105 #[.agg #[.bool b0, .slice A0 n0 c0, .slice B0 m0 d0], .int .i64 j, fv] w (GotZp w 0 1) := by
  have cc := Below.refl w.heap.size w
  go_enter Tryz.func105, Tryz.ntmps105
  go_wp2_with fail
  generalize hv_ : (w.alloc (.cells #[.bool b0, .slice A0 n0 c0, .slice B0 m0 d0] 48)).alloc (.cells #[.bool false, .slice none 0 0] 42) = v1
  obtain ⟨f0, f1⟩ : Fz2 v1 (w.heap.size + 1) := by simp [Fz2, ← hv_, go_sem]
  have bA : Below w.heap.size w v1 := by rw [← hv_]; exact (((Below.refl _ w).alloc (by simp) _).alloc (by simp) _)
  replace cc := bK cc bA
  clear bA
  obtain ⟨k0, k1, k2⟩ : Cs3 v1 w.heap.size (.bool b0) (.slice A0 n0 c0) (.slice B0 m0 d0) := by simp [Cs3, ← hv_, go_sem]
  have kl : w.heap.size < v1.heap.size := by simp [← hv_] <;> omega
  obtain ⟨g0, g1⟩ : Cs2 v1 (w.heap.size + 1) (.bool false) (.slice none 0 0) := by simp [Cs2, ← hv_, go_sem]
  have gl : w.heap.size + 1 < v1.heap.size := by simp [← hv_] <;> omega
  clear hv_
  refine (isgrid_no _ h).mono ?_
  rintro e w2 ⟨rfl, b⟩
  rewrite [fR b gl] at f0 f1
  rewrite [cR b kl] at k0 k1 k2
  replace kl := lK b kl
  rewrite [cR b gl] at g0 g1
  replace gl := lK b gl
  replace cc := bK cc b
  clear b
  have eb : Box w2 (w.heap.size + 1) false none 0 0 := ⟨g0, g1⟩
  have HZ := Lib.hid (Zn.put (zn_none w2) eb (.bool false) (.slice none 0 0))
  go_wp2_with fail
  exact bodyPost_ret (v := .tuple #[.agg #[.bool false, .slice none 0 0], .int .i64 1]) (by simp [results, Tryz.results105, go_sem, g0, g1]) rfl ⟨_, _, _, _, rfl, HZ.out, below_put cc (by omega) _ _⟩

end Go.Proofs.YtpephogadljncaaGreat

/-
  The contracts of dyad: Floor, Ceil, Near, Back.
-/
namespace Go.Proofs.YtpephogadljncaaGreat
set_option maxRecDepth 100000
set_option maxHeartbeats 8000000
open Go.RowKit
set_option linter.unusedVariables false
set_option linter.unusedSimpArgs false





theorem dnear_N {w : World} {b0 : Bool} {A0 B0 : Option Addr} {n0 c0 m0 d0 : Nat} {x0 : Rat} (hx : Rt w b0 A0 n0 c0 B0 m0 d0 x0) (s0 : Sz x0 15) {j : Int} (h0 : 0 ≤ j) (h1 : j ≤ 500) :
    Calls Tryz.prog 81 #[.agg #[.bool b0, .slice A0 n0 c0, .slice B0 m0 d0], .int .i64 j] w (GotZp w (nea x0 j.toNat) 0) := by
  have cc := Below.refl w.heap.size w
  go_enter Tryz.func81, Tryz.ntmps81
  go_wp2_with fail
  generalize hv_ : (w.alloc (.cells #[.bool b0, .slice A0 n0 c0, .slice B0 m0 d0] 48)).alloc (.cells #[.bool false, .slice none 0 0] 42) = v1
  obtain ⟨f0, f1⟩ : Fz2 v1 (w.heap.size + 1) := by simp [Fz2, ← hv_, go_sem]
  have bA : Below w.heap.size w v1 := by rw [← hv_]; exact (((Below.refl _ w).alloc (by simp) _).alloc (by simp) _)
  replace hx := hx.on bA
  replace cc := bK cc bA
  clear bA
  obtain ⟨k0, k1, k2⟩ : Cs3 v1 w.heap.size (.bool b0) (.slice A0 n0 c0) (.slice B0 m0 d0) := by simp [Cs3, ← hv_, go_sem]
  have kl : w.heap.size < v1.heap.size := by simp [← hv_] <;> omega
  obtain ⟨g0, g1⟩ : Cs2 v1 (w.heap.size + 1) (.bool false) (.slice none 0 0) := by simp [Cs2, ← hv_, go_sem]
  have gl : w.heap.size + 1 < v1.heap.size := by simp [← hv_] <;> omega
  clear hv_
  refine (rdnea_N hx (s0.le (by omega)) h0 h1 ⟨k0, k1, k2⟩).mono ?_
  rintro e w2 ⟨bm, Am, nm, cm, rfl, hm, b⟩
  rewrite [fR b gl] at f0 f1
  replace hx := hx.on b
  rewrite [cR b kl] at k0 k1 k2
  replace kl := lK b kl
  rewrite [cR b gl] at g0 g1
  replace gl := lK b gl
  replace cc := bK cc b
  clear b
  have hn : Zn w2 bm Am nm cm (nea x0 j.toNat) := hm
  have eb : Box w2 (w.heap.size + 1) false none 0 0 := ⟨g0, g1⟩
  have HZ : Hid (Zn ((w2.setCell ⟨w.heap.size + 1, 0, none⟩ (.bool bm)).setCell ⟨w.heap.size + 1, 1, none⟩ (.slice Am nm cm)) bm Am nm cm (nea x0 j.toNat)) := Lib.hid (hn.put eb _ _)
  clear hn
  go_wp2_with fail
  refine bodyPost_ret (v := .tuple #[.agg #[.bool bm, .slice Am nm cm], .int .i64 0]) (by simp [results, Tryz.results81, go_sem, g0, g1]) rfl ⟨_, _, _, _, rfl, HZ.out, below_put cc (by omega) _ _⟩

theorem dnear_no {w : World} {b0 : Bool} {A0 B0 : Option Addr} {n0 c0 m0 d0 : Nat} {x0 : Rat} (hx : Rt w b0 A0 n0 c0 B0 m0 d0 x0) (s0 : Sz x0 15) {j : Int} (h : j < 0 ∨ 2000 < j) :
    Calls Tryz.prog 81 #[.agg #[.bool b0, .slice A0 n0 c0, .slice B0 m0 d0], .int .i64 j] w (GotZp w 0 1) := by
  have cc := Below.refl w.heap.size w
  go_enter Tryz.func81, Tryz.ntmps81
  go_wp2_with fail
  generalize hv_ : (w.alloc (.cells #[.bool b0, .slice A0 n0 c0, .slice B0 m0 d0] 48)).alloc (.cells #[.bool false, .slice none 0 0] 42) = v1
  obtain ⟨f0, f1⟩ : Fz2 v1 (w.heap.size + 1) := by simp [Fz2, ← hv_, go_sem]
  have bA : Below w.heap.size w v1 := by rw [← hv_]; exact (((Below.refl _ w).alloc (by simp) _).alloc (by simp) _)
  replace hx := hx.on bA
  replace cc := bK cc bA
  clear bA
  obtain ⟨k0, k1, k2⟩ : Cs3 v1 w.heap.size (.bool b0) (.slice A0 n0 c0) (.slice B0 m0 d0) := by simp [Cs3, ← hv_, go_sem]
  have kl : w.heap.size < v1.heap.size := by simp [← hv_] <;> omega
  obtain ⟨g0, g1⟩ : Cs2 v1 (w.heap.size + 1) (.bool false) (.slice none 0 0) := by simp [Cs2, ← hv_, go_sem]
  have gl : w.heap.size + 1 < v1.heap.size := by simp [← hv_] <;> omega
  clear hv_
  refine (rd_no h).mono ?_
  rintro e w2 ⟨bm, Am, nm, cm, rfl, hm, b⟩
  rewrite [fR b gl] at f0 f1
  replace hx := hx.on b
  rewrite [cR b kl] at k0 k1 k2
  replace kl := lK b kl
  rewrite [cR b gl] at g0 g1
  replace gl := lK b gl
  replace cc := bK cc b
  clear b
  have hn : Zn w2 bm Am nm cm (0) := hm
  have eb : Box w2 (w.heap.size + 1) false none 0 0 := ⟨g0, g1⟩
  have HZ : Hid (Zn ((w2.setCell ⟨w.heap.size + 1, 0, none⟩ (.bool bm)).setCell ⟨w.heap.size + 1, 1, none⟩ (.slice Am nm cm)) bm Am nm cm (0)) := Lib.hid (hn.put eb _ _)
  clear hn
  go_wp2_with fail
  refine bodyPost_ret (v := .tuple #[.agg #[.bool bm, .slice Am nm cm], .int .i64 1]) (by simp [results, Tryz.results81, go_sem, g0, g1]) rfl ⟨_, _, _, _, rfl, HZ.out, below_put cc (by omega) _ _⟩



end Go.Proofs.YtpephogadljncaaGreat

/-
  The contracts of the landed fix: Sqrt, Of, Rat.
-/
namespace Go.Proofs.YtpephogadljncaaGreat
set_option maxRecDepth 100000
set_option maxHeartbeats 8000000
open Go.RowKit
set_option linter.unusedVariables false
set_option linter.unusedSimpArgs false




theorem fof_N {w : World} {b0 : Bool} {A0 B0 : Option Addr} {n0 c0 m0 d0 : Nat} {x0 : Rat} (h0 : Rt w b0 A0 n0 c0 B0 m0 d0 x0) (s0 : Sz x0 15) {j : Int} (j0 : 0 ≤ j) (j1 : j ≤ 40) :
    Calls Tryz.prog 46 #[.agg #[.bool b0, .slice A0 n0 c0, .slice B0 m0 d0], .int .i64 j] w (GotV w (.tuple #[.int .i64 (nI (nea x0 j.toNat)), .int .i64 (nE (nea x0 j.toNat))])) := by
  have lz_ := nea_len s0 (show j.toNat ≤ 500 by omega)
  have cc := Below.refl w.heap.size w
  go_enter Tryz.func46, Tryz.ntmps46
  go_wp2_with fail
  generalize hv_ : w.alloc (.cells #[.bool b0, .slice A0 n0 c0, .slice B0 m0 d0] 48) = v1
  have bA : Below w.heap.size w v1 := by rw [← hv_]; exact ((Below.refl _ w).alloc (by simp) _)
  replace h0 := h0.on bA
  replace cc := bK cc bA
  clear bA
  obtain ⟨ka0, ka1, ka2⟩ : Cs3 v1 w.heap.size (.bool b0) (.slice A0 n0 c0) (.slice B0 m0 d0) := by simp [Cs3, ← hv_, go_sem]
  have kal : w.heap.size < v1.heap.size := by simp [← hv_] <;> omega
  clear hv_
  refine (isf_2 _ j0 j1).mono ?_
  rintro e w2 ⟨rfl, b⟩
  replace h0 := h0.on b
  rewrite [cR b kal] at ka0 ka1 ka2
  replace kal := lK b kal
  replace cc := bK cc b
  clear b
  go_wp2_with fail
  refine (dnear_N h0 s0 j0 (by omega)).mono ?_
  rintro e w3 ⟨bz, Az, nz, cz, rfl, hz, b⟩
  replace h0 := h0.on b
  rewrite [cR b kal] at ka0 ka1 ka2
  replace kal := lK b kal
  replace cc := bK cc b
  clear b
  go_wp2_with fail
  generalize hv_ : w3.alloc (.cells #[.bool bz, .slice Az nz cz] 42) = v4
  have bA : Below w3.heap.size w3 v4 := by rw [← hv_]; exact below_one _ _
  replace h0 := h0.on bA
  replace hz := hz.on bA
  rewrite [cR bA kal] at ka0 ka1 ka2
  replace kal := lK bA kal
  replace cc := bK cc bA
  clear bA
  obtain ⟨zb0, zb1⟩ : Cs2 v4 w3.heap.size (.bool bz) (.slice Az nz cz) := by simp [Cs2, ← hv_, go_sem]
  have zbl : w3.heap.size < v4.heap.size := by simp [← hv_]
  clear hv_
  refine (mant_N hz (Nat.le_trans lz_ (by omega))).mono ?_
  rintro e w5 ⟨rfl, b⟩
  replace h0 := h0.on b
  replace hz := hz.on b
  rewrite [cR b kal] at ka0 ka1 ka2
  replace kal := lK b kal
  rewrite [cR b zbl] at zb0 zb1
  replace zbl := lK b zbl
  replace cc := bK cc b
  clear b
  go_wp2_with fail
  go_ret2
  exact ⟨rfl, cc⟩

theorem fof_no {w : World} {b0 : Bool} {A0 B0 : Option Addr} {n0 c0 m0 d0 : Nat} {x0 : Rat} (h0 : Rt w b0 A0 n0 c0 B0 m0 d0 x0) (s0 : Sz x0 15) {j : Int} (h : j < 0 ∨ 40 < j) :
    Calls Tryz.prog 46 #[.agg #[.bool b0, .slice A0 n0 c0, .slice B0 m0 d0], .int .i64 j] w (GotV w (.tuple #[.int .i64 (0), .int .i64 (1)])) := by
  have cc := Below.refl w.heap.size w
  go_enter Tryz.func46, Tryz.ntmps46
  go_wp2_with fail
  generalize hv_ : w.alloc (.cells #[.bool b0, .slice A0 n0 c0, .slice B0 m0 d0] 48) = v1
  have bA : Below w.heap.size w v1 := by rw [← hv_]; exact ((Below.refl _ w).alloc (by simp) _)
  replace cc := bK cc bA
  clear bA
  obtain ⟨ka0, ka1, ka2⟩ : Cs3 v1 w.heap.size (.bool b0) (.slice A0 n0 c0) (.slice B0 m0 d0) := by simp [Cs3, ← hv_, go_sem]
  have kal : w.heap.size < v1.heap.size := by simp [← hv_] <;> omega
  clear hv_
  refine (isf_no _ h).mono ?_
  rintro e w2 ⟨rfl, b⟩
  rewrite [cR b kal] at ka0 ka1 ka2
  replace kal := lK b kal
  replace cc := bK cc b
  clear b
  go_wp2_with fail
  go_ret2
  exact ⟨rfl, cc⟩



end Go.Proofs.YtpephogadljncaaGreat

/-
  The contract of the landed clip's mean.
-/
namespace Go.Proofs.YtpephogadljncaaGreat
set_option maxRecDepth 100000
open Go.RowKit
set_option linter.unusedVariables false
set_option linter.unusedSimpArgs false

theorem mk_nea (S : Int) {d : Nat} (hd : d ≠ 0) : nea (mkRat S d) 0 = rn S d := by
  have := rn_of hd (mk_times S d hd)
  rw [← this]
  unfold nea
  rw [show dw 0 = 1 from rfl, Rat.mul_one]

theorem qm {w : World} {x y : Rat} {F : Nat} {ar : Array Value} (e : x = y) (h : Calls Tryz.prog F ar w (GotRp w x 0)) : Calls Tryz.prog F ar w (GotRp w y 0) := e ▸ h

set_option maxHeartbeats 8000000 in
theorem kMean_N {w : World} {b : Bool} {A : Option Addr} {n c d : Nat} {S : Int} (h : Zn w b A n c S) (hS : (limbs S.natAbs).length ≤ 2) (hd : d ≠ 0) (hd2 : d ≤ 1000) (hI : I64 (rn S d)) :
    Calls Tryz.prog 20 #[.agg #[.bool b, .slice A n c], .int .i64 (d : Int)] w (GotV w (.int .i64 (rn S d))) := by
  have k1 : IntKind.u64.wrap (d : Int) = (d : Int) := by rw [IntKind.wrap_u64]; omega
  have CI := fun W : World => of_N W d (by unfold B64; omega)
  have HSL := Lib.hid hS
  have hl1 := len_one (show d < B64 by unfold B64; omega)
  have HL1 := Lib.hid hl1
  have hsq : Sz (mkRat S d) 15 := (sz_mk hd (Nat.le_trans hS (by omega)) (Nat.le_trans hl1 (by omega)) : Sz (mkRat S d) 2).le (by omega)
  have HM := Lib.hid (mk_nea S hd)
  have HMI := Lib.hid hI
  have HD := Lib.hid hd
  obtain ⟨M, eM⟩ : ∃ M, rn S d = M := ⟨_, rfl⟩
  rw [eM] at HM HMI ⊢
  clear hI hS hl1 eM hd hd2
  generalize eX : mkRat S d = X at *
  have HEX := Lib.hid eX
  clear eX
  have cc := Below.refl w.heap.size w
  go_enter Tryz.func20, Tryz.ntmps20
  go_upto_region 1 with fail
  generalize hv_ : w.alloc (.cells #[.bool b, .slice A n c] 42) = v1
  have bA : Below w.heap.size w v1 := by rw [← hv_]; exact below_one _ _
  replace h := h.on bA
  replace cc := bK cc bA
  clear bA
  obtain ⟨sm0, sm1⟩ : Cs2 v1 w.heap.size (.bool b) (.slice A n c) := by simp [Cs2, ← hv_, go_sem]
  have sml : w.heap.size < v1.heap.size := by simp [← hv_]
  clear hv_
  go_upto_region 1 with fail
  go_cut [5, 6] (fun u ue wx => ∃ (g_ : Nat) (b_ : Bool) (A_ : Option Addr) (n_ c_ : Nat) (B_ : Option Addr) (m_ d_ : Nat), u = .pointer (some ⟨g_, 0, none⟩) ∧ ue = .int .i64 0 ∧ LoneR v1 wx g_ b_ A_ n_ c_ B_ m_ d_ (X))
  case first =>
    have BB0 : Below v1.heap.size v1 v1.drew := below_drewN (Below.refl _ v1) 1
    have BB1 : Below v1.heap.size v1 (v1.alloc (.cells #[.bool false, .slice none 0 0, .slice none 0 0] 48)).drew := below_drewN (below_one _ _) 1
    go_region_held3 (fun w' => w'.cell? ⟨w.heap.size, 0, none⟩ = some (.bool b) ∧ w'.cell? ⟨w.heap.size, 1, none⟩ = some (.slice A n c))
      (first | with_reducible exact ⟨sm0, sm1⟩ | with_reducible exact ⟨keep_alloc (sm0), keep_alloc (sm1)⟩ | with_reducible exact ⟨keep_alloc (keep_alloc (sm0)), keep_alloc (keep_alloc (sm1))⟩ | with_reducible exact ⟨(cK qq sm0 sml), (cK qq sm1 sml)⟩ | with_reducible exact ⟨keep_alloc ((cK qq sm0 sml)), keep_alloc ((cK qq sm1 sml))⟩ | with_reducible exact ⟨keep_alloc (keep_alloc ((cK qq sm0 sml))), keep_alloc (keep_alloc ((cK qq sm1 sml)))⟩ | with_reducible exact ⟨((cell_putR (by omega)).trans (cK qq sm0 sml)), ((cell_putR (by omega)).trans (cK qq sm1 sml))⟩ | with_reducible exact ⟨((cell_store (by omega)).trans (cK qq sm0 sml)), ((cell_store (by omega)).trans (cK qq sm1 sml))⟩ | with_reducible exact ⟨keep_alloc (((cell_putR (by omega)).trans (cK qq sm0 sml))), keep_alloc (((cell_putR (by omega)).trans (cK qq sm1 sml)))⟩ | with_reducible exact ⟨keep_alloc (((cell_store (by omega)).trans (cK qq sm0 sml))), keep_alloc (((cell_store (by omega)).trans (cK qq sm1 sml)))⟩ | with_reducible exact ⟨keep_alloc (keep_alloc (((cell_putR (by omega)).trans (cK qq sm0 sml)))), keep_alloc (keep_alloc (((cell_putR (by omega)).trans (cK qq sm1 sml))))⟩ | with_reducible exact ⟨keep_alloc (keep_alloc (((cell_store (by omega)).trans (cK qq sm0 sml)))), keep_alloc (keep_alloc (((cell_store (by omega)).trans (cK qq sm1 sml))))⟩ | with_reducible exact ⟨((cell_putR (by omega)).trans ((cell_putR (by omega)).trans (cK qq sm0 sml))), ((cell_putR (by omega)).trans ((cell_putR (by omega)).trans (cK qq sm1 sml)))⟩ | with_reducible exact ⟨((cell_store (by omega)).trans ((cell_store (by omega)).trans (cK qq sm0 sml))), ((cell_store (by omega)).trans ((cell_store (by omega)).trans (cK qq sm1 sml)))⟩ | with_reducible exact ⟨keep_alloc (((cell_putR (by omega)).trans ((cell_putR (by omega)).trans (cK qq sm0 sml)))), keep_alloc (((cell_putR (by omega)).trans ((cell_putR (by omega)).trans (cK qq sm1 sml))))⟩ | with_reducible exact ⟨keep_alloc (((cell_store (by omega)).trans ((cell_store (by omega)).trans (cK qq sm0 sml)))), keep_alloc (((cell_store (by omega)).trans ((cell_store (by omega)).trans (cK qq sm1 sml))))⟩ | with_reducible exact ⟨keep_alloc (keep_alloc (((cell_putR (by omega)).trans ((cell_putR (by omega)).trans (cK qq sm0 sml))))), keep_alloc (keep_alloc (((cell_putR (by omega)).trans ((cell_putR (by omega)).trans (cK qq sm1 sml)))))⟩ | with_reducible exact ⟨keep_alloc (keep_alloc (((cell_store (by omega)).trans ((cell_store (by omega)).trans (cK qq sm0 sml))))), keep_alloc (keep_alloc (((cell_store (by omega)).trans ((cell_store (by omega)).trans (cK qq sm1 sml)))))⟩ | go_keep)
      (first
        | (go_at_call 32; (with_reducible refine (CI _).mono ?_); rintro e y1 ⟨As, ns, cs, rfl, hs, q⟩; have qq := BB0.trans (q.mono BB0.size); have h' := (h.on BB0).on q; have qs1 := qq.size; clear q)
        | (go_at_call 32; (with_reducible refine (CI _).mono ?_); rintro e y1 ⟨As, ns, cs, rfl, hs, q⟩; have qq := BB1.trans (q.mono BB1.size); have h' := (h.on BB1).on q; have qs1 := qq.size; obtain ⟨bo_0, fo_0, bo_1, fo_1, bo_2, fo_2, ol⟩ := zb3 (g := v1.heap.size) q (by simp) (by simp [Cs3, go_sem]) (by simp [Fz3, go_sem]); clear q)
        | (go_at_call 45; have up := Below.refl y1.heap.size y1; (with_reducible refine (qm HEX.out (qmake_N (h'.on up) (hs.on up) HD.out (Nat.le_trans HSL.out (by omega)) (Nat.le_trans HL1.out (by omega)))).mono ?_); rintro e y2 ⟨bo, Ao, no, co, Bo, mo, do_, rfl, o, q⟩; replace qq := uK qq up q; replace h' := (h'.on up).on q; replace hs := (hs.on up).on q; (try (rewrite [cR up ol, cR q (lK up ol)] at bo_0 bo_1 bo_2; rewrite [fR up ol, fR q (lK up ol)] at fo_0 fo_1 fo_2; replace ol := lK q (lK up ol))); have qs2 := qq.size; clear q up)
        | (go_at_call 45; have up := below_one y1 (.cells #[.bool false, .slice none 0 0, .slice none 0 0] 48); (with_reducible refine (qm HEX.out (qmake_N (h'.on up) (hs.on up) HD.out (Nat.le_trans HSL.out (by omega)) (Nat.le_trans HL1.out (by omega)))).mono ?_); rintro e y2 ⟨bo, Ao, no, co, Bo, mo, do_, rfl, o, q⟩; replace qq := uK qq up q; replace h' := (h'.on up).on q; replace hs := (hs.on up).on q; (try (rewrite [cR up ol, cR q (lK up ol)] at bo_0 bo_1 bo_2; rewrite [fR up ol, fR q (lK up ol)] at fo_0 fo_1 fo_2; replace ol := lK q (lK up ol))); have qs2 := qq.size; obtain ⟨bo_0, fo_0, bo_1, fo_1, bo_2, fo_2, ol⟩ := zb3 (g := y1.heap.size) q (by simp) (by simp [Cs3, go_sem]) (by simp [Fz3, go_sem]); clear q up))
    all_goals (go_wp2_with fail; go_meet)
    all_goals refine ⟨_, bo, Ao, no, co, Bo, mo, do_, rfl, rfl, ?_⟩
    all_goals first
      | with_reducible exact loneRA o qq _
      | with_reducible exact loneRB bo_0 bo_1 bo_2 o qq (by omega)
  case rest =>
    obtain ⟨gq, bq, Aq, nq, cq, Bq, mq, dq, rfl, rfl, ⟨q0, q1, q2⟩, hq, b, qge⟩ := hcut
    have ql := cell_lt q0
    simp only at ql
    have qqsm : w.heap.size < gq := Nat.lt_of_lt_of_le sml qge
    replace h := h.on b
    rewrite [cR b sml] at sm0 sm1
    replace sml := lK b sml
    replace cc := bK cc b
    clear b
    go_wp2_with fail
    have CO := fof_N hq hsq (j := 0) (by omega) (by omega)
    rw [show nea X (0 : Int).toNat = M from HM.out, (nI_yes HMI.out).1, (nI_yes HMI.out).2] at CO
    refine CO.mono ?_
    rintro e w6 ⟨rfl, b⟩
    replace cc := bK cc b
    clear b CO
    go_wp2_with fail
    go_ret
    exact ⟨rfl, cc⟩

end Go.Proofs.YtpephogadljncaaGreat

/-
  The contracts of the landed clip's alike and Mean.
-/
namespace Go.Proofs.YtpephogadljncaaGreat
set_option maxRecDepth 100000
set_option maxHeartbeats 8000000
open Go.RowKit
set_option linter.unusedVariables false
set_option linter.unusedSimpArgs false

theorem kAlike1_N {W : World} {gb bb off n c n0 c0 n1 c1 : Nat} {A0 A1 : Option Addr} (hb : Boxed W gb 22 (.slice (some ⟨bb, off, none⟩) n c)) (h0 : W.cell? ⟨bb, off, none⟩ = some (.slice A0 n0 c0)) (hn : 0 < n) :
    Calls Tryz.prog 42 #[.slice A1 n1 c1, .pointer (some ⟨gb, 0, none⟩)] W (GotV W (.bool (n1 != n0))) := by
  have cc := Below.refl W.heap.size W
  have l0 := hb.cell
  have j0 : (0 : Int) < (n : Int) := by omega
  by_cases hq : n1 = n0
  · have q1 : ((n1 : Int) != (n0 : Int)) = false := by rw [hq]; simp
    have q2 : (n1 != n0) = false := by rw [hq]; simp
    rw [q2]
    clear hq
    go_enter Tryz.func42, Tryz.ntmps42
    go_wp2_with fail
    go_ret
    exact ⟨rfl, cc⟩
  · have q1 : ((n1 : Int) != (n0 : Int)) = true := by simp; omega
    have q2 : (n1 != n0) = true := by simp; omega
    rw [q2]
    go_enter Tryz.func42, Tryz.ntmps42
    go_wp2_with fail
    go_ret
    exact ⟨rfl, cc⟩

theorem kIndex_N {w : World} {gb n0 n c : Nat} {A : Option Addr} {L : List (List Int)} (hA : RR w A n c L) (hn : n ≤ 1000) (hf : ∀ (W : World) (A1 : Option Addr) (n1 c1 : Nat), Below w.heap.size w W → Calls Tryz.prog 42 #[.slice A1 n1 c1, .pointer (some ⟨gb, 0, none⟩)] W (GotV W (.bool (n1 != n0)))) :
    Calls Tryz.prog 76 #[.slice A n c, .func (.func 42) #[] #[.pointer (some ⟨gb, 0, none⟩)]] w (fun e w' => ∃ v, e = .returned (.int .i64 v) ∧ ((∀ l ∈ L, l.length = n0) ↔ ¬ 0 ≤ v) ∧ Below w.heap.size w w') := by
  have HN := Lib.hid hn
  have HLN := Lib.hid hA.1
  have HAV := Lib.hid hA
  clear hn
  have cc := Below.refl w.heap.size w
  go_enter Tryz.func76, Tryz.ntmps76
  go_wp2_with fail
  go_loopw [8] (fun iv wr => ∃ i : Nat, i ≤ n ∧ iv = .int .i64 (i : Int) ∧ Hid (∀ j, j < i → (L[j]?.getD []).length = n0) ∧ Below w.heap.size w wr) (fun iv _ => n - (intOf iv).toNat)
  case atStart => exact ⟨0, by omega, rfl, Lib.hid (fun j h => absurd h (by omega)), cc⟩
  case round =>
    clear cc hA
    obtain ⟨i, hi, rfl, hj, cc⟩ := hrel
    by_cases hlt : i < n
    · have hA := HAV.out.on cc
      obtain ⟨b, off, rfl, _⟩ := hA.some (by omega)
      obtain ⟨A1, n1, c1, hc, hR, _⟩ := rr_at hA hlt
      have HR1 := Lib.hid hR.1
      have CF := hf wr A1 n1 c1 cc
      have k3 : IntKind.i64.wrap ((i : Int) + 1) = ((i + 1 : Nat) : Int) := by rw [IntWalk.i64_in _ (by have := HN.out; omega)]; omega
      have jl : (i : Int) < (n : Int) := by omega
      by_cases hq : n1 = n0
      · rw [show (n1 != n0) = false by rw [hq]; simp] at CF
        have HJ : Hid (∀ j, j < i + 1 → (L[j]?.getD []).length = n0) := Lib.hid (fun j h => by
          rcases Nat.lt_or_ge j i with e | e
          · exact hj.out j e
          · rw [show j = i by omega, ← HR1.out]; exact hq)
        clear hf hA hR hq hj
        go_wp2_with fail
        refine CF.mono ?_
        rintro e w1 ⟨rfl, q⟩
        replace cc := bK cc q
        clear q
        go_wp2_with fail
        go_roundw
        case rel => exact ⟨i + 1, by omega, by go_num, HJ, cc⟩
        case measure => simp [intOf] <;> omega
      · rw [show (n1 != n0) = true by simp; omega] at CF
        have HY : Hid (¬ ∀ l ∈ L, l.length = n0) := Lib.hid (fun h => hq (by rw [HR1.out]; exact h _ (mem_at16 (by rw [← HLN.out]; exact hlt))))
        clear hf hA hR hq hj
        go_wp2_with fail
        refine CF.mono ?_
        rintro e w1 ⟨rfl, q⟩
        replace cc := bK cc q
        clear q
        go_wp2_with fail
        go_ret
        exact ⟨_, rfl, ⟨fun h => absurd h HY.out, fun h => by omega⟩, cc⟩
    · obtain rfl : i = n := by omega
      have HY : Hid (∀ l ∈ L, l.length = n0) := Lib.hid (fun l hl => by
        obtain ⟨j, hj2, rfl⟩ := List.mem_iff_getElem.1 hl
        have := hj.out j (by have := HLN.out; omega)
        rw [List.getElem?_eq_getElem hj2] at this
        exact this)
      clear hj hf
      go_wp2_with fail
      go_ret
      exact ⟨_, rfl, ⟨fun _ => by omega, fun _ => HY.out⟩, cc⟩

theorem kCont_N {w : World} {gb n0 n c : Nat} {A : Option Addr} {L : List (List Int)} {r : Bool} (hr : decide (∀ l ∈ L, l.length = n0) = r) (hA : RR w A n c L) (hn : n ≤ 1000) (hf : ∀ (W : World) (A1 : Option Addr) (n1 c1 : Nat), Below w.heap.size w W → Calls Tryz.prog 42 #[.slice A1 n1 c1, .pointer (some ⟨gb, 0, none⟩)] W (GotV W (.bool (n1 != n0)))) :
    Calls Tryz.prog 41 #[.slice A n c, .func (.func 42) #[] #[.pointer (some ⟨gb, 0, none⟩)]] w (GotV w (.bool (!r))) := by
  have CI := kIndex_N hA hn hf
  have HR := Lib.hid hr
  have cc := Below.refl w.heap.size w
  clear hf hn hA hr
  go_enter Tryz.func41, Tryz.ntmps41
  go_wp2_with fail
  refine CI.mono ?_
  rintro e w1 ⟨v, rfl, hv, b⟩
  have hv2 : decide (0 ≤ v) = !r := by
    rw [← HR.out]
    by_cases h : 0 ≤ v
    · rw [decide_eq_true h, decide_eq_false (fun h2 => by have := hv.1 h2; omega)]; rfl
    · rw [decide_eq_false h, decide_eq_true (hv.2 (by omega))]; rfl
  replace cc := bK cc b
  clear b hv CI HR
  go_wp2_with fail
  go_ret
  exact ⟨by first | rfl | rw [hv2], cc⟩

theorem kAlike_N {w : World} {n c : Nat} {A : Option Addr} {L : List (List Int)} (hA : RR w A n c L) (hn : n ≤ 1000) (h0 : 0 < n) :
    Calls Tryz.prog 15 #[.slice A n c] w (GotV w (.bool (decide (OkM L)))) := by
  obtain ⟨bb, off, rfl, hbb⟩ := hA.some h0
  obtain ⟨A0, n0, c0, hc, hR⟩ := rr_zero hA h0
  have cc := one_up16 w (.cells #[.slice (some ⟨bb, off, none⟩) n c] 22)
  have xb := Boxed.new w 22 (.slice (some ⟨bb, off, none⟩) n c)
  have hc1 := cK cc hc hbb
  obtain ⟨r, hr⟩ : ∃ r, decide (OkM L) = r := ⟨_, rfl⟩
  have hr2 : decide (∀ l ∈ L, l.length = n0) = r := by rw [← hr]; exact decide_eq_decide.2 (by unfold OkM; rw [← hR.1])
  have CC := kCont_N (gb := w.heap.size) hr2 (hA.on cc) hn (fun W A1 n1 c1 b => kAlike1_N (boxed_up xb b) ((b.cell (p := ⟨bb, off, none⟩) (Nat.lt_of_lt_of_le hbb cc.size)).trans hc1) h0)
  rw [hr]
  have l0 := xb.cell
  clear hn hA hR hc hc1 hr hr2 xb
  go_enter Tryz.func15, Tryz.ntmps15
  go_wp2_with fail
  refine CC.mono ?_
  rintro e w1 ⟨rfl, b⟩
  replace cc := bK cc b
  clear b CC l0
  go_wp2_with fail
  go_ret
  exact ⟨by simp, cc⟩

end Go.Proofs.YtpephogadljncaaGreat

/-
  The contract of the landed clip's Mean.
-/
namespace Go.Proofs.YtpephogadljncaaGreat
set_option maxRecDepth 100000
set_option maxHeartbeats 8000000
open Go.RowKit
set_option linter.unusedVariables false
set_option linter.unusedSimpArgs false

theorem clMean_none {w : World} {A : Option Addr} {n c : Nat} {L : List (List Int)} (hA : RR w A n c L) (h0 : n = 0) :
    Calls Tryz.prog 7 #[.slice A n c] w (GotIp w [] 9) := by
  have t0 : ((n : Int) == 0) = true := beq_iff_eq.2 (by omega)
  have cc := Below.refl w.heap.size w
  clear h0 hA
  go_enter Tryz.func7, Tryz.ntmps7
  go_wp2_with fail
  go_ret2
  exact ⟨_, _, _, rfl, ⟨rfl, Nat.le_refl _, fun h => absurd h (by omega)⟩, cc⟩

theorem clMean_no {w : World} {A : Option Addr} {n c : Nat} {L : List (List Int)} (hA : RR w A n c L) (hn : n ≤ 100) (h0 : 0 < n) (hk : ¬ OkM L) :
    Calls Tryz.prog 7 #[.slice A n c] w (GotIp w [] 5) := by
  have t0 : ((n : Int) == 0) = false := beq_eq_false_iff_ne.2 (by omega)
  have CA := kAlike_N hA (by omega) h0
  rw [decide_eq_false hk] at CA
  have cc := Below.refl w.heap.size w
  clear hn h0 hk hA
  go_enter Tryz.func7, Tryz.ntmps7
  go_wp2_with fail
  refine CA.mono ?_
  rintro e w1 ⟨rfl, b⟩
  replace cc := bK cc b
  clear b CA
  go_wp2_with fail
  go_ret2
  exact ⟨_, _, _, rfl, ⟨rfl, Nat.le_refl _, fun h => absurd h (by omega)⟩, cc⟩

/-- What has been summed up at place j, of i rows and k numbers of the next. -/
def col16 (L : List (List Int)) (i k j : Nat) : Int := colS j (L.take i) + if j < k then (L[i]?.getD [])[j]?.getD 0 else 0
theorem col16_step (L : List (List Int)) (i k : Nat) : (fun j => if j = k then col16 L i k k + (L[i]?.getD [])[k]?.getD 0 else col16 L i k j) = col16 L i (k + 1) := by
  funext j
  unfold col16
  by_cases e : j = k
  · subst e; rw [if_pos rfl, if_neg (by omega), if_pos (by omega)]; omega
  · rw [if_neg e]
    by_cases e2 : j < k
    · rw [if_pos e2, if_pos (by omega)]
    · rw [if_neg e2, if_neg (by omega)]
theorem col16_row {L : List (List Int)} {i d : Nat} (h : i < L.length) {j : Nat} (hj : j < d) : col16 L i d j = col16 L (i + 1) 0 j := by
  unfold col16
  rw [if_pos hj, if_neg (by omega), colS_take j L i h]; omega
theorem col16_len {L : List (List Int)} (hn : L.length ≤ 100) (hl : ∀ l ∈ L, l.length ≤ 100 ∧ ∀ z ∈ l, I64 z) {i k : Nat} : (limbs (col16 L i k k).natAbs).length ≤ 2 := by
  unfold col16
  rw [if_neg (by omega), Int.add_zero]
  exact colS_len hn hl

theorem kSums_N {w V : World} {A : Option Addr} {n c d : Nat} {L : List (List Int)} (hA : RR w A n c L) (hn : n ≤ 100) (hl : ∀ l ∈ L, l.length ≤ 100 ∧ ∀ z ∈ l, I64 z) (hk : ∀ l ∈ L, l.length = d) (hd : d ≤ 100) (hV : Below w.heap.size w V) :
    Calls Tryz.prog 16 #[.slice A n c, .func (.func 17) #[] #[.pointer (some ⟨V.heap.size + 1, 0, none⟩)]] ((V.alloc (zz16 d)).alloc (.cells #[.slice (some ⟨V.heap.size, 0, none⟩) d d] 39))
      (fun e W' => e = .returned (.tuple #[]) ∧ ZS W' V.heap.size d (fun j => colS j L) ∧ Boxed W' (V.heap.size + 1) 39 (.slice (some ⟨V.heap.size, 0, none⟩) d d) ∧ Below w.heap.size w W') := by
  have hln := hA.1
  have b1 := one_up16 V (zz16 d)
  have e1 : (V.alloc (zz16 d)).heap.size = V.heap.size + 1 := by simp
  have z1 := zz16_zs d V
  have b2 := one_up16 (V.alloc (zz16 d)) (.cells #[.slice (some ⟨V.heap.size, 0, none⟩) d d] 39)
  have x2 := Boxed.new (V.alloc (zz16 d)) 39 (.slice (some ⟨V.heap.size, 0, none⟩) d d)
  rw [e1] at x2
  have z2 := z1.on b2
  have b12 := (hV.trans (b1.mono hV.size)).trans (b2.mono (by have := hV.size; have := b1.size; omega))
  clear b1 b2 z1 e1
  have hs := hV.size
  generalize (V.alloc (zz16 d)).alloc (.cells #[.slice (some ⟨V.heap.size, 0, none⟩) d d] 39) = U at *
  have h := kWalk_N (w0 := w) (w := U) (F := 17) (caps := #[.pointer (some ⟨V.heap.size + 1, 0, none⟩)])
    (fun i k W => ZS W V.heap.size d (col16 L i k) ∧ Boxed W (V.heap.size + 1) 39 (.slice (some ⟨V.heap.size, 0, none⟩) d d) ∧ Below w.heap.size w W) (fun args W => rfl) hA (by omega) (fun l h => by have := (hl l h).1; omega)
    (fun i k W h => h.2.2)
    ⟨z2.congr (fun j hj => by unfold col16; rw [List.take_zero, if_neg (by omega)]; rfl), x2, b12⟩
    (fun W i k hi hk2 h => by
      obtain ⟨h1, h2, h3⟩ := h
      have hm : L[i]?.getD [] ∈ L := mem_at16 (by omega)
      refine (kMean1_N h1 h2 (by omega) (by rw [← hk _ hm]; exact hk2) (by omega) ((hl _ hm).2 _ (mem_at16 hk2)) (col16_len (by omega) hl) h3 hs).mono ?_
      rintro e W' ⟨rfl, q1, q2, q3⟩
      exact ⟨rfl, by rw [col16_step] at q1; exact q1, q2, q3⟩)
    (fun W i hi h => by
      obtain ⟨h1, h2, h3⟩ := h
      have hm : L[i]?.getD [] ∈ L := mem_at16 (by omega)
      rw [hk _ hm] at h1
      exact ⟨h1.congr (fun j hj => col16_row (by omega) hj), h2, h3⟩)
  refine h.mono ?_
  rintro e W' ⟨rfl, h1, h2, h3⟩
  refine ⟨rfl, h1.congr (fun j hj => ?_), h2, h3⟩
  unfold col16
  rw [hln, List.take_of_length_le (Nat.le_refl _), if_neg (by omega), Int.add_zero]

theorem clMean_yes {w : World} {A : Option Addr} {n c : Nat} {L : List (List Int)} (hA : RR w A n c L) (hn : n ≤ 100) (hl : ∀ l ∈ L, l.length ≤ 100 ∧ ∀ z ∈ l, I64 z) (h0 : 0 < n) (hk : OkM L) :
    Calls Tryz.prog 7 #[.slice A n c] w (GotIp w (meanL L) 0) := by
  have t0 : ((n : Int) == 0) = false := beq_eq_false_iff_ne.2 (by omega)
  have j0 : (0 : Int) < (n : Int) := by omega
  have CA := kAlike_N hA (by omega) h0
  rw [decide_eq_true hk] at CA
  have hln := hA.1
  obtain ⟨bb, off, rfl, hbb⟩ := hA.some h0
  obtain ⟨A0, d, c0, hc, hR⟩ := rr_zero hA h0
  have hd0 : (L[0]?.getD []).length = d := hR.1.symm
  have hkd : ∀ l ∈ L, l.length = d := fun l h => by rw [hk l h]; exact hd0
  have hd : d ≤ 100 := by rw [← hd0]; exact (hl _ (mem_at16 (by omega))).1
  have CS := fun {V : World} (hV : Below w.heap.size w V) => kSums_N (d := d) hA hn hl hkd hd hV
  have hmk := zz16_run d (by omega)
  have hmk2 := zi16_run d (by omega)
  obtain ⟨S, eS⟩ : ∃ S : Nat → Int, (fun j => colS j L) = S := ⟨_, rfl⟩
  have HLC : Hid (∀ j, (limbs (S j).natAbs).length ≤ 2) := Lib.hid (fun j => by have := colS_len (k := j) (i := L.length) (by omega : L.length ≤ 100) hl; rw [List.take_of_length_le (Nat.le_refl _)] at this; rw [← eS]; exact this)
  have HMI : Hid (∀ j, j < d → I64 (rn (S j) n)) := Lib.hid (fun j hj => by have := colS_i64 hl (k := j) (fun l h => by rw [hkd l h]; exact hj) (by omega); unfold mean16 at this; rw [← eS, hln]; exact this)
  obtain ⟨ML, eML⟩ : ∃ ML, (List.range d).map (fun j => rn (S j) n) = ML := ⟨_, rfl⟩
  have HME : Hid (meanL L = ML) := Lib.hid (by unfold meanL mean16; rw [hd0, ← eML, ← eS, hln])
  have HMLL : Hid (ML.length = d) := Lib.hid (by rw [← eML]; simp)
  have HMLA : Hid (∀ j, j < d → ML[j]?.getD 0 = rn (S j) n) := Lib.hid (fun j hj => by rw [← eML, List.getElem?_map, List.getElem?_range hj]; rfl)
  rw [eS] at CS
  rw [HME.out]
  have HN0 := Lib.hid (show n ≠ 0 by omega)
  have HNN := Lib.hid hn
  have HD := Lib.hid hd
  have HOW := fun (W : World) => zi16_own d (by omega) W W.heap.size (Nat.le_refl _)
  have nl : n ≤ 9223372036854775807 := by omega
  have dl : d ≤ 1000000 := by omega
  have cc := Below.refl w.heap.size w
  clear hA hn hl hk hln hR hd0 hkd hd eS eML HME h0
  go_enter Tryz.func7, Tryz.ntmps7
  go_wp2_with fail
  refine CA.mono ?_
  rintro e w1 ⟨rfl, b⟩
  replace cc := bK cc b
  have hc1 := cK b hc hbb
  have HK := Lib.hid (CS cc)
  clear b CA CS
  go_wp2_with fail
  refine HK.out.mono ?_
  rintro e w2 ⟨rfl, hz, hx, hB⟩
  clear HK hc1 hc cc
  have s0 := hx.cell
  obtain ⟨g, eg⟩ : ∃ g, w1.heap.size = g := ⟨_, rfl⟩
  obtain ⟨gs, egs⟩ : ∃ gs, w1.heap.size + 1 = gs := ⟨_, rfl⟩
  rw [egs, eg] at hx s0
  rw [eg] at hz
  rw [egs]
  clear eg egs
  have hO0 := HOW w2
  have hB0 := one_up16 w2 (zi16 d)
  have HO0 : Hid ((w2.alloc (zi16 d)).ownsRow w2.heap.size 2 1 (.slice (some ⟨w2.heap.size, 0, none⟩) d d) d ((fil16 id ML 0).map encI)) := Lib.hid (by rw [fil16_zero, HMLL.out]; exact hO0)
  have HB0 := Lib.hid hB0
  have HZ := Lib.hid hz
  have HX := Lib.hid hx
  have HB := Lib.hid hB
  have s1 := (boxed_up hx hB0).cell
  clear hO0 hB0 hz hx hB HOW
  go_wp2_with fail
  go_loopw [27] (fun iv wr => ∃ i : Nat, i ≤ d ∧ iv = .int .i64 (i : Int) ∧ wr.ownsRow w2.heap.size 2 1 (.slice (some ⟨w2.heap.size, 0, none⟩) d d) d ((fil16 id ML i).map encI) ∧ Below w2.heap.size w2 wr) (fun iv _ => d - (intOf iv).toNat)
  case atStart => exact ⟨0, by omega, rfl, HO0.out, HB0.out⟩
  case round =>
    clear HO0 HB0 s1 s0
    obtain ⟨i, hi, rfl, hO, hbl⟩ := hrel
    by_cases hlt : i < d
    · have hz := HZ.out.on hbl
      obtain ⟨b, A', n', c', e0, e1, hZ⟩ := hz.2.2 i hlt
      have hS := fil16_set id (l := ML) (i := i) (by rw [HMLL.out]; exact hlt)
      have hLn : (fil16 id ML i).length = d := by rw [fil16_len id ML (by rw [HMLL.out]; exact hi), HMLL.out]
      rw [HMLA.out i hlt] at hS
      have HR := Lib.hid (HMI.out i hlt)
      obtain ⟨y, ey⟩ : ∃ y, rn (S i) n = y := ⟨_, rfl⟩
      rw [ey] at hS
      have HEY := Lib.hid ey
      have HS := Lib.hid hS
      have HLn := Lib.hid hLn
      have HO := Lib.hid hO
      have HBL := Lib.hid hbl
      have jl : (i : Int) < (d : Int) := by omega
      have k3 : IntKind.i64.wrap ((i : Int) + 1) = ((i + 1 : Nat) : Int) := by rw [IntWalk.i64_in _ (by omega)]; omega
      clear hz hS hLn hO hbl ey
      go_wp2_with fail
      have bA := one_up16 wr (.cells #[.bool b, .slice A' n' c'] 42)
      have CM := kMean_N (hZ.on bA) (HLC.out i) HN0.out (by have := HNN.out; omega) HR.out
      rw [HEY.out] at CM
      refine CM.mono ?_
      rintro e w3 ⟨rfl, q⟩
      replace bA := bK bA q
      have hO3 := own_on16 HO.out bA
      have c1 : w3.cell? ⟨w2.heap.size, i, none⟩ = some (.int .i64 ((fil16 id ML i)[i]?.getD 0)) := by rw [hO3.cellAt i (by omega), List.getElem?_map, List.getElem?_eq_getElem (by rw [HLn.out]; exact hlt)]; rfl
      have f1 := hO3.frozenAt i
      have hst := hO3.stored i (.int .i64 y)
      have HST : Hid ((w3.setCell ⟨w2.heap.size, i, none⟩ (.int .i64 y)).ownsRow w2.heap.size 2 1 (.slice (some ⟨w2.heap.size, 0, none⟩) d d) d ((fil16 id ML (i + 1)).map encI)) := Lib.hid (by rw [← HS.out, List.map_set]; exact hst.1)
      have HBB := Lib.hid ((HBL.out.trans (bA.mono HBL.out.size)).setCell (p := ⟨w2.heap.size, i, none⟩) (Nat.le_refl _) (.int .i64 y))
      clear hst hO3 q bA CM hZ e0 e1
      go_wp2_with fail
      go_roundw
      case rel => exact ⟨i + 1, by omega, by go_num, HST.out, HBB.out⟩
      case measure => simp [intOf] <;> omega
    · obtain rfl : i = d := by omega
      have hE : fil16 id ML i = ML := by have := fil16_end id ML; rw [HMLL.out, List.map_id] at this; exact this
      rw [hE] at hO
      have HI := Lib.hid (IR.of_own hO)
      have HC := Lib.hid (HB.out.trans (hbl.mono HB.out.size))
      clear hO hbl hE
      go_wp2_with fail
      go_ret2
      exact ⟨_, _, _, rfl, HI.out, HC.out⟩

theorem clMean_N {w : World} {A : Option Addr} {n c : Nat} {L : List (List Int)} (hA : RR w A n c L) (hn : n ≤ 100) (hl : ∀ l ∈ L, l.length ≤ 100 ∧ ∀ z ∈ l, I64 z) : Calls Tryz.prog 7 #[.slice A n c] w (GotIp w (mnL L) (mnE L)) := by
  unfold mnL mnE
  have hln := hA.1
  by_cases h0 : L = []
  · rw [if_pos (.inl h0), if_pos h0]
    exact clMean_none hA (by rw [hln, h0]; rfl)
  · have hp : 0 < n := by
      rcases Nat.eq_zero_or_pos n with e | e
      · exact absurd (List.eq_nil_of_length_eq_zero (by omega)) h0
      · exact e
    by_cases hk : OkM L
    · rw [if_neg (fun e => e.elim h0 (fun e2 => e2 hk)), if_neg h0, if_pos hk]
      exact clMean_yes hA hn hl hp hk
    · rw [if_pos (.inr hk), if_neg h0, if_neg hk]
      exact clMean_no hA hn hp hk
end Go.Proofs.YtpephogadljncaaGreat

/-
  The contracts of the landed clip, together.
-/

/-
  What the laws of clip lean on: alive.
-/
namespace Go.Proofs.YtpephogadljncaaGreat
set_option maxRecDepth 100000
open Go.RowKit
set_option linter.unusedVariables false
set_option linter.unusedSimpArgs false

theorem norm_34 : norm16 [[3], [4]] = 5 := by
  show uroot 2 (sqA [[3], [4]]) = 5
  rw [show sqA [[3], [4]] = 5 ^ 2 by decide, uroot_of_pow _ (by omega)]
theorem mean_34 : mnL [[3], [4]] = [4] ∧ mnE [[3], [4]] = 0 := by
  have e : mean16 [[3], [4]] 0 = 4 := by
    show rn ((7 : Nat) : Int) 2 = 4
    rw [rn_nat 7 2 (by omega)]; decide
  refine ⟨?_, by decide⟩
  unfold mnL
  rw [if_neg (by decide)]
  show [mean16 [[3], [4]] 0] = [4]
  rw [e]
theorem mean_none : mnL [] = [] ∧ mnE [] = 9 := by decide
theorem clip_34 : clipR 5 2 [3, -4] = [1, -1] ∧ clipE 2 = 0 := by decide
theorem clClip_W {w : World} {A B : Option Addr} {n c m d N : Nat} {l : List Int} {most : Int} (hA : IR w A n c l) (hB : Num w B m d N) (hm : I64 most) (hN : (limbs N).length ≤ 300) (hn : n ≤ 100) (hl : ∀ z ∈ l, I64 z) : Calls Tryz.prog 13 #[.slice A n c, .slice B m d, .int .i64 most] w (GotIp w (clipR N most l) (clipE most)) := (clClip_N hA hB hm hN hn hl).mono (fun _ _ h => h.weak)
theorem ir_one {w : World} {g : Nat} {x : Int} (hx : w.cell? ⟨g, 0, none⟩ = some (.int .i64 x)) : IR w (some ⟨g, 0, none⟩) 1 1 [x] := by
  refine ⟨rfl, Nat.le_refl _, fun _ => ⟨g, 0, rfl, cell_lt hx, fun i hi => ?_⟩⟩
  obtain rfl : i = 0 := by omega
  exact hx
theorem ir_two {w : World} {g : Nat} {x y : Int} (hx : w.cell? ⟨g, 0, none⟩ = some (.int .i64 x)) (hy : w.cell? ⟨g, 1, none⟩ = some (.int .i64 y)) : IR w (some ⟨g, 0, none⟩) 2 2 [x, y] := by
  refine ⟨rfl, Nat.le_refl _, fun _ => ⟨g, 0, rfl, cell_lt hx, fun i hi => ?_⟩⟩
  match i, hi with
  | 0, _ => exact hx
  | 1, _ => exact hy
theorem rr_i64 {w : World} {A : Option Addr} {n c : Nat} {L : List (List Int)} (h : RR w A n c L) : ∀ l ∈ L, ∀ z ∈ l, I64 z := by
  intro l hl
  obtain ⟨j, hj, e⟩ := List.mem_iff_getElem.1 hl
  obtain ⟨b, off, _, _, hc⟩ := h.2.2 (by rw [h.1]; omega)
  obtain ⟨_, _, _, _, _, h3⟩ := hc j (by rw [h.1]; exact hj)
  rw [List.getElem?_eq_getElem hj] at h3
  rw [← e]
  exact h3
theorem norm_below (L : List (List Int)) : norm16 L ≤ sqA L := by
  unfold norm16
  refine (uroot_le (by omega)).2 ?_
  rw [Nat.pow_two]
  rcases Nat.eq_zero_or_pos (sqA L) with h | h
  · rw [h]; omega
  · exact Nat.le_mul_of_pos_right _ h
theorem norm_len {L : List (List Int)} (hn : L.length ≤ 100) (hl : ∀ l ∈ L, l.length ≤ 100 ∧ ∀ z ∈ l, I64 z) : (limbs (norm16 L)).length ≤ 3 := Nat.le_trans (limbs_length_mono (norm_below L)) (sqA_len hn hl)
theorem limbs_5 : limbs 5 = [5] := by rw [limbs_pos (by decide), show 5 % B64 = 5 by decide, show 5 / B64 = 0 by decide, limbs_zero]
theorem rr_none (w : World) : RR w none 0 0 [] := ⟨rfl, Nat.le_refl _, fun h => absurd h (by omega)⟩
instance (z : Int) : Decidable (I64 z) := by unfold I64; infer_instance
theorem rr_lit {w : World} {g b1 b2 : Nat} (h0 : w.cell? ⟨g, 0, none⟩ = some (.slice (some ⟨b1, 0, none⟩) 1 1)) (h1 : w.cell? ⟨g, 1, none⟩ = some (.slice (some ⟨b2, 0, none⟩) 1 1)) {x y : Int} (hx : w.cell? ⟨b1, 0, none⟩ = some (.int .i64 x)) (hy : w.cell? ⟨b2, 0, none⟩ = some (.int .i64 y)) (ix : I64 x) (iy : I64 y) : RR w (some ⟨g, 0, none⟩) 2 2 [[x], [y]] := by
  refine ⟨rfl, Nat.le_refl _, fun _ => ⟨g, 0, rfl, cell_lt h0, fun j hj => ?_⟩⟩
  match j, hj with
  | 0, _ => exact ⟨_, _, _, h0, ir_one hx, fun z hz => by rw [List.mem_singleton.1 hz]; exact ix⟩
  | 1, _ => exact ⟨_, _, _, h1, ir_one hy, fun z hz => by rw [List.mem_singleton.1 hz]; exact iy⟩

set_option maxHeartbeats 8000000 in
theorem alive16_any (w : World) : Calls Tryz.prog 6 #[] w (GotV w (.bool true)) := by
  have cc := Below.refl w.heap.size w
  go_enter Tryz.func6, Tryz.ntmps6
  go_wp2_with fail
  generalize hv_ : ((w.alloc (.cells #[.int .i64 3] 2)).alloc (.cells #[.int .i64 4] 2)).alloc (.cells #[.slice (some ⟨w.heap.size, 0, none⟩) 1 1, .slice (some ⟨w.heap.size + 1, 0, none⟩) 1 1] 28) = v1
  have bA : Below w.heap.size w v1 := by rw [← hv_]; exact (((Below.refl _ w).alloc (by simp) _).alloc (by simp) _).alloc (by simp <;> omega) _
  have hR : RR v1 (some ⟨w.heap.size + 1 + 1, 0, none⟩) 2 2 [[3], [4]] := rr_lit (b1 := w.heap.size) (b2 := w.heap.size + 1) (by simp [← hv_, go_sem]) (by simp [← hv_, go_sem]) (by simp [← hv_, go_sem]) (by simp [← hv_, go_sem]) (by decide) (by decide)
  replace cc := bK cc bA
  clear bA
  clear hv_
  have hl : ∀ l ∈ ([[3], [4]] : List (List Int)), l.length ≤ 100 ∧ ∀ z ∈ l, I64 z := by decide
  refine (clNorm_N hR (by omega) hl).mono ?_
  rintro e w1 ⟨An, nn, cn, rfl, hN, b⟩
  rw [norm_34] at hN
  replace hR := hR.on b
  replace cc := bK cc b
  clear b
  go_wp2_with fail
  refine (clMean_N hR (by omega) hl).mono ?_
  rintro e w2 ⟨Am, nm, cm, rfl, hM, b⟩
  rw [mean_34.1] at hM
  rw [mean_34.2]
  replace hN := hN.on b
  replace cc := bK cc b
  clear b hR hl
  go_wp2_with fail
  generalize hv_ : w2.alloc (.cells #[.int .i64 3, .int .i64 (-4)] 2) = v3
  have bA : Below w2.heap.size w2 v3 := by rw [← hv_]; exact below_one _ _
  have hI : IR v3 (some ⟨w2.heap.size, 0, none⟩) 2 2 [3, -4] := ir_two (by simp [← hv_, go_sem]) (by simp [← hv_, go_sem])
  replace hN := hN.on bA
  replace hM := hM.on bA
  replace cc := bK cc bA
  clear bA
  clear hv_
  refine (clClip_W hI hN (most := 2) (by decide) (by decide +kernel) (by omega) (by decide)).mono ?_
  rintro e w4 ⟨Ac, nc_, cc_, rfl, hC, b⟩
  rw [clip_34.1] at hC
  rw [clip_34.2]
  replace hN := hN.on b
  replace hM := hM.on b
  replace cc := bK cc b
  clear b hI
  go_wp2_with fail
  refine (clMean_N (rr_none w4) (by omega) (by intro l h; simp at h)).mono ?_
  rintro e w5 ⟨Ae, ne, ce, rfl, hE, b⟩
  rw [mean_none.2]
  replace hN := hN.on b
  replace hM := hM.on b
  replace hC := hC.on b
  replace cc := bK cc b
  clear b hE
  have e1 : nn = 1 := by rw [hN.len, limbs_5]; rfl
  have e2 : nm = 1 := hM.1
  have e3 : nc_ = 2 := hC.1
  subst e1
  subst e2
  subst e3
  obtain ⟨bn, on_, rfl, _, cN⟩ := hN.2.2.2 (by omega)
  obtain ⟨bm, om, rfl, _⟩ := ir_some16 hM (by omega)
  obtain ⟨bc, oc, rfl, _⟩ := ir_some16 hC (by omega)
  have k1 : w5.cell? ⟨bn, on_, none⟩ = some (.int .u64 5) := by have h := cN 0 (by omega); rw [limbs_5] at h; exact h
  have k2 : w5.cell? ⟨bm, om, none⟩ = some (.int .i64 4) := ir_cell16 hM (j := 0) (by omega)
  have k3 : w5.cell? ⟨bc, oc, none⟩ = some (.int .i64 1) := ir_cell16 hC (j := 0) (by omega)
  have k4 : w5.cell? ⟨bc, oc + 1, none⟩ = some (.int .i64 (-1)) := ir_cell16 hC (j := 1) (by omega)
  clear cN hN hM hC
  go_wp2_with fail
  go_ret
  exact ⟨rfl, cc⟩
end Go.Proofs.YtpephogadljncaaGreat

/-
  The contracts of the eleventh reference: Few, Len; Same of rows.
-/
namespace Go.Proofs.YtpephogadljncaaGreat
set_option maxRecDepth 100000
set_option maxHeartbeats 8000000
open Go.RowKit
set_option linter.unusedVariables false
set_option linter.unusedSimpArgs false



theorem rsame9_len (w : World) {A B : Option Addr} {n c m d : Nat} (h : n ≠ m) :
    Calls Tryz.prog 9 #[.slice A n c, .slice B m d] w (GotV w (.bool false)) := by
  have e1 : ((n : Int) == (m : Int)) = false := beq_eq_false_iff_ne.2 (by omega)
  have e2 : ((n : Int) != (m : Int)) = true := by simp; omega
  have e3 : (n == m) = false := beq_eq_false_iff_ne.2 h
  have e4 : (n != m) = true := by simp; omega
  clear h
  have cc := Below.refl w.heap.size w
  go_enter Tryz.func9, Tryz.ntmps9
  go_wp2_with fail
  go_wp2_with fail
  go_ret
  exact ⟨rfl, cc⟩

theorem rsame9_eq {w : World} {A B : Option Addr} {n c d : Nat} {L K : List Int} (hA : IR w A n c L) (hB : IR w B n d K) (hn : n ≤ 9223372036854775807) :
    Calls Tryz.prog 9 #[.slice A n c, .slice B n d] w (GotV w (.bool (decide (L = K)))) := by
  have hl : n = L.length := hA.1
  have hl2 : n = K.length := hB.1
  obtain ⟨r, hr⟩ : ∃ r, decide (L = K) = r := ⟨_, rfl⟩
  rw [hr]
  have cc := Below.refl w.heap.size w
  go_enter Tryz.func9, Tryz.ntmps9
  go_wp2_with fail
  go_wp2_with fail
  go_loopw [5] (fun iv wr => ∃ i : Nat, i ≤ n ∧ iv = .int .i64 (i : Int) ∧ (∀ j, j < i → L[j]?.getD 0 = K[j]?.getD 0) ∧ Below w.heap.size w wr) (fun iv _ => n - (intOf iv).toNat)
  case atStart => exact ⟨0, by omega, rfl, fun j h => absurd h (by omega), Below.refl _ _⟩
  case round =>
    obtain ⟨i, hi, rfl, hj, hbl⟩ := hrel
    by_cases hlt : i < n
    · obtain ⟨b1, o1, rfl, hb1, hc1⟩ := (hA.on hbl).2.2 (by omega)
      obtain ⟨b2, o2, rfl, hb2, hc2⟩ := (hB.on hbl).2.2 (by omega)
      have h1 := hc1 i hlt
      have h2 := hc2 i hlt
      have k3 : IntKind.i64.wrap ((i : Int) + 1) = ((i + 1 : Nat) : Int) := by rw [IntWalk.i64_in _ (by omega)]; omega
      clear hc1 hc2
      obtain ⟨x, hx⟩ : ∃ x, L[i]?.getD 0 = x := ⟨_, rfl⟩
      obtain ⟨y, hy⟩ : ∃ y, K[i]?.getD 0 = y := ⟨_, rfl⟩
      rw [hx] at h1
      rw [hy] at h2
      by_cases hxy : x = y
      · have t1 : (x == y) = true := beq_iff_eq.2 hxy
        have t2 : (x != y) = false := by simp; exact hxy
        have HJ : Hid (∀ j, j < i + 1 → L[j]?.getD 0 = K[j]?.getD 0) := Lib.hid (fun j h => by
          rcases Nat.lt_or_ge j i with e | e
          · exact hj j e
          · have e2 : j = i := by omega
            rw [e2, hx, hy]; exact hxy)
        clear hj hx hy hl hl2 hr hxy
        go_wp2_with fail
        go_region_held3 (fun w' => w'.cell? ⟨b1, o1 + i, none⟩ = some (.int .i64 x) ∧ w'.cell? ⟨b2, o2 + i, none⟩ = some (.int .i64 y)) (exact ⟨h1, h2⟩) (fail)
        go_wp2_with fail
        go_roundw
        case rel => exact ⟨i + 1, by omega, rfl, HJ.out, below_drewN hbl 1⟩
        case measure => simp [intOf] <;> omega
      · have t1 : (x == y) = false := beq_eq_false_iff_ne.2 hxy
        have t2 : (x != y) = true := by simp; exact hxy
        have hF : r = false := by rw [← hr]; exact decide_eq_false (fun h => hxy (by rw [← hx, ← hy, h]))
        subst hF
        clear hj hx hy hl hl2 hr hxy
        go_wp2_with fail
        go_region_held3 (fun w' => w'.cell? ⟨b1, o1 + i, none⟩ = some (.int .i64 x) ∧ w'.cell? ⟨b2, o2 + i, none⟩ = some (.int .i64 y)) (exact ⟨h1, h2⟩) (fail)
        go_wp2_with fail
        go_ret
        exact ⟨rfl, below_drewN hbl 1⟩
    · obtain rfl : i = n := by omega
      have hT : r = true := by
        rw [← hr]; refine decide_eq_true (List.ext_getElem (by omega) fun j h1 h2 => ?_)
        have := hj j (by omega)
        rwa [List.getElem?_eq_getElem h1, List.getElem?_eq_getElem h2] at this
      subst hT
      clear hj hl hl2 hr
      go_wp2_with fail
      go_ret
      exact ⟨rfl, hbl⟩

theorem rsame9_any {w : World} {A B : Option Addr} {n c m d : Nat} {L K : List Int} (hA : IR w A n c L) (hB : IR w B m d K) (hn : n ≤ 9223372036854775807) : Calls Tryz.prog 9 #[.slice A n c, .slice B m d] w (GotV w (.bool (decide (L = K)))) := by
  by_cases h : n = m
  · subst h; exact rsame9_eq hA hB hn
  · rw [decide_eq_false (fun e => h (by rw [hA.1, hB.1, e]))]; exact rsame9_len w h

end Go.Proofs.YtpephogadljncaaGreat

/-
  The walk of ClipTells.
-/
namespace Go.Proofs.YtpephogadljncaaGreat
set_option maxRecDepth 100000
set_option maxHeartbeats 8000000
open Go.RowKit
set_option linter.unusedVariables false
set_option linter.unusedSimpArgs false

theorem rsame9_self16 {w : World} {A B : Option Addr} {n c m d : Nat} {L : List Int} (hA : IR w A n c L) (hB : IR w B m d L) (hn : n ≤ 9223372036854775807) : Calls Tryz.prog 9 #[.slice A n c, .slice B m d] w (GotV w (.bool true)) := by
  have h := rsame9_any hA hB hn
  rw [decide_eq_true rfl] at h
  exact h
theorem clipR_long (N : Nat) (most : Int) (l : List Int) : (clipR N most l).length ≤ l.length := by
  by_cases h : most < 0
  · unfold clipR; rw [if_pos h]; exact Nat.zero_le _
  · unfold clipR
    rw [if_neg h]
    split
    · exact Nat.le_refl _
    · rw [List.length_map]; exact Nat.le_refl _
theorem mnL_long {L : List (List Int)} (hl : ∀ l ∈ L, l.length ≤ 100) : (mnL L).length ≤ 100 := by
  unfold mnL
  split
  · exact Nat.zero_le _
  · rename_i h
    unfold meanL
    rw [List.length_map, List.length_range]
    rcases L with _ | ⟨x, M⟩
    · exact absurd (Or.inl rfl) h
    · exact hl x (by simp)

theorem ClipTells_many {w : World} {A B : Option Addr} {n c m d : Nat} {k : List Nat} {most : Int} {L : List (List Int)} (hA : RR w A n c L) (hn : n ≤ 2305843009213693952) (hl : ∀ l ∈ L, l.length ≤ 2305843009213693952) (hf : ¬ few16 L ≤ 40) :
    Calls Tryz.prog 3 #[.slice A n c, .slice B m d, .int .i64 most] w fun e w' => e = .returned (.bool true) ∧ Below w.heap.size w w' := by
  have CF := rFew16_N hA hn hl
  rw [decide_eq_false hf] at CF
  clear hA hn hl hf
  have cc := Below.refl w.heap.size w
  go_enter Tryz.func3, Tryz.ntmps3
  go_wp2_with fail
  refine (CF).mono ?_
  rintro e w1 ⟨rfl, b⟩
  replace cc := bK cc b
  clear b
  go_wp2_with fail
  refine (alive16_any _).mono ?_
  rintro e w2 ⟨rfl, b⟩
  replace cc := bK cc b
  clear b
  go_wp2_with fail
  go_ret
  exact ⟨rfl, cc⟩

theorem ClipTells_norm {w : World} {A B : Option Addr} {n c m d : Nat} {k : List Nat} {most : Int} {L : List (List Int)} (hA : RR w A n c L) (hn : n ≤ 2305843009213693952) (hl : ∀ l ∈ L, l.length ≤ 2305843009213693952) (hf : few16 L ≤ 40) (h1 : 4 < m) :
    Calls Tryz.prog 3 #[.slice A n c, .slice B m d, .int .i64 most] w fun e w' => e = .returned (.bool true) ∧ Below w.heap.size w w' := by
  have CF := rFew16_N hA hn hl
  rw [decide_eq_true hf] at CF
  have t1 : decide (4 < (m : Int)) = true := decide_eq_true (by omega)
  have t1b : decide (4 < m) = true := decide_eq_true (by omega)
  clear hA hn hl hf h1
  have cc := Below.refl w.heap.size w
  go_enter Tryz.func3, Tryz.ntmps3
  go_wp2_with fail
  refine (CF).mono ?_
  rintro e w1 ⟨rfl, b⟩
  replace cc := bK cc b
  clear b
  go_wp2_with fail
  refine (alive16_any _).mono ?_
  rintro e w2 ⟨rfl, b⟩
  replace cc := bK cc b
  clear b
  go_wp2_with fail
  go_ret
  exact ⟨rfl, cc⟩

theorem ClipTells_wrong {w : World} {A B : Option Addr} {n c m d : Nat} {k : List Nat} {most : Int} {L : List (List Int)} (hA : RR w A n c L) (hn : n ≤ 2305843009213693952) (hl : ∀ l ∈ L, l.length ≤ 2305843009213693952) (hB : Lim w.heap.size w B m d k) (hf : few16 L ≤ 40) (h1 : ¬ 4 < m) (hc : canon k = false) :
    Calls Tryz.prog 3 #[.slice A n c, .slice B m d, .int .i64 most] w fun e w' => e = .returned (.bool true) ∧ Below w.heap.size w w' := by
  have CF := rFew16_N hA hn hl
  rw [decide_eq_true hf] at CF
  have t1 : decide (4 < (m : Int)) = false := decide_eq_false (by omega)
  have t1b : decide (4 < m) = false := decide_eq_false (by omega)
  have CR : ∀ W, Below w.heap.size w W → Calls Tryz.prog 5 #[.slice B m d] W (GotV W (.bool false)) := fun W b => (rright_any _ _ _ _ _ false _ ((Lim.below hB b).more b.size) (by omega) hc).mono (fun e w' h => by obtain ⟨h1, h2⟩ := h; subst h2; exact ⟨h1, Below.refl _ _⟩)
  clear hA hn hl hf h1 hB hc
  have cc := Below.refl w.heap.size w
  go_enter Tryz.func3, Tryz.ntmps3
  go_wp2_with fail
  refine (CF).mono ?_
  rintro e w1 ⟨rfl, b⟩
  replace cc := bK cc b
  clear b
  go_wp2_with fail
  refine (CR _ cc).mono ?_
  rintro e w2 ⟨rfl, b⟩
  replace cc := bK cc b
  clear b
  go_wp2_with fail
  refine (alive16_any _).mono ?_
  rintro e w3 ⟨rfl, b⟩
  replace cc := bK cc b
  clear b
  go_wp2_with fail
  go_ret
  exact ⟨rfl, cc⟩

theorem ClipTells_main {w : World} {A B : Option Addr} {n c m d : Nat} {k : List Nat} {most : Int} {L : List (List Int)} (hA : RR w A n c L) (hn : n ≤ 2305843009213693952) (hl : ∀ l ∈ L, l.length ≤ 2305843009213693952) {N : Nat} (hB : Num w B m d N) (hm : I64 most) (hf : few16 L ≤ 40) (h1 : ¬ 4 < m) :
    Calls Tryz.prog 3 #[.slice A n c, .slice B m d, .int .i64 most] w fun e w' => e = .returned (.bool true) ∧ Below w.heap.size w w' := by
  have CF := rFew16_N hA hn hl
  rw [decide_eq_true hf] at CF
  obtain ⟨q1, q2⟩ := few_rows hf
  have hz := rr_i64 hA
  have hn1 : n ≤ 100 := by rw [hA.1]; omega
  have hl1 : ∀ l ∈ L, l.length ≤ 100 ∧ ∀ z ∈ l, I64 z := fun l h => ⟨by have := q2 l h; omega, hz l h⟩
  have t1 : decide (4 < (m : Int)) = false := decide_eq_false (by omega)
  have t1b : decide (4 < m) = false := decide_eq_false (by omega)
  have hN4 : (limbs N).length ≤ 4 := by rw [← hB.len]; omega
  have HN4 := Lib.hid hN4
  have CM := fun {W : World} (h : RR W A n c L) => clMean_N h hn1 hl1
  have CM2 := fun {W : World} (h : RR W A n c L) => rMean16_N h hn1 hl1
  have CN := fun {W : World} (h : RR W A n c L) => clNorm_N h hn1 hl1
  have CN2 := fun {W : World} (h : RR W A n c L) => rNorm16_N h hn1 hl1
  have HL1 := Lib.hid hl1
  have hml := mnL_long (L := L) (fun l h => (hl1 l h).1)
  have HML := Lib.hid hml
  have hln := norm_len (show L.length ≤ 100 by omega) hl1
  have HLN := Lib.hid hln
  have HN1 := Lib.hid hn1
  have HM := Lib.hid hm
  have he : (mnE L == mnE L) = true := by simp
  generalize mnL L = ML at *
  generalize mnE L = ME at *
  generalize norm16 L = NN at *
  clear hn hl hf q1 q2 hz hl1 hml hln hN4 h1 hm he
  have cc := Below.refl w.heap.size w
  go_enter Tryz.func3, Tryz.ntmps3
  go_wp2_with fail
  refine (CF).mono ?_
  rintro e w1 ⟨rfl, b⟩
  replace hA := hA.on b
  replace hB := hB.on b
  replace cc := bK cc b
  clear b
  go_wp2_with fail
  refine (rright_N hB (Nat.le_trans HN4.out (by omega))).mono ?_
  rintro e w2 ⟨rfl, b⟩
  replace hA := hA.on b
  replace hB := hB.on b
  replace cc := bK cc b
  clear b
  go_wp2_with fail
  refine (CM hA).mono ?_
  rintro e w3 ⟨Ax, nx_, cx, rfl, hx, b⟩
  replace hA := hA.on b
  replace hB := hB.on b
  replace cc := bK cc b
  clear b
  go_wp2_with fail
  refine (CM2 hA).mono ?_
  rintro e w4 ⟨Ay, ny_, cy, rfl, hy, b⟩
  replace hA := hA.on b
  replace hB := hB.on b
  replace hx := hx.on b
  replace cc := bK cc b
  clear b
  go_wp2_with fail
  refine (rsame9_self16 hx hy (by rw [hx.1]; have := HML.out; omega)).mono ?_
  rintro e w5 ⟨rfl, b⟩
  replace hA := hA.on b
  replace hB := hB.on b
  replace hx := hx.on b
  replace hy := hy.on b
  replace cc := bK cc b
  clear b
  clear hx hy
  go_wp2_with fail
  refine (CN hA).mono ?_
  rintro e w6 ⟨Ap, np_, cp, rfl, hp, b⟩
  replace hA := hA.on b
  replace hB := hB.on b
  replace cc := bK cc b
  clear b
  go_wp2_with fail
  refine (CN2 hA).mono ?_
  rintro e w7 ⟨Aq, nq_, cq, rfl, hq, b⟩
  replace hA := hA.on b
  replace hB := hB.on b
  replace hp := hp.on b
  replace cc := bK cc b
  clear b
  go_wp2_with fail
  refine (same_N hp hq (Nat.le_trans HLN.out (by omega)) (Nat.le_trans HLN.out (by omega)) rfl).mono ?_
  rintro e w8 ⟨rfl, b⟩
  replace hA := hA.on b
  replace hB := hB.on b
  replace hp := hp.on b
  replace hq := hq.on b
  replace cc := bK cc b
  clear b
  clear hp hq
  have HA := Lib.hid hA
  have HB := Lib.hid hB
  have HCC := Lib.hid cc
  clear hA hB cc CM CM2 CN CN2
  go_wp2_with fail
  go_loopw [11] (fun iv wr => ∃ i : Nat, i ≤ n ∧ iv = .int .i64 (i : Int) ∧ Below w8.heap.size w8 wr) (fun iv _ => n - (intOf iv).toNat)
  case atStart => exact ⟨0, by omega, rfl, Below.refl _ _⟩
  case round =>
    obtain ⟨i, hi2, rfl, cc⟩ := hrel
    by_cases hlt : i < n
    · have hA := HA.out.on cc
      have hB := HB.out.on cc
      obtain ⟨bb, off, rfl, hbb⟩ := hA.some (by omega)
      obtain ⟨A1, n1, c1, h1, hR, hz1⟩ := rr_at hA hlt
      have hl100 : n1 ≤ 100 := by rw [hR.1]; exact (HL1.out _ (mem_at16 (by rw [← hA.1]; exact hlt))).1
      have jl : (i : Int) < (n : Int) := by omega
      have k3 : IntKind.i64.wrap ((i : Int) + 1) = ((i + 1 : Nat) : Int) := by have := HN1.out; rw [IntWalk.i64_in _ (by omega)]; omega
      have hcl := clipR_long N most (L[i]?.getD [])
      rw [← hR.1] at hcl
      have CC := fun {W : World} (a : IR W A1 n1 c1 (L[i]?.getD [])) (b : Num W B m d N) => clClip_W a b HM.out (Nat.le_trans HN4.out (by omega)) hl100 hz1
      have CD := fun {W : World} (a : IR W A1 n1 c1 (L[i]?.getD [])) (b : Num W B m d N) => rClip16_N a b HM.out (Nat.le_trans HN4.out (by omega)) hl100 hz1
      generalize L[i]?.getD [] = R at *
      generalize clipR N most R = CR at *
      generalize clipE most = CE at *
      have HCL := Lib.hid (show CR.length ≤ 100 by omega)
      clear hA hz1 hl100 hcl
      have cc0 := cc
      go_wp2_with fail
      refine (CC hR hB).mono ?_
      rintro e w9 ⟨Ax, nx_, cx, rfl, hx, b⟩
      replace h1 := cK b h1 hbb
      replace hbb := lK b hbb
      replace hR := hR.on b
      replace hB := hB.on b
      replace cc := bK cc b
      clear b
      go_wp2_with fail
      refine (CD hR hB).mono ?_
      rintro e w10 ⟨Ay, ny_, cy, rfl, hy, b⟩
      replace h1 := cK b h1 hbb
      replace hbb := lK b hbb
      replace hR := hR.on b
      replace hB := hB.on b
      replace hx := hx.on b
      replace cc := bK cc b
      clear b
      go_wp2_with fail
      refine (rsame9_self16 hx hy (by rw [hx.1]; have := HCL.out; omega)).mono ?_
      rintro e w11 ⟨rfl, b⟩
      replace h1 := cK b h1 hbb
      replace hbb := lK b hbb
      replace hR := hR.on b
      replace hB := hB.on b
      replace hx := hx.on b
      replace hy := hy.on b
      replace cc := bK cc b
      clear b
      clear hx hy hR hB h1 cc0
      go_wp2_with fail
      go_roundw
      case rel => exact ⟨i + 1, by omega, by go_num, cc⟩
      case measure => simp [intOf] <;> omega
    · obtain rfl : i = n := by omega
      replace cc := HCC.out.trans (cc.mono HCC.out.size)
      go_wp2_with fail
      refine (alive16_any _).mono ?_
      rintro e w9 ⟨rfl, b⟩
      replace cc := bK cc b
      clear b
      go_wp2_with fail
      go_ret
      exact ⟨rfl, cc⟩

theorem ClipTells_walk {w : World} {A B : Option Addr} {n c m d : Nat} {k : List Nat} {most : Int} {L : List (List Int)} (hA : RR w A n c L) (hn : n ≤ 2305843009213693952) (hl : ∀ l ∈ L, l.length ≤ 2305843009213693952) (hB : Lim w.heap.size w B m d k) (hm : I64 most) : Calls Tryz.prog 3 #[.slice A n c, .slice B m d, .int .i64 most] w fun e w' => e = .returned (.bool true) ∧ Below w.heap.size w w' := by
  by_cases hf : few16 L ≤ 40
  rotate_left
  · exact ClipTells_many (k := k) hA hn hl hf
  by_cases h1 : 4 < m
  · exact ClipTells_norm (k := k) hA hn hl hf h1
  cases hc : canon k with
  | false => exact ClipTells_wrong hA hn hl hB hf h1 hc
  | true =>
    have hN : Num w B m d (val k) := by unfold Num; rw [limbs_val hB.2.2.1 hc]; exact hB
    exact ClipTells_main (k := k) hA hn hl hN hm hf h1

end Go.Proofs.YtpephogadljncaaGreat
