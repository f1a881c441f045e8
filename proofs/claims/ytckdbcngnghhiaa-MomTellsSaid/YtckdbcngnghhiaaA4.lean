/-
  Several texts in one: F6, F7, DX, M8, F8, K8, M17.
-/
import Derived.Test.YtckdbcngnghhiaaA3
import Derived.Test.YtckdbcngnghhiaaA2
import Derived.Test.YtckdbcngnghhiaaA1

/-
  The contracts of the sixth reference: Back, Floor, Ceil.
-/
namespace Go.Proofs.Ytckdbcngnghhiaa
set_option maxRecDepth 100000
set_option maxHeartbeats 8000000
open Go.RowKit
set_option linter.unusedVariables false
set_option linter.unusedSimpArgs false

/-- A call has answered an integer and a code. -/
def GotZp (w : World) (z : Int) (r : Int) (e : Ending) (w' : World) : Prop := ∃ b A n c, e = .returned (.tuple #[.agg #[.bool b, .slice A n c], .int .i64 r]) ∧ Zn w' b A n c z ∧ Below w.heap.size w w'
theorem len_pow2 {k : Nat} (h : k ≤ 500) : (limbs (2 ^ k)).length ≤ 8 := by
  refine Nat.le_trans (limbs_length_le (k := k / 64 + 1) ?_) (by omega)
  rw [show B64 = 2 ^ 64 from rfl, ← Nat.pow_mul]
  exact Nat.pow_lt_pow_right (by omega) (by omega)
theorem to_nat {j : Int} (h : 0 ≤ j) : ((j.toNat : Nat) : Int) = j := Int.toNat_of_nonneg h
theorem rback_N {w : World} {b : Bool} {A : Option Addr} {n c : Nat} {z : Int} (ha : Zn w b A n c z) (hz : (limbs z.natAbs).length ≤ 80) {j : Int} (h0 : 0 ≤ j) (h1 : j ≤ 500) :
    Calls Try.prog 54 #[.agg #[.bool b, .slice A n c], .int .i64 j] w (GotRp w (bak z j.toNat) 0) := by
  have t1 : decide (j < 0) = false := decide_eq_false (by omega)
  have t2 : decide (2000 < j) = false := decide_eq_false (by omega)
  have je := to_nat h0
  have jl : j.toNat ≤ 500 := by omega
  obtain ⟨k, hk⟩ : ∃ k, j.toNat = k := ⟨_, rfl⟩
  rw [hk] at je jl ⊢
  have lk := len_pow2 jl
  have CS : ∀ {W : World} {A : Option Addr} {m c x : Nat}, Num W A m c x → (limbs x).length ≤ 1000 → Calls Try.prog 72 #[.slice A m c, .int .i64 j] W (GotP W (x * 2 ^ k) 0) := fun ha hx => by rw [← je]; exact rshl_N ha hx (by omega)
  clear hk
  have hp : 2 ^ k ≠ 0 := Nat.ne_of_gt (Nat.pow_pos (by omega))
  have l1 : (limbs 1).length ≤ 1000 := Nat.le_trans (len_one (by decide)) (by omega)
  clear je h0 h1
  have cc := Below.refl w.heap.size w
  go_enter Try.func54, Try.ntmps54
  go_wp2_with fail
  generalize hv_ : (w.alloc (.cells #[.bool b, .slice A n c] 38)).alloc (.cells #[.bool false, .slice none 0 0, .slice none 0 0] 40) = v1
  obtain ⟨f0, f1, f2⟩ : Fz3 v1 (w.heap.size + 1) := by simp [Fz3, ← hv_, go_sem]
  have bA : Below w.heap.size w v1 := by rw [← hv_]; exact (((Below.refl _ w).alloc (by simp) _).alloc (by simp) _)
  replace ha := ha.on bA
  replace cc := bK cc bA
  clear bA
  obtain ⟨k0, k1⟩ : Cs2 v1 w.heap.size (.bool b) (.slice A n c) := by simp [Cs2, ← hv_, go_sem]
  have kl : w.heap.size < v1.heap.size := by simp [← hv_] <;> omega
  obtain ⟨g0, g1, g2⟩ : Cs3 v1 (w.heap.size + 1) (.bool false) (.slice none 0 0) (.slice none 0 0) := by simp [Cs3, ← hv_, go_sem]
  have gl : w.heap.size + 1 < v1.heap.size := by simp [← hv_] <;> omega
  clear hv_
  refine (rof_N v1 1 (by decide)).mono ?_
  rintro e w2 ⟨Ao, no, co, rfl, o, b⟩
  rewrite [fR b gl] at f0 f1 f2
  replace ha := ha.on b
  rewrite [cR b kl] at k0 k1
  replace kl := lK b kl
  rewrite [cR b gl] at g0 g1 g2
  replace gl := lK b gl
  replace cc := bK cc b
  clear b
  go_wp2_with fail
  refine (CS o l1).mono ?_
  rintro e w3 ⟨Aq, nq, cq, rfl, q, b⟩
  rw [Nat.one_mul] at q
  rewrite [fR b gl] at f0 f1 f2
  replace ha := ha.on b
  replace o := o.on b
  rewrite [cR b kl] at k0 k1
  replace kl := lK b kl
  rewrite [cR b gl] at g0 g1 g2
  replace gl := lK b gl
  replace cc := bK cc b
  clear b
  go_wp2_with fail
  refine (rtmake_N ha q hp (by omega) (by omega)).mono ?_
  rintro e w4 ⟨bm, Am, nm, cm, Bm, mm, dm, rfl, hm, b⟩
  rewrite [fR b gl] at f0 f1 f2
  replace ha := ha.on b
  replace o := o.on b
  replace q := q.on b
  rewrite [cR b kl] at k0 k1
  replace kl := lK b kl
  rewrite [cR b gl] at g0 g1 g2
  replace gl := lK b gl
  replace cc := bK cc b
  clear b
  have hn : Rt w4 bm Am nm cm Bm mm dm (bak z k) := hm
  have eb : BoxR w4 (w.heap.size + 1) false none 0 0 none 0 0 := ⟨g0, g1, g2⟩
  have HZ : Hid (Rt (putR w4 (w.heap.size + 1) (.bool bm) (.slice Am nm cm) (.slice Bm mm dm)) bm Am nm cm Bm mm dm (bak z k)) := Lib.hid (Rt.putR hn eb _ _ _)
  clear hn
  go_wp2_with fail
  refine bodyPost_ret (v := .tuple #[.agg #[.bool bm, .slice Am nm cm, .slice Bm mm dm], .int .i64 0]) (by simp [results, Try.results54, go_sem, g0, g1, g2]) rfl ⟨_, _, _, _, _, _, _, rfl, HZ.out, below_putR cc (by omega) _ _ _⟩

theorem rfloor_pos {w : World} {b0 : Bool} {A0 B0 : Option Addr} {n0 c0 m0 d0 : Nat} {x0 : Rat} (hx : Rt w b0 A0 n0 c0 B0 m0 d0 x0) (s0 : Sz x0 30) {j : Int} (h0 : 0 ≤ j) (h1 : j ≤ 500) (hs : ¬ x0.num < 0) :
    Calls Try.prog 73 #[.agg #[.bool b0, .slice A0 n0 c0, .slice B0 m0 d0], .int .i64 j] w (GotZp w (flo x0 j.toNat) 0) := by
  have t1 : decide (j < 0) = false := decide_eq_false (by omega)
  have t2 : decide (2000 < j) = false := decide_eq_false (by omega)
  have je := to_nat h0
  have jl : j.toNat ≤ 500 := by omega
  obtain ⟨k, hk⟩ : ∃ k, j.toNat = k := ⟨_, rfl⟩
  rw [hk] at je jl ⊢
  have lk := len_pow2 jl
  have CS : ∀ {W : World} {A : Option Addr} {m c x : Nat}, Num W A m c x → (limbs x).length ≤ 1000 → Calls Try.prog 72 #[.slice A m c, .int .i64 j] W (GotP W (x * 2 ^ k) 0) := fun ha hx => by rw [← je]; exact rshl_N ha hx (by omega)
  clear hk
  have p0 := hx.1.1
  have q0 := hx.2
  have hb0 : b0 = false := by rw [hx.1.2]; exact decide_eq_false hs
  subst hb0
  have lp := s0.1
  have lq := s0.2
  have hq0 := x0.den_nz
  have lu : (limbs (x0.num.natAbs * 2 ^ k)).length ≤ 38 := limbs_length_mul lp lk
  have ld : (limbs (x0.num.natAbs * 2 ^ k / x0.den)).length ≤ 38 := Nat.le_trans (limbs_length_mono (Nat.div_le_self _ _)) lu
  obtain ⟨u, hU⟩ : ∃ u, x0.num.natAbs * 2 ^ k = u := ⟨_, rfl⟩
  have HF : Hid (flo x0 k = ((u / x0.den : Nat) : Int)) := Lib.hid (by rw [← hU]; exact flo_pos x0 k hs)
  rw [hU] at lu ld
  have CU : ∀ {W : World} {A : Option Addr} {m c : Nat}, Num W A m c x0.num.natAbs → Calls Try.prog 72 #[.slice A m c, .int .i64 j] W (GotP W u 0) := fun ha => by rw [← hU]; exact CS ha (by omega)
  clear hU CS hs je h0 h1
  have cc := Below.refl w.heap.size w
  go_enter Try.func73, Try.ntmps73
  go_wp2_with fail
  generalize hv_ : (w.alloc (.cells #[.bool false, .slice A0 n0 c0, .slice B0 m0 d0] 40)).alloc (.cells #[.bool false, .slice none 0 0] 38) = v1
  obtain ⟨f0, f1⟩ : Fz2 v1 (w.heap.size + 1) := by simp [Fz2, ← hv_, go_sem]
  have bA : Below w.heap.size w v1 := by rw [← hv_]; exact (((Below.refl _ w).alloc (by simp) _).alloc (by simp) _)
  replace p0 := p0.on bA
  replace q0 := q0.on bA
  replace cc := bK cc bA
  clear bA
  obtain ⟨k0, k1, k2⟩ : Cs3 v1 w.heap.size (.bool false) (.slice A0 n0 c0) (.slice B0 m0 d0) := by simp [Cs3, ← hv_, go_sem]
  have kl : w.heap.size < v1.heap.size := by simp [← hv_] <;> omega
  obtain ⟨g0, g1⟩ : Cs2 v1 (w.heap.size + 1) (.bool false) (.slice none 0 0) := by simp [Cs2, ← hv_, go_sem]
  have gl : w.heap.size + 1 < v1.heap.size := by simp [← hv_] <;> omega
  clear hv_
  refine (CU p0).mono ?_
  rintro e w2 ⟨Av, nv, cv, rfl, v, b⟩
  rewrite [fR b gl] at f0 f1
  replace p0 := p0.on b
  replace q0 := q0.on b
  rewrite [cR b kl] at k0 k1 k2
  replace kl := lK b kl
  rewrite [cR b gl] at g0 g1
  replace gl := lK b gl
  replace cc := bK cc b
  clear b
  go_wp2_with fail
  refine (rdiv_N v q0 (by omega) (by omega) hq0).mono ?_
  rintro e w3 ⟨Aq, nq, cq, Ar, nr_, cr, rfl, dq, dr, b⟩
  rewrite [fR b gl] at f0 f1
  replace p0 := p0.on b
  replace q0 := q0.on b
  replace v := v.on b
  rewrite [cR b kl] at k0 k1 k2
  replace kl := lK b kl
  rewrite [cR b gl] at g0 g1
  replace gl := lK b gl
  replace cc := bK cc b
  clear b
  have hn : Zn w3 false Aq nq cq (flo x0 k) := by rw [HF.out]; exact zn_nat dq
  have eb : Box w3 (w.heap.size + 1) false none 0 0 := ⟨g0, g1⟩
  have HZ : Hid (Zn ((w3.setCell ⟨w.heap.size + 1, 0, none⟩ (.bool false)).setCell ⟨w.heap.size + 1, 1, none⟩ (.slice Aq nq cq)) false Aq nq cq (flo x0 k)) := Lib.hid (hn.put eb _ _)
  clear hn
  go_wp2_with fail
  refine bodyPost_ret (v := .tuple #[.agg #[.bool false, .slice Aq nq cq], .int .i64 0]) (by simp [results, Try.results73, go_sem, g0, g1]) rfl ⟨_, _, _, _, rfl, HZ.out, below_put cc (by omega) _ _⟩

theorem rfloor_neg0 {w : World} {b0 : Bool} {A0 B0 : Option Addr} {n0 c0 m0 d0 : Nat} {x0 : Rat} (hx : Rt w b0 A0 n0 c0 B0 m0 d0 x0) (s0 : Sz x0 30) {j : Int} (h0 : 0 ≤ j) (h1 : j ≤ 500) (hs : x0.num < 0) (hr : x0.num.natAbs * 2 ^ j.toNat % x0.den = 0) :
    Calls Try.prog 73 #[.agg #[.bool b0, .slice A0 n0 c0, .slice B0 m0 d0], .int .i64 j] w (GotZp w (flo x0 j.toNat) 0) := by
  have t1 : decide (j < 0) = false := decide_eq_false (by omega)
  have t2 : decide (2000 < j) = false := decide_eq_false (by omega)
  have je := to_nat h0
  have jl : j.toNat ≤ 500 := by omega
  obtain ⟨k, hk⟩ : ∃ k, j.toNat = k := ⟨_, rfl⟩
  rw [hk] at je jl hr ⊢
  have lk := len_pow2 jl
  have CS : ∀ {W : World} {A : Option Addr} {m c x : Nat}, Num W A m c x → (limbs x).length ≤ 1000 → Calls Try.prog 72 #[.slice A m c, .int .i64 j] W (GotP W (x * 2 ^ k) 0) := fun ha hx => by rw [← je]; exact rshl_N ha hx (by omega)
  clear hk
  have p0 := hx.1.1
  have q0 := hx.2
  have hb0 : b0 = true := by rw [hx.1.2]; exact decide_eq_true hs
  subst hb0
  have lp := s0.1
  have lq := s0.2
  have hq0 := x0.den_nz
  have lu : (limbs (x0.num.natAbs * 2 ^ k)).length ≤ 38 := limbs_length_mul lp lk
  have ld : (limbs (x0.num.natAbs * 2 ^ k / x0.den)).length ≤ 38 := Nat.le_trans (limbs_length_mono (Nat.div_le_self _ _)) lu
  obtain ⟨u, hU⟩ : ∃ u, x0.num.natAbs * 2 ^ k = u := ⟨_, rfl⟩
  have HF : Hid (flo x0 k = -((u / x0.den : Nat) : Int)) := Lib.hid (by rw [flo_neg x0 k hs, hU, if_pos (by rw [← hU]; exact hr), Nat.add_zero])
  have HR : Hid (u % x0.den = 0) := Lib.hid (by rw [← hU]; exact hr)
  rw [hU] at lu ld
  have CU : ∀ {W : World} {A : Option Addr} {m c : Nat}, Num W A m c x0.num.natAbs → Calls Try.prog 72 #[.slice A m c, .int .i64 j] W (GotP W u 0) := fun ha => by rw [← hU]; exact CS ha (by omega)
  clear hU CS hs je h0 h1 hr
  have cc := Below.refl w.heap.size w
  go_enter Try.func73, Try.ntmps73
  go_wp2_with fail
  generalize hv_ : (w.alloc (.cells #[.bool true, .slice A0 n0 c0, .slice B0 m0 d0] 40)).alloc (.cells #[.bool false, .slice none 0 0] 38) = v1
  obtain ⟨f0, f1⟩ : Fz2 v1 (w.heap.size + 1) := by simp [Fz2, ← hv_, go_sem]
  have bA : Below w.heap.size w v1 := by rw [← hv_]; exact (((Below.refl _ w).alloc (by simp) _).alloc (by simp) _)
  replace p0 := p0.on bA
  replace q0 := q0.on bA
  replace cc := bK cc bA
  clear bA
  obtain ⟨k0, k1, k2⟩ : Cs3 v1 w.heap.size (.bool true) (.slice A0 n0 c0) (.slice B0 m0 d0) := by simp [Cs3, ← hv_, go_sem]
  have kl : w.heap.size < v1.heap.size := by simp [← hv_] <;> omega
  obtain ⟨g0, g1⟩ : Cs2 v1 (w.heap.size + 1) (.bool false) (.slice none 0 0) := by simp [Cs2, ← hv_, go_sem]
  have gl : w.heap.size + 1 < v1.heap.size := by simp [← hv_] <;> omega
  clear hv_
  refine (CU p0).mono ?_
  rintro e w2 ⟨Av, nv, cv, rfl, v, b⟩
  rewrite [fR b gl] at f0 f1
  replace p0 := p0.on b
  replace q0 := q0.on b
  rewrite [cR b kl] at k0 k1 k2
  replace kl := lK b kl
  rewrite [cR b gl] at g0 g1
  replace gl := lK b gl
  replace cc := bK cc b
  clear b
  go_wp2_with fail
  refine (rdiv_N v q0 (by omega) (by omega) hq0).mono ?_
  rintro e w3 ⟨Aq, nq, cq, Ar, nr_, cr, rfl, dq, dr, b⟩
  rewrite [fR b gl] at f0 f1
  replace p0 := p0.on b
  replace q0 := q0.on b
  replace v := v.on b
  rewrite [cR b kl] at k0 k1 k2
  replace kl := lK b kl
  rewrite [cR b gl] at g0 g1
  replace gl := lK b gl
  replace cc := bK cc b
  clear b
  have hz := dr.len
  rw [HR.out, limbs_zero] at hz
  simp only [List.length_nil] at hz
  subst hz
  have zq := zn_nat dq
  have lz : (limbs ((u / x0.den : Nat) : Int).natAbs).length ≤ 1000000 := by rw [Int.natAbs_natCast]; omega
  go_wp2_with fail
  refine (rzneg_N zq lz).mono ?_
  rintro e w4 ⟨bm, Am, nm, cm, rfl, hm, b⟩
  rewrite [fR b gl] at f0 f1
  replace p0 := p0.on b
  replace q0 := q0.on b
  replace v := v.on b
  replace dq := dq.on b
  replace dr := dr.on b
  replace zq := zq.on b
  rewrite [cR b kl] at k0 k1 k2
  replace kl := lK b kl
  rewrite [cR b gl] at g0 g1
  replace gl := lK b gl
  replace cc := bK cc b
  clear b
  have hn : Zn w4 bm Am nm cm (flo x0 k) := by rw [HF.out]; exact hm
  have eb : Box w4 (w.heap.size + 1) false none 0 0 := ⟨g0, g1⟩
  have HZ : Hid (Zn ((w4.setCell ⟨w.heap.size + 1, 0, none⟩ (.bool bm)).setCell ⟨w.heap.size + 1, 1, none⟩ (.slice Am nm cm)) bm Am nm cm (flo x0 k)) := Lib.hid (hn.put eb _ _)
  clear hn
  go_wp2_with fail
  refine bodyPost_ret (v := .tuple #[.agg #[.bool bm, .slice Am nm cm], .int .i64 0]) (by simp [results, Try.results73, go_sem, g0, g1]) rfl ⟨_, _, _, _, rfl, HZ.out, below_put cc (by omega) _ _⟩

theorem rfloor_neg1 {w : World} {b0 : Bool} {A0 B0 : Option Addr} {n0 c0 m0 d0 : Nat} {x0 : Rat} (hx : Rt w b0 A0 n0 c0 B0 m0 d0 x0) (s0 : Sz x0 30) {j : Int} (h0 : 0 ≤ j) (h1 : j ≤ 500) (hs : x0.num < 0) (hr : x0.num.natAbs * 2 ^ j.toNat % x0.den ≠ 0) :
    Calls Try.prog 73 #[.agg #[.bool b0, .slice A0 n0 c0, .slice B0 m0 d0], .int .i64 j] w (GotZp w (flo x0 j.toNat) 0) := by
  have t1 : decide (j < 0) = false := decide_eq_false (by omega)
  have t2 : decide (2000 < j) = false := decide_eq_false (by omega)
  have je := to_nat h0
  have jl : j.toNat ≤ 500 := by omega
  obtain ⟨k, hk⟩ : ∃ k, j.toNat = k := ⟨_, rfl⟩
  rw [hk] at je jl hr ⊢
  have lk := len_pow2 jl
  have CS : ∀ {W : World} {A : Option Addr} {m c x : Nat}, Num W A m c x → (limbs x).length ≤ 1000 → Calls Try.prog 72 #[.slice A m c, .int .i64 j] W (GotP W (x * 2 ^ k) 0) := fun ha hx => by rw [← je]; exact rshl_N ha hx (by omega)
  clear hk
  have p0 := hx.1.1
  have q0 := hx.2
  have hb0 : b0 = true := by rw [hx.1.2]; exact decide_eq_true hs
  subst hb0
  have lp := s0.1
  have lq := s0.2
  have hq0 := x0.den_nz
  have lu : (limbs (x0.num.natAbs * 2 ^ k)).length ≤ 38 := limbs_length_mul lp lk
  have ld : (limbs (x0.num.natAbs * 2 ^ k / x0.den)).length ≤ 38 := Nat.le_trans (limbs_length_mono (Nat.div_le_self _ _)) lu
  obtain ⟨u, hU⟩ : ∃ u, x0.num.natAbs * 2 ^ k = u := ⟨_, rfl⟩
  have HF : Hid (flo x0 k = -((u / x0.den + 1 : Nat) : Int)) := Lib.hid (by rw [flo_neg x0 k hs, hU, if_neg (by rw [← hU]; exact hr)])
  have HR : Hid (u % x0.den ≠ 0) := Lib.hid (by rw [← hU]; exact hr)
  have la : (limbs (u / x0.den + 1)).length ≤ 39 := by rw [← hU]; exact limbs_length_add ld (Nat.le_trans (len_one (by decide)) (by omega))
  rw [hU] at lu ld
  have CU : ∀ {W : World} {A : Option Addr} {m c : Nat}, Num W A m c x0.num.natAbs → Calls Try.prog 72 #[.slice A m c, .int .i64 j] W (GotP W u 0) := fun ha => by rw [← hU]; exact CS ha (by omega)
  clear hU CS hs je h0 h1 hr
  have cc := Below.refl w.heap.size w
  go_enter Try.func73, Try.ntmps73
  go_wp2_with fail
  generalize hv_ : (w.alloc (.cells #[.bool true, .slice A0 n0 c0, .slice B0 m0 d0] 40)).alloc (.cells #[.bool false, .slice none 0 0] 38) = v1
  obtain ⟨f0, f1⟩ : Fz2 v1 (w.heap.size + 1) := by simp [Fz2, ← hv_, go_sem]
  have bA : Below w.heap.size w v1 := by rw [← hv_]; exact (((Below.refl _ w).alloc (by simp) _).alloc (by simp) _)
  replace p0 := p0.on bA
  replace q0 := q0.on bA
  replace cc := bK cc bA
  clear bA
  obtain ⟨k0, k1, k2⟩ : Cs3 v1 w.heap.size (.bool true) (.slice A0 n0 c0) (.slice B0 m0 d0) := by simp [Cs3, ← hv_, go_sem]
  have kl : w.heap.size < v1.heap.size := by simp [← hv_] <;> omega
  obtain ⟨g0, g1⟩ : Cs2 v1 (w.heap.size + 1) (.bool false) (.slice none 0 0) := by simp [Cs2, ← hv_, go_sem]
  have gl : w.heap.size + 1 < v1.heap.size := by simp [← hv_] <;> omega
  clear hv_
  refine (CU p0).mono ?_
  rintro e w2 ⟨Av, nv, cv, rfl, v, b⟩
  rewrite [fR b gl] at f0 f1
  replace p0 := p0.on b
  replace q0 := q0.on b
  rewrite [cR b kl] at k0 k1 k2
  replace kl := lK b kl
  rewrite [cR b gl] at g0 g1
  replace gl := lK b gl
  replace cc := bK cc b
  clear b
  go_wp2_with fail
  refine (rdiv_N v q0 (by omega) (by omega) hq0).mono ?_
  rintro e w3 ⟨Aq, nq, cq, Ar, nr_, cr, rfl, dq, dr, b⟩
  rewrite [fR b gl] at f0 f1
  replace p0 := p0.on b
  replace q0 := q0.on b
  replace v := v.on b
  rewrite [cR b kl] at k0 k1 k2
  replace kl := lK b kl
  rewrite [cR b gl] at g0 g1
  replace gl := lK b gl
  replace cc := bK cc b
  clear b
  have hz : 0 < nr_ := dr.some_len HR.out
  have hz0 : decide ((0 : Int) < (nr_ : Int)) = true := decide_eq_true (by omega)
  have lz : (limbs ((u / x0.den + 1 : Nat) : Int).natAbs).length ≤ 1000000 := by rw [Int.natAbs_natCast]; omega
  have l1 : (limbs 1).length ≤ 1000000 := Nat.le_trans (len_one (by decide)) (by omega)
  go_wp2_with fail
  refine (rof_N _ 1 (by decide)).mono ?_
  rintro e w4 ⟨Ao, no, co, rfl, o, b⟩
  rewrite [fR b gl] at f0 f1
  replace p0 := p0.on b
  replace q0 := q0.on b
  replace v := v.on b
  replace dq := dq.on b
  replace dr := dr.on b
  rewrite [cR b kl] at k0 k1 k2
  replace kl := lK b kl
  rewrite [cR b gl] at g0 g1
  replace gl := lK b gl
  replace cc := bK cc b
  clear b
  go_wp2_with fail
  refine (radd_N dq o (by omega) l1).mono ?_
  rintro e w5 ⟨Aa, na, ca, rfl, a, b⟩
  rewrite [fR b gl] at f0 f1
  replace p0 := p0.on b
  replace q0 := q0.on b
  replace v := v.on b
  replace dq := dq.on b
  replace dr := dr.on b
  replace o := o.on b
  rewrite [cR b kl] at k0 k1 k2
  replace kl := lK b kl
  rewrite [cR b gl] at g0 g1
  replace gl := lK b gl
  replace cc := bK cc b
  clear b
  have zq := zn_nat a
  go_wp2_with fail
  refine (rzneg_N zq lz).mono ?_
  rintro e w6 ⟨bm, Am, nm, cm, rfl, hm, b⟩
  rewrite [fR b gl] at f0 f1
  replace p0 := p0.on b
  replace q0 := q0.on b
  replace v := v.on b
  replace dq := dq.on b
  replace dr := dr.on b
  replace o := o.on b
  replace a := a.on b
  replace zq := zq.on b
  rewrite [cR b kl] at k0 k1 k2
  replace kl := lK b kl
  rewrite [cR b gl] at g0 g1
  replace gl := lK b gl
  replace cc := bK cc b
  clear b
  have hn : Zn w6 bm Am nm cm (flo x0 k) := by rw [HF.out]; exact hm
  have eb : Box w6 (w.heap.size + 1) false none 0 0 := ⟨g0, g1⟩
  have HZ : Hid (Zn ((w6.setCell ⟨w.heap.size + 1, 0, none⟩ (.bool bm)).setCell ⟨w.heap.size + 1, 1, none⟩ (.slice Am nm cm)) bm Am nm cm (flo x0 k)) := Lib.hid (hn.put eb _ _)
  clear hn
  go_wp2_with fail
  refine bodyPost_ret (v := .tuple #[.agg #[.bool bm, .slice Am nm cm], .int .i64 0]) (by simp [results, Try.results73, go_sem, g0, g1]) rfl ⟨_, _, _, _, rfl, HZ.out, below_put cc (by omega) _ _⟩

theorem rfloor_N {w : World} {b0 : Bool} {A0 B0 : Option Addr} {n0 c0 m0 d0 : Nat} {x0 : Rat} (hx : Rt w b0 A0 n0 c0 B0 m0 d0 x0) (s0 : Sz x0 30) {j : Int} (h0 : 0 ≤ j) (h1 : j ≤ 500) :
    Calls Try.prog 73 #[.agg #[.bool b0, .slice A0 n0 c0, .slice B0 m0 d0], .int .i64 j] w (GotZp w (flo x0 j.toNat) 0) := by
  by_cases hs : x0.num < 0
  · by_cases hr : x0.num.natAbs * 2 ^ j.toNat % x0.den = 0
    · exact rfloor_neg0 hx s0 h0 h1 hs hr
    · exact rfloor_neg1 hx s0 h0 h1 hs hr
  · exact rfloor_pos hx s0 h0 h1 hs

theorem flo_len {x : Rat} {j k : Nat} (h : Sz x k) (hj : j ≤ 500) : (limbs (flo x j).natAbs).length ≤ k + 9 := by
  have h1 : (limbs (x.num.natAbs * 2 ^ j)).length ≤ k + 8 := limbs_length_mul h.1 (len_pow2 hj)
  have h2 : (limbs (x.num.natAbs * 2 ^ j / x.den)).length ≤ k + 8 := Nat.le_trans (limbs_length_mono (Nat.div_le_self _ _)) h1
  by_cases hs : x.num < 0
  · rw [flo_neg x j hs, Int.natAbs_neg, Int.natAbs_natCast]
    refine limbs_length_add h2 (Nat.le_trans (len_one (Nat.lt_of_le_of_lt (m := 1) ?_ (by decide))) (by omega))
    split <;> omega
  · rw [flo_pos x j hs, Int.natAbs_natCast]
    omega
theorem cei_len {x : Rat} {j k : Nat} (h : Sz x k) (hj : j ≤ 500) : (limbs (cei x j).natAbs).length ≤ k + 9 := by
  unfold cei; rw [Int.natAbs_neg]; exact flo_len h.neg hj
theorem nea_len {x : Rat} {j k : Nat} (h : Sz x k) (hj : j ≤ 500) : (limbs (nea x j).natAbs).length ≤ k + 9 := by
  rcases nea_one x j with e | e
  · rw [e]; exact flo_len h hj
  · rw [e]; exact cei_len h hj
theorem bak_sz {z : Int} {j k : Nat} (h : (limbs z.natAbs).length ≤ k) (h8 : 8 ≤ k) (hj : j ≤ 500) : Sz (bak z j) k := sz_mk (Nat.ne_of_gt (Nat.pow_pos (by omega))) h (Nat.le_trans (len_pow2 hj) h8)

theorem rceil_N {w : World} {b0 : Bool} {A0 B0 : Option Addr} {n0 c0 m0 d0 : Nat} {x0 : Rat} (hx : Rt w b0 A0 n0 c0 B0 m0 d0 x0) (s0 : Sz x0 30) {j : Int} (h0 : 0 ≤ j) (h1 : j ≤ 500) :
    Calls Try.prog 74 #[.agg #[.bool b0, .slice A0 n0 c0, .slice B0 m0 d0], .int .i64 j] w (GotZp w (cei x0 j.toNat) 0) := by
  obtain ⟨y, hy⟩ : ∃ y : Rat, y = -x0 := ⟨_, rfl⟩
  have CF : ∀ {W : World} {b : Bool} {A B : Option Addr} {n c m d : Nat}, Rt W b A n c B m d y → Calls Try.prog 73 #[.agg #[.bool b, .slice A n c, .slice B m d], .int .i64 j] W (GotZp W (flo y j.toNat) 0) := fun hh => rfloor_N hh (by rw [hy]; exact s0.neg) h0 h1
  have lz : (limbs (flo y j.toNat).natAbs).length ≤ 1000000 := Nat.le_trans (flo_len (by rw [hy]; exact s0.neg) (by omega)) (by omega)
  have HC : Hid (cei x0 j.toNat = -flo y j.toNat) := Lib.hid (by rw [hy]; rfl)
  have CN : ∀ {W : World} {b : Bool} {A B : Option Addr} {n c m d : Nat}, Rt W b A n c B m d x0 → Calls Try.prog 34 #[.agg #[.bool b, .slice A n c, .slice B m d]] W (GotRt W y) := fun hh => by rw [hy]; exact rtneg_N hh (s0.le (by omega))
  clear hy
  have cc := Below.refl w.heap.size w
  go_enter Try.func74, Try.ntmps74
  go_wp2_with fail
  generalize hv_ : (w.alloc (.cells #[.bool b0, .slice A0 n0 c0, .slice B0 m0 d0] 40)).alloc (.cells #[.bool false, .slice none 0 0] 38) = v1
  obtain ⟨f0, f1⟩ : Fz2 v1 (w.heap.size + 1) := by simp [Fz2, ← hv_, go_sem]
  have bA : Below w.heap.size w v1 := by rw [← hv_]; exact (((Below.refl _ w).alloc (by simp) _).alloc (by simp) _)
  replace hx := hx.on bA
  replace cc := bK cc bA
  clear bA
  obtain ⟨k0, k1, k2⟩ : Cs3 v1 w.heap.size (.bool b0) (.slice A0 n0 c0) (.slice B0 m0 d0) := by simp [Cs3, ← hv_, go_sem]
  have kl : w.heap.size < v1.heap.size := by simp [← hv_] <;> omega
  obtain ⟨g0, g1⟩ : Cs2 v1 (w.heap.size + 1) (.bool false) (.slice none 0 0) := by simp [Cs2, ← hv_, go_sem]
  have gl : w.heap.size + 1 < v1.heap.size := by simp [← hv_] <;> omega
  clear hv_
  refine (CN hx).mono ?_
  rintro e w2 ⟨bv, Av, nv, cv, Bv, mv, dv, rfl, v, b⟩
  rewrite [fR b gl] at f0 f1
  replace hx := hx.on b
  rewrite [cR b kl] at k0 k1 k2
  replace kl := lK b kl
  rewrite [cR b gl] at g0 g1
  replace gl := lK b gl
  replace cc := bK cc b
  clear b
  go_wp2_with fail
  refine (CF v).mono ?_
  rintro e w3 ⟨bt, At, nt, ct, rfl, t, b⟩
  rewrite [fR b gl] at f0 f1
  replace hx := hx.on b
  replace v := v.on b
  rewrite [cR b kl] at k0 k1 k2
  replace kl := lK b kl
  rewrite [cR b gl] at g0 g1
  replace gl := lK b gl
  replace cc := bK cc b
  clear b
  go_wp2_with fail
  generalize hv_ : w3.alloc (.cells #[.bool bt, .slice At nt ct] 38) = v4
  have bA : Below w3.heap.size w3 v4 := by rw [← hv_]; exact below_one _ _
  rewrite [fR bA gl] at f0 f1
  replace hx := hx.on bA
  replace v := v.on bA
  replace t := t.on bA
  rewrite [cR bA kl] at k0 k1 k2
  replace kl := lK bA kl
  rewrite [cR bA gl] at g0 g1
  replace gl := lK bA gl
  replace cc := bK cc bA
  clear bA
  obtain ⟨y0, y1⟩ : Cs2 v4 w3.heap.size (.bool bt) (.slice At nt ct) := by simp [Cs2, ← hv_, go_sem]
  have yl : w3.heap.size < v4.heap.size := by simp [← hv_]
  clear hv_
  refine (rzneg_N t lz).mono ?_
  rintro e w5 ⟨bm, Am, nm, cm, rfl, hm, b⟩
  rewrite [fR b gl] at f0 f1
  replace hx := hx.on b
  replace v := v.on b
  replace t := t.on b
  rewrite [cR b kl] at k0 k1 k2
  replace kl := lK b kl
  rewrite [cR b gl] at g0 g1
  replace gl := lK b gl
  rewrite [cR b yl] at y0 y1
  replace yl := lK b yl
  replace cc := bK cc b
  clear b
  have hn : Zn w5 bm Am nm cm (cei x0 j.toNat) := by rw [HC.out]; exact hm
  have eb : Box w5 (w.heap.size + 1) false none 0 0 := ⟨g0, g1⟩
  have HZ : Hid (Zn ((w5.setCell ⟨w.heap.size + 1, 0, none⟩ (.bool bm)).setCell ⟨w.heap.size + 1, 1, none⟩ (.slice Am nm cm)) bm Am nm cm (cei x0 j.toNat)) := Lib.hid (hn.put eb _ _)
  clear hn
  go_wp2_with fail
  refine bodyPost_ret (v := .tuple #[.agg #[.bool bm, .slice Am nm cm], .int .i64 0]) (by simp [results, Try.results74, go_sem, g0, g1]) rfl ⟨_, _, _, _, rfl, HZ.out, below_put cc (by omega) _ _⟩

end Go.Proofs.Ytckdbcngnghhiaa

/-
  The contracts of the sixth reference: odd.
-/
namespace Go.Proofs.Ytckdbcngnghhiaa
set_option maxRecDepth 100000
set_option maxHeartbeats 8000000
open Go.RowKit
set_option linter.unusedVariables false
set_option linter.unusedSimpArgs false

theorem low_mod (x : Nat) (h : x ≠ 0) : ((limbs x)[0]?.getD 0) % 2 = x % 2 := by
  rw [limbs_pos (by omega)]
  show x % B64 % 2 = x % 2
  exact Nat.mod_mod_of_dvd x ⟨9223372036854775808, by decide⟩
theorem abs_mod (z : Int) : z.natAbs % 2 = (z % 2).toNat := by omega

theorem rodd_0 {w : World} {b : Bool} {A : Option Addr} {n c : Nat} {z : Int} (ha : Zn w b A n c z) (hn : n = 0) :
    Calls Try.prog 75 #[.agg #[.bool b, .slice A n c]] w (GotV w (.bool false)) := by
  have t1 : decide ((0 : Int) < (n : Int)) = false := decide_eq_false (by omega)
  have t2 : decide (0 < n) = false := decide_eq_false (by omega)
  clear hn
  have cc := Below.refl w.heap.size w
  go_enter Try.func75, Try.ntmps75
  go_wp2_with fail
  generalize hv_ : w.alloc (.cells #[.bool b, .slice A n c] 38) = v1
  have bA : Below w.heap.size w v1 := by rw [← hv_]; exact ((Below.refl _ w).alloc (by simp) _)
  replace ha := ha.on bA
  replace cc := bK cc bA
  clear bA
  obtain ⟨k0, k1⟩ : Cs2 v1 w.heap.size (.bool b) (.slice A n c) := by simp [Cs2, ← hv_, go_sem]
  have kl : w.heap.size < v1.heap.size := by simp [← hv_] <;> omega
  clear hv_
  go_ret
  exact ⟨rfl, cc⟩

theorem rodd_1 {w : World} {b : Bool} {A : Option Addr} {n c : Nat} {z : Int} (ha : Zn w b A n c z) (hn : 0 < n) (r : Bool) (hr : decide (z % 2 = 1) = r) :
    Calls Try.prog 75 #[.agg #[.bool b, .slice A n c]] w (GotV w (.bool r)) := by
  obtain ⟨bk, off, rfl, hb, hc⟩ := ha.1.2.2.2 hn
  have h0 := hc 0 hn
  rw [Nat.add_zero] at h0
  have hz : z.natAbs ≠ 0 := num_ne ha.1 hn
  obtain ⟨v, hv⟩ : ∃ v, ((limbs z.natAbs)[0]?.getD 0) = v := ⟨_, rfl⟩
  have hm := low_mod z.natAbs hz
  rw [hv] at h0 hm
  rw [abs_mod] at hm
  clear hv hc
  have hB := below_one w (.cells #[.bool b, .slice (some ⟨bk, off, none⟩) n c] 38)
  have h1 := cK hB h0 hb
  have e1 : ((v : Int) % 2 == 1) = r := by rw [← hr, Bool.eq_iff_iff, beq_iff_eq, decide_eq_true_iff]; omega
  have hn2 : 1 ≤ n := hn
  have cc := Below.refl w.heap.size w
  go_enter Try.func75, Try.ntmps75
  go_wp2_with fail
  go_ret
  exact ⟨rfl, hB⟩

theorem rodd_N {w : World} {b : Bool} {A : Option Addr} {n c : Nat} {z : Int} (r : Bool) (ha : Zn w b A n c z) (hr : decide (z % 2 = 1) = r) :
    Calls Try.prog 75 #[.agg #[.bool b, .slice A n c]] w (GotV w (.bool r)) := by
  rcases Nat.eq_zero_or_pos n with hn | hn
  · have : z = 0 := by
      have e := ha.1.len
      rw [hn] at e
      have e2 := List.length_eq_zero_iff.1 e.symm
      have e3 : z.natAbs = 0 := by rw [← val_limbs z.natAbs, e2, val_nil]
      omega
    subst this
    simp at hr
    subst hr
    exact rodd_0 ha hn
  · exact rodd_1 ha hn r hr

end Go.Proofs.Ytckdbcngnghhiaa

/-
  Numbers on a grid by what is left; the contracts of dyad: isGrid, isOdd, the closures.
-/
namespace Go.Proofs.Ytckdbcngnghhiaa
open Go.RowKit
set_option linter.unusedVariables false
set_option linter.unusedSimpArgs false

/-- Whether the nearest is one step farther from nought. -/
def fars (u q : Nat) : Bool := decide (q < u % q + u % q) || (decide (u % q + u % q = q) && decide (u / q % 2 = 1))
theorem half_nat (u q : Nat) (hq : 0 < q) (A : Rat) (hA : A * (q : Rat) = (u : Rat)) : nr A = ((u / q + (if fars u q = true then 1 else 0) : Nat) : Int) := by
  have h1 := Nat.div_add_mod u q
  have h2 := Nat.mod_lt u hq
  unfold fars
  generalize u / q = T at h1 ⊢
  generalize u % q = r at h1 h2 ⊢
  have hqp : (0 : Rat) < (q : Rat) := Rat.natCast_pos.2 hq
  have hq0 : (q : Rat) ≠ 0 := by grind
  have e : A = (T : Rat) + (r : Rat) / (q : Rat) := by
    have : (u : Rat) = (q : Rat) * (T : Rat) + (r : Rat) := by rw [← h1, Rat.natCast_add, Rat.natCast_mul]
    grind
  have hr0 : (0 : Rat) ≤ (r : Rat) := Rat.natCast_nonneg
  have eT : ((T : Int) : Rat) = (T : Rat) := rfl
  have o : ((1 : Int) : Rat) = 1 := rfl
  obtain ⟨s, hs⟩ : ∃ s : Rat, (r : Rat) / (q : Rat) = s := ⟨_, rfl⟩
  have hsq : s * (q : Rat) = (r : Rat) := by rw [← hs]; grind
  have twice : ∀ {a b : Nat}, (a : Rat) ≤ (b : Rat) ↔ a ≤ b := fun {a b} => Rat.natCast_le_natCast
  have dbl : s + s = ((r + r : Nat) : Rat) / (q : Rat) := by rw [Rat.natCast_add]; grind
  have hle : s + s ≤ 1 ↔ r + r ≤ q := by
    rw [dbl]
    constructor
    · intro h
      have h3 : ((r + r : Nat) : Rat) ≤ (q : Rat) := by
        have := Rat.mul_le_mul_of_nonneg_right h (Rat.le_of_lt hqp)
        have e2 : ((r + r : Nat) : Rat) / (q : Rat) * (q : Rat) = ((r + r : Nat) : Rat) := by grind
        rw [e2, Rat.one_mul] at this; exact this
      exact twice.1 h3
    · intro h
      have h3 := twice.2 h
      have e2 : ((r + r : Nat) : Rat) / (q : Rat) * (q : Rat) = ((r + r : Nat) : Rat) := by grind
      apply Rat.le_of_mul_le_mul_right _ hqp
      rw [e2, Rat.one_mul]; exact h3
  have hge : 1 ≤ s + s ↔ q ≤ r + r := by
    rw [dbl]
    have e2 : ((r + r : Nat) : Rat) / (q : Rat) * (q : Rat) = ((r + r : Nat) : Rat) := by grind
    constructor
    · intro h
      have := Rat.mul_le_mul_of_nonneg_right h (Rat.le_of_lt hqp)
      rw [e2, Rat.one_mul] at this; exact twice.1 this
    · intro h
      apply Rat.le_of_mul_le_mul_right _ hqp
      rw [e2, Rat.one_mul]; exact twice.2 h
  have hs0 : 0 ≤ s := by
    apply Rat.le_of_mul_le_mul_right _ hqp
    rw [hsq, Rat.zero_mul]; exact hr0
  have hs1 : s < 1 := by
    have : (r : Rat) < (q : Rat) := Rat.natCast_lt_natCast.2 h2
    apply Rat.lt_of_mul_lt_mul_right _ (Rat.le_of_lt hqp)
    rw [hsq, Rat.one_mul]; exact this
  rw [hs] at e
  clear hsq dbl hr0 hqp hq0 hs h1 twice hA
  apply nr_unique
  unfold NrHalf
  subst e
  by_cases c1 : q < r + r
  · have c2 : 1 ≤ s + s := hge.2 (by omega)
    have c3 : ¬ s + s ≤ 1 := fun h => by have := hle.1 h; omega
    simp only [c1, decide_true, Bool.true_or, if_true]
    rw [Int.natCast_add, Rat.intCast_add, eT]
    have o2 : (((1 : Nat) : Int) : Rat) = 1 := rfl
    rw [o2]
    refine ⟨by grind, by grind, ?_⟩
    intro h; exfalso; grind
  · have c3 : s + s ≤ 1 := hle.2 (by omega)
    by_cases c2 : r + r = q
    · have c4 : 1 ≤ s + s := hge.2 (by omega)
      by_cases c5 : T % 2 = 1
      · simp only [c1, c2, c5, decide_true, decide_false, Bool.false_or, Bool.and_self, if_true, Nat.lt_irrefl]
        rw [Int.natCast_add, Rat.intCast_add, eT]
        have o2 : (((1 : Nat) : Int) : Rat) = 1 := rfl
        rw [o2]
        refine ⟨by grind, by grind, ?_⟩
        intro _; omega
      · simp only [c1, c2, c5, decide_true, decide_false, Bool.false_or, Bool.and_false, Nat.lt_irrefl]
        simp only [Bool.false_eq_true, if_false, Nat.add_zero]
        rw [eT]
        refine ⟨by grind, by grind, ?_⟩
        intro _; omega
    · have c4 : ¬ 1 ≤ s + s := fun h => by have := hge.1 h; omega
      simp only [c1, c2, decide_false, Bool.false_or, Bool.false_and]
      simp only [Bool.false_eq_true, if_false, Nat.add_zero]
      rw [eT]
      refine ⟨by grind, by grind, ?_⟩
      intro h; exfalso; grind
end Go.Proofs.Ytckdbcngnghhiaa

/-
  Numbers rounded to the nearest, ties to even: what fix tells.
-/
namespace Go.Proofs.Ytckdbcngnghhiaa
set_option linter.unusedSimpArgs false
set_option linter.unusedVariables false

theorem mk_times (n : Int) (d : Nat) (hd : d ≠ 0) : mkRat n d * ((d : Nat) : Rat) = (n : Rat) := by
  have h2 : ((d : Nat) : Rat) = mkRat ((d : Nat) : Int) 1 := by rw [Rat.mkRat_one]; rfl
  have h3 : (n : Rat) = mkRat n 1 := by rw [Rat.mkRat_one]
  rw [h2, h3, Rat.mkRat_mul_mkRat, Rat.mkRat_eq_iff (by omega) (by decide)]
  simp
theorem nat_pos_rat {d : Nat} (hd : d ≠ 0) : (0 : Rat) < ((d : Nat) : Rat) := Rat.natCast_pos.2 (by omega)
theorem mk_of {A : Rat} {n : Int} {d : Nat} (hd : d ≠ 0) (h : A * ((d : Nat) : Rat) = (n : Rat)) : A = mkRat n d := by
  have h1 := mk_times n d hd
  have h2 := nat_pos_rat hd
  have e := h.trans h1.symm
  exact Rat.le_antisymm (Rat.le_of_mul_le_mul_right (by rw [e]; exact Rat.le_refl) h2) (Rat.le_of_mul_le_mul_right (by rw [e]; exact Rat.le_refl) h2)
/-- A whole number by another one, to the nearest, ties to even. -/
def rn (n : Int) (d : Nat) : Int := nr (mkRat n d)
theorem rn_of {A : Rat} {n : Int} {d : Nat} (hd : d ≠ 0) (h : A * ((d : Nat) : Rat) = (n : Rat)) : nr A = rn n d := by rw [mk_of hd h]; rfl
theorem rn_neg (n : Int) {d : Nat} (hd : d ≠ 0) : rn (-n) d = -rn n d := by
  have h : -mkRat n d = mkRat (-n) d := mk_of hd (by rw [Rat.neg_mul, mk_times n d hd, Rat.intCast_neg])
  unfold rn
  rw [← h, nr_neg]
theorem rn_self (a : Int) {d : Nat} (hd : d ≠ 0) : rn (a * (d : Int)) d = a := by
  have h : (a : Rat) = mkRat (a * (d : Int)) d := mk_of hd (by rw [Rat.intCast_mul]; rfl)
  unfold rn
  rw [← h, nr_int]
theorem rn_nat (u d : Nat) (hd : d ≠ 0) : rn (u : Int) d = ((u / d + (if fars u d = true then 1 else 0) : Nat) : Int) := half_nat u d (by omega) _ (by rw [mk_times _ d hd]; rfl)
/-- What fix's calls tell. -/
theorem nea_sum (a b : Int) : nea ((a : Rat) + (b : Rat)) 0 = a + b := by
  unfold nea dw
  have : ((a : Rat) + (b : Rat)) * ((2 ^ 0 : Nat) : Rat) = ((a + b : Int) : Rat) := by rw [Rat.intCast_add]; simp
  rw [this, nr_int]
theorem nea_diff (a b : Int) : nea ((a : Rat) - (b : Rat)) 0 = a - b := by
  unfold nea dw
  have : ((a : Rat) - (b : Rat)) * ((2 ^ 0 : Nat) : Rat) = ((a - b : Int) : Rat) := by rw [Rat.intCast_sub]; simp
  rw [this, nr_int]
theorem pow_ne (k : Nat) : 2 ^ k ≠ 0 := Nat.ne_of_gt (Nat.pow_pos (by omega))
theorem nea_prod (a b : Int) (k : Nat) : nea (bak a k * bak b k) k = rn (a * b) (2 ^ k) := by
  unfold nea
  refine rn_of (pow_ne k) ?_
  have h1 := bak_mul a k
  have h2 := bak_mul b k
  rw [Rat.intCast_mul, ← h1, ← h2]
  show bak a k * bak b k * dw k * dw k = _
  grind
end Go.Proofs.Ytckdbcngnghhiaa

/-
  The contracts of the sixth reference: Near.
-/
namespace Go.Proofs.Ytckdbcngnghhiaa
set_option maxRecDepth 100000
set_option maxHeartbeats 8000000
open Go.RowKit
set_option linter.unusedVariables false
set_option linter.unusedSimpArgs false

theorem rnear_lt {w : World} {b0 : Bool} {A0 B0 : Option Addr} {n0 c0 m0 d0 : Nat} {x0 : Rat} (hx : Rt w b0 A0 n0 c0 B0 m0 d0 x0) (s0 : Sz x0 15) {j : Int} (h0 : 0 ≤ j) (h1 : j ≤ 500) (hc : cmpQ (x0 - bak (flo x0 j.toNat) j.toNat) (bak (cei x0 j.toNat) j.toNat - x0) < 0) :
    Calls Try.prog 56 #[.agg #[.bool b0, .slice A0 n0 c0, .slice B0 m0 d0], .int .i64 j] w (GotZp w (nea x0 j.toNat) 0) := by
  have jl : j.toNat ≤ 500 := by omega
  have ll := flo_len s0 jl
  have lh := cei_len s0 jl
  have hn : nea x0 j.toNat = flo x0 j.toNat := by rw [nea_by]; rw [if_pos (.inl hc)]
  have CF : ∀ {W : World} {b : Bool} {A B : Option Addr} {n c m d : Nat}, Rt W b A n c B m d x0 → Calls Try.prog 73 #[.agg #[.bool b, .slice A n c, .slice B m d], .int .i64 j] W (GotZp W (flo x0 j.toNat) 0) := fun hh => rfloor_N hh (s0.le (by omega)) h0 h1
  have CC : ∀ {W : World} {b : Bool} {A B : Option Addr} {n c m d : Nat}, Rt W b A n c B m d x0 → Calls Try.prog 74 #[.agg #[.bool b, .slice A n c, .slice B m d], .int .i64 j] W (GotZp W (cei x0 j.toNat) 0) := fun hh => rceil_N hh (s0.le (by omega)) h0 h1
  obtain ⟨lo, hlo⟩ : ∃ lo, flo x0 j.toNat = lo := ⟨_, rfl⟩
  obtain ⟨hi, hhi⟩ : ∃ hi, cei x0 j.toNat = hi := ⟨_, rfl⟩
  rw [hlo] at CF ll
  rw [hhi] at CC lh
  rw [hlo, hhi] at hc
  skip
  rw [hlo] at hn
  have CB : ∀ {W : World} {z : Int} {b : Bool} {A : Option Addr} {n c : Nat}, Zn W b A n c z → (limbs z.natAbs).length ≤ 24 → Calls Try.prog 54 #[.agg #[.bool b, .slice A n c], .int .i64 j] W (GotRp W (bak z j.toNat) 0) := fun hh hl => rback_N hh (by omega) h0 h1
  have sl : Sz (bak lo j.toNat) 24 := bak_sz ll (by omega) jl
  have sh : Sz (bak hi j.toNat) 24 := bak_sz lh (by omega) jl
  obtain ⟨x, hxx⟩ : ∃ x, bak lo j.toNat = x := ⟨_, rfl⟩
  obtain ⟨y, hyy⟩ : ∃ y, bak hi j.toNat = y := ⟨_, rfl⟩
  have CX : ∀ {W : World} {b : Bool} {A : Option Addr} {n c : Nat}, Zn W b A n c lo → Calls Try.prog 54 #[.agg #[.bool b, .slice A n c], .int .i64 j] W (GotRp W x 0) := fun hh => by rw [← hxx]; exact CB hh ll
  have CY : ∀ {W : World} {b : Bool} {A : Option Addr} {n c : Nat}, Zn W b A n c hi → Calls Try.prog 54 #[.agg #[.bool b, .slice A n c], .int .i64 j] W (GotRp W y 0) := fun hh => by rw [← hyy]; exact CB hh lh
  rw [hxx] at sl
  rw [hyy] at sh
  rw [hxx, hyy] at hc
  skip
  obtain ⟨cn, hcn⟩ : ∃ cn, cmpQ (x0 - x) (y - x0) = cn := ⟨_, rfl⟩
  have HC := Lib.hid hcn
  rw [hcn] at hc
  skip
  have su := s0.sub sl
  have sv := sh.sub s0
  have HN := Lib.hid hn
  have t1 : decide (cn < 0) = true := decide_eq_true hc
  clear CB hxx hyy hcn hlo hhi hn hc h0 h1
  have cc := Below.refl w.heap.size w
  go_enter Try.func56, Try.ntmps56
  go_wp2_with fail
  generalize hv_ : (w.alloc (.cells #[.bool b0, .slice A0 n0 c0, .slice B0 m0 d0] 40)).alloc (.cells #[.bool false, .slice none 0 0] 38) = v1
  obtain ⟨f0, f1⟩ : Fz2 v1 (w.heap.size + 1) := by simp [Fz2, ← hv_, go_sem]
  have bA : Below w.heap.size w v1 := by rw [← hv_]; exact (((Below.refl _ w).alloc (by simp) _).alloc (by simp) _)
  replace hx := hx.on bA
  replace cc := bK cc bA
  clear bA
  obtain ⟨k0, k1, k2⟩ : Cs3 v1 w.heap.size (.bool b0) (.slice A0 n0 c0) (.slice B0 m0 d0) := by simp [Cs3, ← hv_, go_sem]
  have kl : w.heap.size < v1.heap.size := by simp [← hv_] <;> omega
  obtain ⟨g0, g1⟩ : Cs2 v1 (w.heap.size + 1) (.bool false) (.slice none 0 0) := by simp [Cs2, ← hv_, go_sem]
  have gl : w.heap.size + 1 < v1.heap.size := by simp [← hv_] <;> omega
  clear hv_
  refine (CF hx).mono ?_
  rintro e w2 ⟨bl, Al, nl, cl, rfl, zl, b⟩
  rewrite [fR b gl] at f0 f1
  replace hx := hx.on b
  rewrite [cR b kl] at k0 k1 k2
  replace kl := lK b kl
  rewrite [cR b gl] at g0 g1
  replace gl := lK b gl
  replace cc := bK cc b
  clear b
  go_wp2_with fail
  generalize hv_ : w2.alloc (.cells #[.bool bl, .slice Al nl cl] 38) = v3
  have bA : Below w2.heap.size w2 v3 := by rw [← hv_]; exact below_one _ _
  rewrite [fR bA gl] at f0 f1
  replace hx := hx.on bA
  replace zl := zl.on bA
  rewrite [cR bA kl] at k0 k1 k2
  replace kl := lK bA kl
  rewrite [cR bA gl] at g0 g1
  replace gl := lK bA gl
  replace cc := bK cc bA
  clear bA
  obtain ⟨ba0, ba1⟩ : Cs2 v3 w2.heap.size (.bool bl) (.slice Al nl cl) := by simp [Cs2, ← hv_, go_sem]
  have bal : w2.heap.size < v3.heap.size := by simp [← hv_]
  clear hv_
  refine (CC hx).mono ?_
  rintro e w4 ⟨bh, Ah, nh, ch, rfl, zh, b⟩
  rewrite [fR b gl] at f0 f1
  replace hx := hx.on b
  replace zl := zl.on b
  rewrite [cR b kl] at k0 k1 k2
  replace kl := lK b kl
  rewrite [cR b gl] at g0 g1
  replace gl := lK b gl
  rewrite [cR b bal] at ba0 ba1
  replace bal := lK b bal
  replace cc := bK cc b
  clear b
  go_wp2_with fail
  generalize hv_ : w4.alloc (.cells #[.bool bh, .slice Ah nh ch] 38) = v5
  have bA : Below w4.heap.size w4 v5 := by rw [← hv_]; exact below_one _ _
  rewrite [fR bA gl] at f0 f1
  replace hx := hx.on bA
  replace zl := zl.on bA
  replace zh := zh.on bA
  rewrite [cR bA kl] at k0 k1 k2
  replace kl := lK bA kl
  rewrite [cR bA gl] at g0 g1
  replace gl := lK bA gl
  rewrite [cR bA bal] at ba0 ba1
  replace bal := lK bA bal
  replace cc := bK cc bA
  clear bA
  obtain ⟨bb0, bb1⟩ : Cs2 v5 w4.heap.size (.bool bh) (.slice Ah nh ch) := by simp [Cs2, ← hv_, go_sem]
  have bbl : w4.heap.size < v5.heap.size := by simp [← hv_]
  clear hv_
  refine (CX zl).mono ?_
  rintro e w6 ⟨bx, Ax, nx, cx, Bx, mx, dx, rfl, rx, b⟩
  rewrite [fR b gl] at f0 f1
  replace hx := hx.on b
  replace zl := zl.on b
  replace zh := zh.on b
  rewrite [cR b kl] at k0 k1 k2
  replace kl := lK b kl
  rewrite [cR b gl] at g0 g1
  replace gl := lK b gl
  rewrite [cR b bal] at ba0 ba1
  replace bal := lK b bal
  rewrite [cR b bbl] at bb0 bb1
  replace bbl := lK b bbl
  replace cc := bK cc b
  clear b
  go_wp2_with fail
  generalize hv_ : w6.alloc (.cells #[.bool bx, .slice Ax nx cx, .slice Bx mx dx] 40) = v7
  have bA : Below w6.heap.size w6 v7 := by rw [← hv_]; exact below_one _ _
  rewrite [fR bA gl] at f0 f1
  replace hx := hx.on bA
  replace zl := zl.on bA
  replace zh := zh.on bA
  replace rx := rx.on bA
  rewrite [cR bA kl] at k0 k1 k2
  replace kl := lK bA kl
  rewrite [cR bA gl] at g0 g1
  replace gl := lK bA gl
  rewrite [cR bA bal] at ba0 ba1
  replace bal := lK bA bal
  rewrite [cR bA bbl] at bb0 bb1
  replace bbl := lK bA bbl
  replace cc := bK cc bA
  clear bA
  obtain ⟨bc0, bc1, bc2⟩ : Cs3 v7 w6.heap.size (.bool bx) (.slice Ax nx cx) (.slice Bx mx dx) := by simp [Cs3, ← hv_, go_sem]
  have bcl : w6.heap.size < v7.heap.size := by simp [← hv_]
  clear hv_
  refine (CY zh).mono ?_
  rintro e w8 ⟨bY, Ay, ny, cy, By, my, dy, rfl, ry, b⟩
  rewrite [fR b gl] at f0 f1
  replace hx := hx.on b
  replace zl := zl.on b
  replace zh := zh.on b
  replace rx := rx.on b
  rewrite [cR b kl] at k0 k1 k2
  replace kl := lK b kl
  rewrite [cR b gl] at g0 g1
  replace gl := lK b gl
  rewrite [cR b bal] at ba0 ba1
  replace bal := lK b bal
  rewrite [cR b bbl] at bb0 bb1
  replace bbl := lK b bbl
  rewrite [cR b bcl] at bc0 bc1 bc2
  replace bcl := lK b bcl
  replace cc := bK cc b
  clear b
  go_wp2_with fail
  generalize hv_ : w8.alloc (.cells #[.bool bY, .slice Ay ny cy, .slice By my dy] 40) = v9
  have bA : Below w8.heap.size w8 v9 := by rw [← hv_]; exact below_one _ _
  rewrite [fR bA gl] at f0 f1
  replace hx := hx.on bA
  replace zl := zl.on bA
  replace zh := zh.on bA
  replace rx := rx.on bA
  replace ry := ry.on bA
  rewrite [cR bA kl] at k0 k1 k2
  replace kl := lK bA kl
  rewrite [cR bA gl] at g0 g1
  replace gl := lK bA gl
  rewrite [cR bA bal] at ba0 ba1
  replace bal := lK bA bal
  rewrite [cR bA bbl] at bb0 bb1
  replace bbl := lK bA bbl
  rewrite [cR bA bcl] at bc0 bc1 bc2
  replace bcl := lK bA bcl
  replace cc := bK cc bA
  clear bA
  obtain ⟨bd0, bd1, bd2⟩ : Cs3 v9 w8.heap.size (.bool bY) (.slice Ay ny cy) (.slice By my dy) := by simp [Cs3, ← hv_, go_sem]
  have bdl : w8.heap.size < v9.heap.size := by simp [← hv_]
  clear hv_
  refine (rtsub_N hx (s0.le (by omega)) rx (sl.le (by omega))).mono ?_
  rintro e w10 ⟨bu, Au, nu, cu, Bu, mu, du, rfl, ru, b⟩
  rewrite [fR b gl] at f0 f1
  replace hx := hx.on b
  replace zl := zl.on b
  replace zh := zh.on b
  replace rx := rx.on b
  replace ry := ry.on b
  rewrite [cR b kl] at k0 k1 k2
  replace kl := lK b kl
  rewrite [cR b gl] at g0 g1
  replace gl := lK b gl
  rewrite [cR b bal] at ba0 ba1
  replace bal := lK b bal
  rewrite [cR b bbl] at bb0 bb1
  replace bbl := lK b bbl
  rewrite [cR b bcl] at bc0 bc1 bc2
  replace bcl := lK b bcl
  rewrite [cR b bdl] at bd0 bd1 bd2
  replace bdl := lK b bdl
  replace cc := bK cc b
  clear b
  go_wp2_with fail
  generalize hv_ : w10.alloc (.cells #[.bool bu, .slice Au nu cu, .slice Bu mu du] 40) = v11
  have bA : Below w10.heap.size w10 v11 := by rw [← hv_]; exact below_one _ _
  rewrite [fR bA gl] at f0 f1
  replace hx := hx.on bA
  replace zl := zl.on bA
  replace zh := zh.on bA
  replace rx := rx.on bA
  replace ry := ry.on bA
  replace ru := ru.on bA
  rewrite [cR bA kl] at k0 k1 k2
  replace kl := lK bA kl
  rewrite [cR bA gl] at g0 g1
  replace gl := lK bA gl
  rewrite [cR bA bal] at ba0 ba1
  replace bal := lK bA bal
  rewrite [cR bA bbl] at bb0 bb1
  replace bbl := lK bA bbl
  rewrite [cR bA bcl] at bc0 bc1 bc2
  replace bcl := lK bA bcl
  rewrite [cR bA bdl] at bd0 bd1 bd2
  replace bdl := lK bA bdl
  replace cc := bK cc bA
  clear bA
  obtain ⟨be0, be1, be2⟩ : Cs3 v11 w10.heap.size (.bool bu) (.slice Au nu cu) (.slice Bu mu du) := by simp [Cs3, ← hv_, go_sem]
  have bel : w10.heap.size < v11.heap.size := by simp [← hv_]
  clear hv_
  refine (rtsub_N ry (sh.le (by omega)) hx (s0.le (by omega))).mono ?_
  rintro e w12 ⟨bv, Av, nv, cv, Bv, mv, dv, rfl, rv, b⟩
  rewrite [fR b gl] at f0 f1
  replace hx := hx.on b
  replace zl := zl.on b
  replace zh := zh.on b
  replace rx := rx.on b
  replace ry := ry.on b
  replace ru := ru.on b
  rewrite [cR b kl] at k0 k1 k2
  replace kl := lK b kl
  rewrite [cR b gl] at g0 g1
  replace gl := lK b gl
  rewrite [cR b bal] at ba0 ba1
  replace bal := lK b bal
  rewrite [cR b bbl] at bb0 bb1
  replace bbl := lK b bbl
  rewrite [cR b bcl] at bc0 bc1 bc2
  replace bcl := lK b bcl
  rewrite [cR b bdl] at bd0 bd1 bd2
  replace bdl := lK b bdl
  rewrite [cR b bel] at be0 be1 be2
  replace bel := lK b bel
  replace cc := bK cc b
  clear b
  go_wp2_with fail
  generalize hv_ : w12.alloc (.cells #[.bool bv, .slice Av nv cv, .slice Bv mv dv] 40) = v13
  have bA : Below w12.heap.size w12 v13 := by rw [← hv_]; exact below_one _ _
  rewrite [fR bA gl] at f0 f1
  replace hx := hx.on bA
  replace zl := zl.on bA
  replace zh := zh.on bA
  replace rx := rx.on bA
  replace ry := ry.on bA
  replace ru := ru.on bA
  replace rv := rv.on bA
  rewrite [cR bA kl] at k0 k1 k2
  replace kl := lK bA kl
  rewrite [cR bA gl] at g0 g1
  replace gl := lK bA gl
  rewrite [cR bA bal] at ba0 ba1
  replace bal := lK bA bal
  rewrite [cR bA bbl] at bb0 bb1
  replace bbl := lK bA bbl
  rewrite [cR bA bcl] at bc0 bc1 bc2
  replace bcl := lK bA bcl
  rewrite [cR bA bdl] at bd0 bd1 bd2
  replace bdl := lK bA bdl
  rewrite [cR bA bel] at be0 be1 be2
  replace bel := lK bA bel
  replace cc := bK cc bA
  clear bA
  obtain ⟨bf0, bf1, bf2⟩ : Cs3 v13 w12.heap.size (.bool bv) (.slice Av nv cv) (.slice Bv mv dv) := by simp [Cs3, ← hv_, go_sem]
  have bfl : w12.heap.size < v13.heap.size := by simp [← hv_]
  clear hv_
  refine (rtcmp_v cn ru (su.le (by omega)) rv (sv.le (by omega)) HC.out).mono ?_
  rintro e w14 ⟨rfl, b⟩
  rewrite [fR b gl] at f0 f1
  replace hx := hx.on b
  replace zl := zl.on b
  replace zh := zh.on b
  replace rx := rx.on b
  replace ry := ry.on b
  replace ru := ru.on b
  replace rv := rv.on b
  rewrite [cR b kl] at k0 k1 k2
  replace kl := lK b kl
  rewrite [cR b gl] at g0 g1
  replace gl := lK b gl
  rewrite [cR b bal] at ba0 ba1
  replace bal := lK b bal
  rewrite [cR b bbl] at bb0 bb1
  replace bbl := lK b bbl
  rewrite [cR b bcl] at bc0 bc1 bc2
  replace bcl := lK b bcl
  rewrite [cR b bdl] at bd0 bd1 bd2
  replace bdl := lK b bdl
  rewrite [cR b bel] at be0 be1 be2
  replace bel := lK b bel
  rewrite [cR b bfl] at bf0 bf1 bf2
  replace bfl := lK b bfl
  replace cc := bK cc b
  clear b
  have hn : Zn w14 bl Al nl cl (nea x0 j.toNat) := by rw [HN.out]; exact zl
  have eb : Box w14 (w.heap.size + 1) false none 0 0 := ⟨g0, g1⟩
  have HZ : Hid (Zn ((w14.setCell ⟨w.heap.size + 1, 0, none⟩ (.bool bl)).setCell ⟨w.heap.size + 1, 1, none⟩ (.slice Al nl cl)) bl Al nl cl (nea x0 j.toNat)) := Lib.hid (hn.put eb _ _)
  clear hn
  go_wp2_with fail
  refine bodyPost_ret (v := .tuple #[.agg #[.bool bl, .slice Al nl cl], .int .i64 0]) (by simp [results, Try.results56, go_sem, g0, g1]) rfl ⟨_, _, _, _, rfl, HZ.out, below_put cc (by omega) _ _⟩

theorem rnear_even {w : World} {b0 : Bool} {A0 B0 : Option Addr} {n0 c0 m0 d0 : Nat} {x0 : Rat} (hx : Rt w b0 A0 n0 c0 B0 m0 d0 x0) (s0 : Sz x0 15) {j : Int} (h0 : 0 ≤ j) (h1 : j ≤ 500) (hc : cmpQ (x0 - bak (flo x0 j.toNat) j.toNat) (bak (cei x0 j.toNat) j.toNat - x0) = 0) (he : flo x0 j.toNat % 2 = 0) :
    Calls Try.prog 56 #[.agg #[.bool b0, .slice A0 n0 c0, .slice B0 m0 d0], .int .i64 j] w (GotZp w (nea x0 j.toNat) 0) := by
  have jl : j.toNat ≤ 500 := by omega
  have ll := flo_len s0 jl
  have lh := cei_len s0 jl
  have hn : nea x0 j.toNat = flo x0 j.toNat := by rw [nea_by]; rw [if_pos (.inr ⟨hc, he⟩)]
  have CF : ∀ {W : World} {b : Bool} {A B : Option Addr} {n c m d : Nat}, Rt W b A n c B m d x0 → Calls Try.prog 73 #[.agg #[.bool b, .slice A n c, .slice B m d], .int .i64 j] W (GotZp W (flo x0 j.toNat) 0) := fun hh => rfloor_N hh (s0.le (by omega)) h0 h1
  have CC : ∀ {W : World} {b : Bool} {A B : Option Addr} {n c m d : Nat}, Rt W b A n c B m d x0 → Calls Try.prog 74 #[.agg #[.bool b, .slice A n c, .slice B m d], .int .i64 j] W (GotZp W (cei x0 j.toNat) 0) := fun hh => rceil_N hh (s0.le (by omega)) h0 h1
  obtain ⟨lo, hlo⟩ : ∃ lo, flo x0 j.toNat = lo := ⟨_, rfl⟩
  obtain ⟨hi, hhi⟩ : ∃ hi, cei x0 j.toNat = hi := ⟨_, rfl⟩
  rw [hlo] at CF ll
  rw [hhi] at CC lh
  rw [hlo, hhi] at hc
  rw [hlo] at he
  rw [hlo] at hn
  have CB : ∀ {W : World} {z : Int} {b : Bool} {A : Option Addr} {n c : Nat}, Zn W b A n c z → (limbs z.natAbs).length ≤ 24 → Calls Try.prog 54 #[.agg #[.bool b, .slice A n c], .int .i64 j] W (GotRp W (bak z j.toNat) 0) := fun hh hl => rback_N hh (by omega) h0 h1
  have sl : Sz (bak lo j.toNat) 24 := bak_sz ll (by omega) jl
  have sh : Sz (bak hi j.toNat) 24 := bak_sz lh (by omega) jl
  obtain ⟨x, hxx⟩ : ∃ x, bak lo j.toNat = x := ⟨_, rfl⟩
  obtain ⟨y, hyy⟩ : ∃ y, bak hi j.toNat = y := ⟨_, rfl⟩
  have CX : ∀ {W : World} {b : Bool} {A : Option Addr} {n c : Nat}, Zn W b A n c lo → Calls Try.prog 54 #[.agg #[.bool b, .slice A n c], .int .i64 j] W (GotRp W x 0) := fun hh => by rw [← hxx]; exact CB hh ll
  have CY : ∀ {W : World} {b : Bool} {A : Option Addr} {n c : Nat}, Zn W b A n c hi → Calls Try.prog 54 #[.agg #[.bool b, .slice A n c], .int .i64 j] W (GotRp W y 0) := fun hh => by rw [← hyy]; exact CB hh lh
  rw [hxx] at sl
  rw [hyy] at sh
  rw [hxx, hyy] at hc
  skip
  obtain ⟨cn, hcn⟩ : ∃ cn, cmpQ (x0 - x) (y - x0) = cn := ⟨_, rfl⟩
  have HC := Lib.hid hcn
  rw [hcn] at hc
  skip
  have su := s0.sub sl
  have sv := sh.sub s0
  have HN := Lib.hid hn
  have t1 : decide (cn < 0) = false := decide_eq_false (by omega)
  have t2 : (cn == 0) = true := beq_iff_eq.2 hc
  have HO : Hid (decide (lo % 2 = 1) = false) := Lib.hid (decide_eq_false (by omega))
  clear CB hxx hyy hcn hlo hhi hn hc h0 h1 he
  have cc := Below.refl w.heap.size w
  go_enter Try.func56, Try.ntmps56
  go_wp2_with fail
  generalize hv_ : (w.alloc (.cells #[.bool b0, .slice A0 n0 c0, .slice B0 m0 d0] 40)).alloc (.cells #[.bool false, .slice none 0 0] 38) = v1
  obtain ⟨f0, f1⟩ : Fz2 v1 (w.heap.size + 1) := by simp [Fz2, ← hv_, go_sem]
  have bA : Below w.heap.size w v1 := by rw [← hv_]; exact (((Below.refl _ w).alloc (by simp) _).alloc (by simp) _)
  replace hx := hx.on bA
  replace cc := bK cc bA
  clear bA
  obtain ⟨k0, k1, k2⟩ : Cs3 v1 w.heap.size (.bool b0) (.slice A0 n0 c0) (.slice B0 m0 d0) := by simp [Cs3, ← hv_, go_sem]
  have kl : w.heap.size < v1.heap.size := by simp [← hv_] <;> omega
  obtain ⟨g0, g1⟩ : Cs2 v1 (w.heap.size + 1) (.bool false) (.slice none 0 0) := by simp [Cs2, ← hv_, go_sem]
  have gl : w.heap.size + 1 < v1.heap.size := by simp [← hv_] <;> omega
  clear hv_
  refine (CF hx).mono ?_
  rintro e w2 ⟨bl, Al, nl, cl, rfl, zl, b⟩
  rewrite [fR b gl] at f0 f1
  replace hx := hx.on b
  rewrite [cR b kl] at k0 k1 k2
  replace kl := lK b kl
  rewrite [cR b gl] at g0 g1
  replace gl := lK b gl
  replace cc := bK cc b
  clear b
  go_wp2_with fail
  generalize hv_ : w2.alloc (.cells #[.bool bl, .slice Al nl cl] 38) = v3
  have bA : Below w2.heap.size w2 v3 := by rw [← hv_]; exact below_one _ _
  rewrite [fR bA gl] at f0 f1
  replace hx := hx.on bA
  replace zl := zl.on bA
  rewrite [cR bA kl] at k0 k1 k2
  replace kl := lK bA kl
  rewrite [cR bA gl] at g0 g1
  replace gl := lK bA gl
  replace cc := bK cc bA
  clear bA
  obtain ⟨ba0, ba1⟩ : Cs2 v3 w2.heap.size (.bool bl) (.slice Al nl cl) := by simp [Cs2, ← hv_, go_sem]
  have bal : w2.heap.size < v3.heap.size := by simp [← hv_]
  clear hv_
  refine (CC hx).mono ?_
  rintro e w4 ⟨bh, Ah, nh, ch, rfl, zh, b⟩
  rewrite [fR b gl] at f0 f1
  replace hx := hx.on b
  replace zl := zl.on b
  rewrite [cR b kl] at k0 k1 k2
  replace kl := lK b kl
  rewrite [cR b gl] at g0 g1
  replace gl := lK b gl
  rewrite [cR b bal] at ba0 ba1
  replace bal := lK b bal
  replace cc := bK cc b
  clear b
  go_wp2_with fail
  generalize hv_ : w4.alloc (.cells #[.bool bh, .slice Ah nh ch] 38) = v5
  have bA : Below w4.heap.size w4 v5 := by rw [← hv_]; exact below_one _ _
  rewrite [fR bA gl] at f0 f1
  replace hx := hx.on bA
  replace zl := zl.on bA
  replace zh := zh.on bA
  rewrite [cR bA kl] at k0 k1 k2
  replace kl := lK bA kl
  rewrite [cR bA gl] at g0 g1
  replace gl := lK bA gl
  rewrite [cR bA bal] at ba0 ba1
  replace bal := lK bA bal
  replace cc := bK cc bA
  clear bA
  obtain ⟨bb0, bb1⟩ : Cs2 v5 w4.heap.size (.bool bh) (.slice Ah nh ch) := by simp [Cs2, ← hv_, go_sem]
  have bbl : w4.heap.size < v5.heap.size := by simp [← hv_]
  clear hv_
  refine (CX zl).mono ?_
  rintro e w6 ⟨bx, Ax, nx, cx, Bx, mx, dx, rfl, rx, b⟩
  rewrite [fR b gl] at f0 f1
  replace hx := hx.on b
  replace zl := zl.on b
  replace zh := zh.on b
  rewrite [cR b kl] at k0 k1 k2
  replace kl := lK b kl
  rewrite [cR b gl] at g0 g1
  replace gl := lK b gl
  rewrite [cR b bal] at ba0 ba1
  replace bal := lK b bal
  rewrite [cR b bbl] at bb0 bb1
  replace bbl := lK b bbl
  replace cc := bK cc b
  clear b
  go_wp2_with fail
  generalize hv_ : w6.alloc (.cells #[.bool bx, .slice Ax nx cx, .slice Bx mx dx] 40) = v7
  have bA : Below w6.heap.size w6 v7 := by rw [← hv_]; exact below_one _ _
  rewrite [fR bA gl] at f0 f1
  replace hx := hx.on bA
  replace zl := zl.on bA
  replace zh := zh.on bA
  replace rx := rx.on bA
  rewrite [cR bA kl] at k0 k1 k2
  replace kl := lK bA kl
  rewrite [cR bA gl] at g0 g1
  replace gl := lK bA gl
  rewrite [cR bA bal] at ba0 ba1
  replace bal := lK bA bal
  rewrite [cR bA bbl] at bb0 bb1
  replace bbl := lK bA bbl
  replace cc := bK cc bA
  clear bA
  obtain ⟨bc0, bc1, bc2⟩ : Cs3 v7 w6.heap.size (.bool bx) (.slice Ax nx cx) (.slice Bx mx dx) := by simp [Cs3, ← hv_, go_sem]
  have bcl : w6.heap.size < v7.heap.size := by simp [← hv_]
  clear hv_
  refine (CY zh).mono ?_
  rintro e w8 ⟨bY, Ay, ny, cy, By, my, dy, rfl, ry, b⟩
  rewrite [fR b gl] at f0 f1
  replace hx := hx.on b
  replace zl := zl.on b
  replace zh := zh.on b
  replace rx := rx.on b
  rewrite [cR b kl] at k0 k1 k2
  replace kl := lK b kl
  rewrite [cR b gl] at g0 g1
  replace gl := lK b gl
  rewrite [cR b bal] at ba0 ba1
  replace bal := lK b bal
  rewrite [cR b bbl] at bb0 bb1
  replace bbl := lK b bbl
  rewrite [cR b bcl] at bc0 bc1 bc2
  replace bcl := lK b bcl
  replace cc := bK cc b
  clear b
  go_wp2_with fail
  generalize hv_ : w8.alloc (.cells #[.bool bY, .slice Ay ny cy, .slice By my dy] 40) = v9
  have bA : Below w8.heap.size w8 v9 := by rw [← hv_]; exact below_one _ _
  rewrite [fR bA gl] at f0 f1
  replace hx := hx.on bA
  replace zl := zl.on bA
  replace zh := zh.on bA
  replace rx := rx.on bA
  replace ry := ry.on bA
  rewrite [cR bA kl] at k0 k1 k2
  replace kl := lK bA kl
  rewrite [cR bA gl] at g0 g1
  replace gl := lK bA gl
  rewrite [cR bA bal] at ba0 ba1
  replace bal := lK bA bal
  rewrite [cR bA bbl] at bb0 bb1
  replace bbl := lK bA bbl
  rewrite [cR bA bcl] at bc0 bc1 bc2
  replace bcl := lK bA bcl
  replace cc := bK cc bA
  clear bA
  obtain ⟨bd0, bd1, bd2⟩ : Cs3 v9 w8.heap.size (.bool bY) (.slice Ay ny cy) (.slice By my dy) := by simp [Cs3, ← hv_, go_sem]
  have bdl : w8.heap.size < v9.heap.size := by simp [← hv_]
  clear hv_
  refine (rtsub_N hx (s0.le (by omega)) rx (sl.le (by omega))).mono ?_
  rintro e w10 ⟨bu, Au, nu, cu, Bu, mu, du, rfl, ru, b⟩
  rewrite [fR b gl] at f0 f1
  replace hx := hx.on b
  replace zl := zl.on b
  replace zh := zh.on b
  replace rx := rx.on b
  replace ry := ry.on b
  rewrite [cR b kl] at k0 k1 k2
  replace kl := lK b kl
  rewrite [cR b gl] at g0 g1
  replace gl := lK b gl
  rewrite [cR b bal] at ba0 ba1
  replace bal := lK b bal
  rewrite [cR b bbl] at bb0 bb1
  replace bbl := lK b bbl
  rewrite [cR b bcl] at bc0 bc1 bc2
  replace bcl := lK b bcl
  rewrite [cR b bdl] at bd0 bd1 bd2
  replace bdl := lK b bdl
  replace cc := bK cc b
  clear b
  go_wp2_with fail
  generalize hv_ : w10.alloc (.cells #[.bool bu, .slice Au nu cu, .slice Bu mu du] 40) = v11
  have bA : Below w10.heap.size w10 v11 := by rw [← hv_]; exact below_one _ _
  rewrite [fR bA gl] at f0 f1
  replace hx := hx.on bA
  replace zl := zl.on bA
  replace zh := zh.on bA
  replace rx := rx.on bA
  replace ry := ry.on bA
  replace ru := ru.on bA
  rewrite [cR bA kl] at k0 k1 k2
  replace kl := lK bA kl
  rewrite [cR bA gl] at g0 g1
  replace gl := lK bA gl
  rewrite [cR bA bal] at ba0 ba1
  replace bal := lK bA bal
  rewrite [cR bA bbl] at bb0 bb1
  replace bbl := lK bA bbl
  rewrite [cR bA bcl] at bc0 bc1 bc2
  replace bcl := lK bA bcl
  rewrite [cR bA bdl] at bd0 bd1 bd2
  replace bdl := lK bA bdl
  replace cc := bK cc bA
  clear bA
  obtain ⟨be0, be1, be2⟩ : Cs3 v11 w10.heap.size (.bool bu) (.slice Au nu cu) (.slice Bu mu du) := by simp [Cs3, ← hv_, go_sem]
  have bel : w10.heap.size < v11.heap.size := by simp [← hv_]
  clear hv_
  refine (rtsub_N ry (sh.le (by omega)) hx (s0.le (by omega))).mono ?_
  rintro e w12 ⟨bv, Av, nv, cv, Bv, mv, dv, rfl, rv, b⟩
  rewrite [fR b gl] at f0 f1
  replace hx := hx.on b
  replace zl := zl.on b
  replace zh := zh.on b
  replace rx := rx.on b
  replace ry := ry.on b
  replace ru := ru.on b
  rewrite [cR b kl] at k0 k1 k2
  replace kl := lK b kl
  rewrite [cR b gl] at g0 g1
  replace gl := lK b gl
  rewrite [cR b bal] at ba0 ba1
  replace bal := lK b bal
  rewrite [cR b bbl] at bb0 bb1
  replace bbl := lK b bbl
  rewrite [cR b bcl] at bc0 bc1 bc2
  replace bcl := lK b bcl
  rewrite [cR b bdl] at bd0 bd1 bd2
  replace bdl := lK b bdl
  rewrite [cR b bel] at be0 be1 be2
  replace bel := lK b bel
  replace cc := bK cc b
  clear b
  go_wp2_with fail
  generalize hv_ : w12.alloc (.cells #[.bool bv, .slice Av nv cv, .slice Bv mv dv] 40) = v13
  have bA : Below w12.heap.size w12 v13 := by rw [← hv_]; exact below_one _ _
  rewrite [fR bA gl] at f0 f1
  replace hx := hx.on bA
  replace zl := zl.on bA
  replace zh := zh.on bA
  replace rx := rx.on bA
  replace ry := ry.on bA
  replace ru := ru.on bA
  replace rv := rv.on bA
  rewrite [cR bA kl] at k0 k1 k2
  replace kl := lK bA kl
  rewrite [cR bA gl] at g0 g1
  replace gl := lK bA gl
  rewrite [cR bA bal] at ba0 ba1
  replace bal := lK bA bal
  rewrite [cR bA bbl] at bb0 bb1
  replace bbl := lK bA bbl
  rewrite [cR bA bcl] at bc0 bc1 bc2
  replace bcl := lK bA bcl
  rewrite [cR bA bdl] at bd0 bd1 bd2
  replace bdl := lK bA bdl
  rewrite [cR bA bel] at be0 be1 be2
  replace bel := lK bA bel
  replace cc := bK cc bA
  clear bA
  obtain ⟨bf0, bf1, bf2⟩ : Cs3 v13 w12.heap.size (.bool bv) (.slice Av nv cv) (.slice Bv mv dv) := by simp [Cs3, ← hv_, go_sem]
  have bfl : w12.heap.size < v13.heap.size := by simp [← hv_]
  clear hv_
  refine (rtcmp_v cn ru (su.le (by omega)) rv (sv.le (by omega)) HC.out).mono ?_
  rintro e w14 ⟨rfl, b⟩
  rewrite [fR b gl] at f0 f1
  replace hx := hx.on b
  replace zl := zl.on b
  replace zh := zh.on b
  replace rx := rx.on b
  replace ry := ry.on b
  replace ru := ru.on b
  replace rv := rv.on b
  rewrite [cR b kl] at k0 k1 k2
  replace kl := lK b kl
  rewrite [cR b gl] at g0 g1
  replace gl := lK b gl
  rewrite [cR b bal] at ba0 ba1
  replace bal := lK b bal
  rewrite [cR b bbl] at bb0 bb1
  replace bbl := lK b bbl
  rewrite [cR b bcl] at bc0 bc1 bc2
  replace bcl := lK b bcl
  rewrite [cR b bdl] at bd0 bd1 bd2
  replace bdl := lK b bdl
  rewrite [cR b bel] at be0 be1 be2
  replace bel := lK b bel
  rewrite [cR b bfl] at bf0 bf1 bf2
  replace bfl := lK b bfl
  replace cc := bK cc b
  clear b
  go_wp2_with fail
  refine (rodd_N false zl HO.out).mono ?_
  rintro e w15 ⟨rfl, b⟩
  rewrite [fR b gl] at f0 f1
  replace hx := hx.on b
  replace zl := zl.on b
  replace zh := zh.on b
  replace rx := rx.on b
  replace ry := ry.on b
  replace ru := ru.on b
  replace rv := rv.on b
  rewrite [cR b kl] at k0 k1 k2
  replace kl := lK b kl
  rewrite [cR b gl] at g0 g1
  replace gl := lK b gl
  rewrite [cR b bal] at ba0 ba1
  replace bal := lK b bal
  rewrite [cR b bbl] at bb0 bb1
  replace bbl := lK b bbl
  rewrite [cR b bcl] at bc0 bc1 bc2
  replace bcl := lK b bcl
  rewrite [cR b bdl] at bd0 bd1 bd2
  replace bdl := lK b bdl
  rewrite [cR b bel] at be0 be1 be2
  replace bel := lK b bel
  rewrite [cR b bfl] at bf0 bf1 bf2
  replace bfl := lK b bfl
  replace cc := bK cc b
  clear b
  have hn : Zn w15 bl Al nl cl (nea x0 j.toNat) := by rw [HN.out]; exact zl
  have eb : Box w15 (w.heap.size + 1) false none 0 0 := ⟨g0, g1⟩
  have HZ : Hid (Zn ((w15.setCell ⟨w.heap.size + 1, 0, none⟩ (.bool bl)).setCell ⟨w.heap.size + 1, 1, none⟩ (.slice Al nl cl)) bl Al nl cl (nea x0 j.toNat)) := Lib.hid (hn.put eb _ _)
  clear hn
  go_wp2_with fail
  refine bodyPost_ret (v := .tuple #[.agg #[.bool bl, .slice Al nl cl], .int .i64 0]) (by simp [results, Try.results56, go_sem, g0, g1]) rfl ⟨_, _, _, _, rfl, HZ.out, below_put cc (by omega) _ _⟩

theorem rnear_odd {w : World} {b0 : Bool} {A0 B0 : Option Addr} {n0 c0 m0 d0 : Nat} {x0 : Rat} (hx : Rt w b0 A0 n0 c0 B0 m0 d0 x0) (s0 : Sz x0 15) {j : Int} (h0 : 0 ≤ j) (h1 : j ≤ 500) (hc : cmpQ (x0 - bak (flo x0 j.toNat) j.toNat) (bak (cei x0 j.toNat) j.toNat - x0) = 0) (he : ¬ flo x0 j.toNat % 2 = 0) :
    Calls Try.prog 56 #[.agg #[.bool b0, .slice A0 n0 c0, .slice B0 m0 d0], .int .i64 j] w (GotZp w (nea x0 j.toNat) 0) := by
  have jl : j.toNat ≤ 500 := by omega
  have ll := flo_len s0 jl
  have lh := cei_len s0 jl
  have hn : nea x0 j.toNat = cei x0 j.toNat := by rw [nea_by]; rw [if_neg (fun h => h.elim (fun a => by omega) (fun a => he a.2))]
  have CF : ∀ {W : World} {b : Bool} {A B : Option Addr} {n c m d : Nat}, Rt W b A n c B m d x0 → Calls Try.prog 73 #[.agg #[.bool b, .slice A n c, .slice B m d], .int .i64 j] W (GotZp W (flo x0 j.toNat) 0) := fun hh => rfloor_N hh (s0.le (by omega)) h0 h1
  have CC : ∀ {W : World} {b : Bool} {A B : Option Addr} {n c m d : Nat}, Rt W b A n c B m d x0 → Calls Try.prog 74 #[.agg #[.bool b, .slice A n c, .slice B m d], .int .i64 j] W (GotZp W (cei x0 j.toNat) 0) := fun hh => rceil_N hh (s0.le (by omega)) h0 h1
  obtain ⟨lo, hlo⟩ : ∃ lo, flo x0 j.toNat = lo := ⟨_, rfl⟩
  obtain ⟨hi, hhi⟩ : ∃ hi, cei x0 j.toNat = hi := ⟨_, rfl⟩
  rw [hlo] at CF ll
  rw [hhi] at CC lh
  rw [hlo, hhi] at hc
  rw [hlo] at he
  rw [hhi] at hn
  have CB : ∀ {W : World} {z : Int} {b : Bool} {A : Option Addr} {n c : Nat}, Zn W b A n c z → (limbs z.natAbs).length ≤ 24 → Calls Try.prog 54 #[.agg #[.bool b, .slice A n c], .int .i64 j] W (GotRp W (bak z j.toNat) 0) := fun hh hl => rback_N hh (by omega) h0 h1
  have sl : Sz (bak lo j.toNat) 24 := bak_sz ll (by omega) jl
  have sh : Sz (bak hi j.toNat) 24 := bak_sz lh (by omega) jl
  obtain ⟨x, hxx⟩ : ∃ x, bak lo j.toNat = x := ⟨_, rfl⟩
  obtain ⟨y, hyy⟩ : ∃ y, bak hi j.toNat = y := ⟨_, rfl⟩
  have CX : ∀ {W : World} {b : Bool} {A : Option Addr} {n c : Nat}, Zn W b A n c lo → Calls Try.prog 54 #[.agg #[.bool b, .slice A n c], .int .i64 j] W (GotRp W x 0) := fun hh => by rw [← hxx]; exact CB hh ll
  have CY : ∀ {W : World} {b : Bool} {A : Option Addr} {n c : Nat}, Zn W b A n c hi → Calls Try.prog 54 #[.agg #[.bool b, .slice A n c], .int .i64 j] W (GotRp W y 0) := fun hh => by rw [← hyy]; exact CB hh lh
  rw [hxx] at sl
  rw [hyy] at sh
  rw [hxx, hyy] at hc
  skip
  obtain ⟨cn, hcn⟩ : ∃ cn, cmpQ (x0 - x) (y - x0) = cn := ⟨_, rfl⟩
  have HC := Lib.hid hcn
  rw [hcn] at hc
  skip
  have su := s0.sub sl
  have sv := sh.sub s0
  have HN := Lib.hid hn
  have t1 : decide (cn < 0) = false := decide_eq_false (by omega)
  have t2 : (cn == 0) = true := beq_iff_eq.2 hc
  have HO : Hid (decide (lo % 2 = 1) = true) := Lib.hid (decide_eq_true (by omega))
  clear CB hxx hyy hcn hlo hhi hn hc h0 h1 he
  have cc := Below.refl w.heap.size w
  go_enter Try.func56, Try.ntmps56
  go_wp2_with fail
  generalize hv_ : (w.alloc (.cells #[.bool b0, .slice A0 n0 c0, .slice B0 m0 d0] 40)).alloc (.cells #[.bool false, .slice none 0 0] 38) = v1
  obtain ⟨f0, f1⟩ : Fz2 v1 (w.heap.size + 1) := by simp [Fz2, ← hv_, go_sem]
  have bA : Below w.heap.size w v1 := by rw [← hv_]; exact (((Below.refl _ w).alloc (by simp) _).alloc (by simp) _)
  replace hx := hx.on bA
  replace cc := bK cc bA
  clear bA
  obtain ⟨k0, k1, k2⟩ : Cs3 v1 w.heap.size (.bool b0) (.slice A0 n0 c0) (.slice B0 m0 d0) := by simp [Cs3, ← hv_, go_sem]
  have kl : w.heap.size < v1.heap.size := by simp [← hv_] <;> omega
  obtain ⟨g0, g1⟩ : Cs2 v1 (w.heap.size + 1) (.bool false) (.slice none 0 0) := by simp [Cs2, ← hv_, go_sem]
  have gl : w.heap.size + 1 < v1.heap.size := by simp [← hv_] <;> omega
  clear hv_
  refine (CF hx).mono ?_
  rintro e w2 ⟨bl, Al, nl, cl, rfl, zl, b⟩
  rewrite [fR b gl] at f0 f1
  replace hx := hx.on b
  rewrite [cR b kl] at k0 k1 k2
  replace kl := lK b kl
  rewrite [cR b gl] at g0 g1
  replace gl := lK b gl
  replace cc := bK cc b
  clear b
  go_wp2_with fail
  generalize hv_ : w2.alloc (.cells #[.bool bl, .slice Al nl cl] 38) = v3
  have bA : Below w2.heap.size w2 v3 := by rw [← hv_]; exact below_one _ _
  rewrite [fR bA gl] at f0 f1
  replace hx := hx.on bA
  replace zl := zl.on bA
  rewrite [cR bA kl] at k0 k1 k2
  replace kl := lK bA kl
  rewrite [cR bA gl] at g0 g1
  replace gl := lK bA gl
  replace cc := bK cc bA
  clear bA
  obtain ⟨ba0, ba1⟩ : Cs2 v3 w2.heap.size (.bool bl) (.slice Al nl cl) := by simp [Cs2, ← hv_, go_sem]
  have bal : w2.heap.size < v3.heap.size := by simp [← hv_]
  clear hv_
  refine (CC hx).mono ?_
  rintro e w4 ⟨bh, Ah, nh, ch, rfl, zh, b⟩
  rewrite [fR b gl] at f0 f1
  replace hx := hx.on b
  replace zl := zl.on b
  rewrite [cR b kl] at k0 k1 k2
  replace kl := lK b kl
  rewrite [cR b gl] at g0 g1
  replace gl := lK b gl
  rewrite [cR b bal] at ba0 ba1
  replace bal := lK b bal
  replace cc := bK cc b
  clear b
  go_wp2_with fail
  generalize hv_ : w4.alloc (.cells #[.bool bh, .slice Ah nh ch] 38) = v5
  have bA : Below w4.heap.size w4 v5 := by rw [← hv_]; exact below_one _ _
  rewrite [fR bA gl] at f0 f1
  replace hx := hx.on bA
  replace zl := zl.on bA
  replace zh := zh.on bA
  rewrite [cR bA kl] at k0 k1 k2
  replace kl := lK bA kl
  rewrite [cR bA gl] at g0 g1
  replace gl := lK bA gl
  rewrite [cR bA bal] at ba0 ba1
  replace bal := lK bA bal
  replace cc := bK cc bA
  clear bA
  obtain ⟨bb0, bb1⟩ : Cs2 v5 w4.heap.size (.bool bh) (.slice Ah nh ch) := by simp [Cs2, ← hv_, go_sem]
  have bbl : w4.heap.size < v5.heap.size := by simp [← hv_]
  clear hv_
  refine (CX zl).mono ?_
  rintro e w6 ⟨bx, Ax, nx, cx, Bx, mx, dx, rfl, rx, b⟩
  rewrite [fR b gl] at f0 f1
  replace hx := hx.on b
  replace zl := zl.on b
  replace zh := zh.on b
  rewrite [cR b kl] at k0 k1 k2
  replace kl := lK b kl
  rewrite [cR b gl] at g0 g1
  replace gl := lK b gl
  rewrite [cR b bal] at ba0 ba1
  replace bal := lK b bal
  rewrite [cR b bbl] at bb0 bb1
  replace bbl := lK b bbl
  replace cc := bK cc b
  clear b
  go_wp2_with fail
  generalize hv_ : w6.alloc (.cells #[.bool bx, .slice Ax nx cx, .slice Bx mx dx] 40) = v7
  have bA : Below w6.heap.size w6 v7 := by rw [← hv_]; exact below_one _ _
  rewrite [fR bA gl] at f0 f1
  replace hx := hx.on bA
  replace zl := zl.on bA
  replace zh := zh.on bA
  replace rx := rx.on bA
  rewrite [cR bA kl] at k0 k1 k2
  replace kl := lK bA kl
  rewrite [cR bA gl] at g0 g1
  replace gl := lK bA gl
  rewrite [cR bA bal] at ba0 ba1
  replace bal := lK bA bal
  rewrite [cR bA bbl] at bb0 bb1
  replace bbl := lK bA bbl
  replace cc := bK cc bA
  clear bA
  obtain ⟨bc0, bc1, bc2⟩ : Cs3 v7 w6.heap.size (.bool bx) (.slice Ax nx cx) (.slice Bx mx dx) := by simp [Cs3, ← hv_, go_sem]
  have bcl : w6.heap.size < v7.heap.size := by simp [← hv_]
  clear hv_
  refine (CY zh).mono ?_
  rintro e w8 ⟨bY, Ay, ny, cy, By, my, dy, rfl, ry, b⟩
  rewrite [fR b gl] at f0 f1
  replace hx := hx.on b
  replace zl := zl.on b
  replace zh := zh.on b
  replace rx := rx.on b
  rewrite [cR b kl] at k0 k1 k2
  replace kl := lK b kl
  rewrite [cR b gl] at g0 g1
  replace gl := lK b gl
  rewrite [cR b bal] at ba0 ba1
  replace bal := lK b bal
  rewrite [cR b bbl] at bb0 bb1
  replace bbl := lK b bbl
  rewrite [cR b bcl] at bc0 bc1 bc2
  replace bcl := lK b bcl
  replace cc := bK cc b
  clear b
  go_wp2_with fail
  generalize hv_ : w8.alloc (.cells #[.bool bY, .slice Ay ny cy, .slice By my dy] 40) = v9
  have bA : Below w8.heap.size w8 v9 := by rw [← hv_]; exact below_one _ _
  rewrite [fR bA gl] at f0 f1
  replace hx := hx.on bA
  replace zl := zl.on bA
  replace zh := zh.on bA
  replace rx := rx.on bA
  replace ry := ry.on bA
  rewrite [cR bA kl] at k0 k1 k2
  replace kl := lK bA kl
  rewrite [cR bA gl] at g0 g1
  replace gl := lK bA gl
  rewrite [cR bA bal] at ba0 ba1
  replace bal := lK bA bal
  rewrite [cR bA bbl] at bb0 bb1
  replace bbl := lK bA bbl
  rewrite [cR bA bcl] at bc0 bc1 bc2
  replace bcl := lK bA bcl
  replace cc := bK cc bA
  clear bA
  obtain ⟨bd0, bd1, bd2⟩ : Cs3 v9 w8.heap.size (.bool bY) (.slice Ay ny cy) (.slice By my dy) := by simp [Cs3, ← hv_, go_sem]
  have bdl : w8.heap.size < v9.heap.size := by simp [← hv_]
  clear hv_
  refine (rtsub_N hx (s0.le (by omega)) rx (sl.le (by omega))).mono ?_
  rintro e w10 ⟨bu, Au, nu, cu, Bu, mu, du, rfl, ru, b⟩
  rewrite [fR b gl] at f0 f1
  replace hx := hx.on b
  replace zl := zl.on b
  replace zh := zh.on b
  replace rx := rx.on b
  replace ry := ry.on b
  rewrite [cR b kl] at k0 k1 k2
  replace kl := lK b kl
  rewrite [cR b gl] at g0 g1
  replace gl := lK b gl
  rewrite [cR b bal] at ba0 ba1
  replace bal := lK b bal
  rewrite [cR b bbl] at bb0 bb1
  replace bbl := lK b bbl
  rewrite [cR b bcl] at bc0 bc1 bc2
  replace bcl := lK b bcl
  rewrite [cR b bdl] at bd0 bd1 bd2
  replace bdl := lK b bdl
  replace cc := bK cc b
  clear b
  go_wp2_with fail
  generalize hv_ : w10.alloc (.cells #[.bool bu, .slice Au nu cu, .slice Bu mu du] 40) = v11
  have bA : Below w10.heap.size w10 v11 := by rw [← hv_]; exact below_one _ _
  rewrite [fR bA gl] at f0 f1
  replace hx := hx.on bA
  replace zl := zl.on bA
  replace zh := zh.on bA
  replace rx := rx.on bA
  replace ry := ry.on bA
  replace ru := ru.on bA
  rewrite [cR bA kl] at k0 k1 k2
  replace kl := lK bA kl
  rewrite [cR bA gl] at g0 g1
  replace gl := lK bA gl
  rewrite [cR bA bal] at ba0 ba1
  replace bal := lK bA bal
  rewrite [cR bA bbl] at bb0 bb1
  replace bbl := lK bA bbl
  rewrite [cR bA bcl] at bc0 bc1 bc2
  replace bcl := lK bA bcl
  rewrite [cR bA bdl] at bd0 bd1 bd2
  replace bdl := lK bA bdl
  replace cc := bK cc bA
  clear bA
  obtain ⟨be0, be1, be2⟩ : Cs3 v11 w10.heap.size (.bool bu) (.slice Au nu cu) (.slice Bu mu du) := by simp [Cs3, ← hv_, go_sem]
  have bel : w10.heap.size < v11.heap.size := by simp [← hv_]
  clear hv_
  refine (rtsub_N ry (sh.le (by omega)) hx (s0.le (by omega))).mono ?_
  rintro e w12 ⟨bv, Av, nv, cv, Bv, mv, dv, rfl, rv, b⟩
  rewrite [fR b gl] at f0 f1
  replace hx := hx.on b
  replace zl := zl.on b
  replace zh := zh.on b
  replace rx := rx.on b
  replace ry := ry.on b
  replace ru := ru.on b
  rewrite [cR b kl] at k0 k1 k2
  replace kl := lK b kl
  rewrite [cR b gl] at g0 g1
  replace gl := lK b gl
  rewrite [cR b bal] at ba0 ba1
  replace bal := lK b bal
  rewrite [cR b bbl] at bb0 bb1
  replace bbl := lK b bbl
  rewrite [cR b bcl] at bc0 bc1 bc2
  replace bcl := lK b bcl
  rewrite [cR b bdl] at bd0 bd1 bd2
  replace bdl := lK b bdl
  rewrite [cR b bel] at be0 be1 be2
  replace bel := lK b bel
  replace cc := bK cc b
  clear b
  go_wp2_with fail
  generalize hv_ : w12.alloc (.cells #[.bool bv, .slice Av nv cv, .slice Bv mv dv] 40) = v13
  have bA : Below w12.heap.size w12 v13 := by rw [← hv_]; exact below_one _ _
  rewrite [fR bA gl] at f0 f1
  replace hx := hx.on bA
  replace zl := zl.on bA
  replace zh := zh.on bA
  replace rx := rx.on bA
  replace ry := ry.on bA
  replace ru := ru.on bA
  replace rv := rv.on bA
  rewrite [cR bA kl] at k0 k1 k2
  replace kl := lK bA kl
  rewrite [cR bA gl] at g0 g1
  replace gl := lK bA gl
  rewrite [cR bA bal] at ba0 ba1
  replace bal := lK bA bal
  rewrite [cR bA bbl] at bb0 bb1
  replace bbl := lK bA bbl
  rewrite [cR bA bcl] at bc0 bc1 bc2
  replace bcl := lK bA bcl
  rewrite [cR bA bdl] at bd0 bd1 bd2
  replace bdl := lK bA bdl
  rewrite [cR bA bel] at be0 be1 be2
  replace bel := lK bA bel
  replace cc := bK cc bA
  clear bA
  obtain ⟨bf0, bf1, bf2⟩ : Cs3 v13 w12.heap.size (.bool bv) (.slice Av nv cv) (.slice Bv mv dv) := by simp [Cs3, ← hv_, go_sem]
  have bfl : w12.heap.size < v13.heap.size := by simp [← hv_]
  clear hv_
  refine (rtcmp_v cn ru (su.le (by omega)) rv (sv.le (by omega)) HC.out).mono ?_
  rintro e w14 ⟨rfl, b⟩
  rewrite [fR b gl] at f0 f1
  replace hx := hx.on b
  replace zl := zl.on b
  replace zh := zh.on b
  replace rx := rx.on b
  replace ry := ry.on b
  replace ru := ru.on b
  replace rv := rv.on b
  rewrite [cR b kl] at k0 k1 k2
  replace kl := lK b kl
  rewrite [cR b gl] at g0 g1
  replace gl := lK b gl
  rewrite [cR b bal] at ba0 ba1
  replace bal := lK b bal
  rewrite [cR b bbl] at bb0 bb1
  replace bbl := lK b bbl
  rewrite [cR b bcl] at bc0 bc1 bc2
  replace bcl := lK b bcl
  rewrite [cR b bdl] at bd0 bd1 bd2
  replace bdl := lK b bdl
  rewrite [cR b bel] at be0 be1 be2
  replace bel := lK b bel
  rewrite [cR b bfl] at bf0 bf1 bf2
  replace bfl := lK b bfl
  replace cc := bK cc b
  clear b
  go_wp2_with fail
  refine (rodd_N true zl HO.out).mono ?_
  rintro e w15 ⟨rfl, b⟩
  rewrite [fR b gl] at f0 f1
  replace hx := hx.on b
  replace zl := zl.on b
  replace zh := zh.on b
  replace rx := rx.on b
  replace ry := ry.on b
  replace ru := ru.on b
  replace rv := rv.on b
  rewrite [cR b kl] at k0 k1 k2
  replace kl := lK b kl
  rewrite [cR b gl] at g0 g1
  replace gl := lK b gl
  rewrite [cR b bal] at ba0 ba1
  replace bal := lK b bal
  rewrite [cR b bbl] at bb0 bb1
  replace bbl := lK b bbl
  rewrite [cR b bcl] at bc0 bc1 bc2
  replace bcl := lK b bcl
  rewrite [cR b bdl] at bd0 bd1 bd2
  replace bdl := lK b bdl
  rewrite [cR b bel] at be0 be1 be2
  replace bel := lK b bel
  rewrite [cR b bfl] at bf0 bf1 bf2
  replace bfl := lK b bfl
  replace cc := bK cc b
  clear b
  have hn : Zn w15 bh Ah nh ch (nea x0 j.toNat) := by rw [HN.out]; exact zh
  have eb : Box w15 (w.heap.size + 1) false none 0 0 := ⟨g0, g1⟩
  have HZ : Hid (Zn ((w15.setCell ⟨w.heap.size + 1, 0, none⟩ (.bool bh)).setCell ⟨w.heap.size + 1, 1, none⟩ (.slice Ah nh ch)) bh Ah nh ch (nea x0 j.toNat)) := Lib.hid (hn.put eb _ _)
  clear hn
  go_wp2_with fail
  refine bodyPost_ret (v := .tuple #[.agg #[.bool bh, .slice Ah nh ch], .int .i64 0]) (by simp [results, Try.results56, go_sem, g0, g1]) rfl ⟨_, _, _, _, rfl, HZ.out, below_put cc (by omega) _ _⟩

theorem rnear_gt {w : World} {b0 : Bool} {A0 B0 : Option Addr} {n0 c0 m0 d0 : Nat} {x0 : Rat} (hx : Rt w b0 A0 n0 c0 B0 m0 d0 x0) (s0 : Sz x0 15) {j : Int} (h0 : 0 ≤ j) (h1 : j ≤ 500) (hc : ¬ cmpQ (x0 - bak (flo x0 j.toNat) j.toNat) (bak (cei x0 j.toNat) j.toNat - x0) < 0) (he : ¬ cmpQ (x0 - bak (flo x0 j.toNat) j.toNat) (bak (cei x0 j.toNat) j.toNat - x0) = 0) :
    Calls Try.prog 56 #[.agg #[.bool b0, .slice A0 n0 c0, .slice B0 m0 d0], .int .i64 j] w (GotZp w (nea x0 j.toNat) 0) := by
  have jl : j.toNat ≤ 500 := by omega
  have ll := flo_len s0 jl
  have lh := cei_len s0 jl
  have hn : nea x0 j.toNat = cei x0 j.toNat := by rw [nea_by]; rw [if_neg (fun h => h.elim (fun a => hc a) (fun a => he a.1))]
  have CF : ∀ {W : World} {b : Bool} {A B : Option Addr} {n c m d : Nat}, Rt W b A n c B m d x0 → Calls Try.prog 73 #[.agg #[.bool b, .slice A n c, .slice B m d], .int .i64 j] W (GotZp W (flo x0 j.toNat) 0) := fun hh => rfloor_N hh (s0.le (by omega)) h0 h1
  have CC : ∀ {W : World} {b : Bool} {A B : Option Addr} {n c m d : Nat}, Rt W b A n c B m d x0 → Calls Try.prog 74 #[.agg #[.bool b, .slice A n c, .slice B m d], .int .i64 j] W (GotZp W (cei x0 j.toNat) 0) := fun hh => rceil_N hh (s0.le (by omega)) h0 h1
  obtain ⟨lo, hlo⟩ : ∃ lo, flo x0 j.toNat = lo := ⟨_, rfl⟩
  obtain ⟨hi, hhi⟩ : ∃ hi, cei x0 j.toNat = hi := ⟨_, rfl⟩
  rw [hlo] at CF ll
  rw [hhi] at CC lh
  rw [hlo, hhi] at hc
  rw [hlo, hhi] at he
  rw [hhi] at hn
  have CB : ∀ {W : World} {z : Int} {b : Bool} {A : Option Addr} {n c : Nat}, Zn W b A n c z → (limbs z.natAbs).length ≤ 24 → Calls Try.prog 54 #[.agg #[.bool b, .slice A n c], .int .i64 j] W (GotRp W (bak z j.toNat) 0) := fun hh hl => rback_N hh (by omega) h0 h1
  have sl : Sz (bak lo j.toNat) 24 := bak_sz ll (by omega) jl
  have sh : Sz (bak hi j.toNat) 24 := bak_sz lh (by omega) jl
  obtain ⟨x, hxx⟩ : ∃ x, bak lo j.toNat = x := ⟨_, rfl⟩
  obtain ⟨y, hyy⟩ : ∃ y, bak hi j.toNat = y := ⟨_, rfl⟩
  have CX : ∀ {W : World} {b : Bool} {A : Option Addr} {n c : Nat}, Zn W b A n c lo → Calls Try.prog 54 #[.agg #[.bool b, .slice A n c], .int .i64 j] W (GotRp W x 0) := fun hh => by rw [← hxx]; exact CB hh ll
  have CY : ∀ {W : World} {b : Bool} {A : Option Addr} {n c : Nat}, Zn W b A n c hi → Calls Try.prog 54 #[.agg #[.bool b, .slice A n c], .int .i64 j] W (GotRp W y 0) := fun hh => by rw [← hyy]; exact CB hh lh
  rw [hxx] at sl
  rw [hyy] at sh
  rw [hxx, hyy] at hc
  rw [hxx, hyy] at he
  obtain ⟨cn, hcn⟩ : ∃ cn, cmpQ (x0 - x) (y - x0) = cn := ⟨_, rfl⟩
  have HC := Lib.hid hcn
  rw [hcn] at hc
  rw [hcn] at he
  have su := s0.sub sl
  have sv := sh.sub s0
  have HN := Lib.hid hn
  have t1 : decide (cn < 0) = false := decide_eq_false (by omega)
  have t2 : (cn == 0) = false := beq_eq_false_iff_ne.2 he
  clear CB hxx hyy hcn hlo hhi hn hc h0 h1 he
  have cc := Below.refl w.heap.size w
  go_enter Try.func56, Try.ntmps56
  go_wp2_with fail
  generalize hv_ : (w.alloc (.cells #[.bool b0, .slice A0 n0 c0, .slice B0 m0 d0] 40)).alloc (.cells #[.bool false, .slice none 0 0] 38) = v1
  obtain ⟨f0, f1⟩ : Fz2 v1 (w.heap.size + 1) := by simp [Fz2, ← hv_, go_sem]
  have bA : Below w.heap.size w v1 := by rw [← hv_]; exact (((Below.refl _ w).alloc (by simp) _).alloc (by simp) _)
  replace hx := hx.on bA
  replace cc := bK cc bA
  clear bA
  obtain ⟨k0, k1, k2⟩ : Cs3 v1 w.heap.size (.bool b0) (.slice A0 n0 c0) (.slice B0 m0 d0) := by simp [Cs3, ← hv_, go_sem]
  have kl : w.heap.size < v1.heap.size := by simp [← hv_] <;> omega
  obtain ⟨g0, g1⟩ : Cs2 v1 (w.heap.size + 1) (.bool false) (.slice none 0 0) := by simp [Cs2, ← hv_, go_sem]
  have gl : w.heap.size + 1 < v1.heap.size := by simp [← hv_] <;> omega
  clear hv_
  refine (CF hx).mono ?_
  rintro e w2 ⟨bl, Al, nl, cl, rfl, zl, b⟩
  rewrite [fR b gl] at f0 f1
  replace hx := hx.on b
  rewrite [cR b kl] at k0 k1 k2
  replace kl := lK b kl
  rewrite [cR b gl] at g0 g1
  replace gl := lK b gl
  replace cc := bK cc b
  clear b
  go_wp2_with fail
  generalize hv_ : w2.alloc (.cells #[.bool bl, .slice Al nl cl] 38) = v3
  have bA : Below w2.heap.size w2 v3 := by rw [← hv_]; exact below_one _ _
  rewrite [fR bA gl] at f0 f1
  replace hx := hx.on bA
  replace zl := zl.on bA
  rewrite [cR bA kl] at k0 k1 k2
  replace kl := lK bA kl
  rewrite [cR bA gl] at g0 g1
  replace gl := lK bA gl
  replace cc := bK cc bA
  clear bA
  obtain ⟨ba0, ba1⟩ : Cs2 v3 w2.heap.size (.bool bl) (.slice Al nl cl) := by simp [Cs2, ← hv_, go_sem]
  have bal : w2.heap.size < v3.heap.size := by simp [← hv_]
  clear hv_
  refine (CC hx).mono ?_
  rintro e w4 ⟨bh, Ah, nh, ch, rfl, zh, b⟩
  rewrite [fR b gl] at f0 f1
  replace hx := hx.on b
  replace zl := zl.on b
  rewrite [cR b kl] at k0 k1 k2
  replace kl := lK b kl
  rewrite [cR b gl] at g0 g1
  replace gl := lK b gl
  rewrite [cR b bal] at ba0 ba1
  replace bal := lK b bal
  replace cc := bK cc b
  clear b
  go_wp2_with fail
  generalize hv_ : w4.alloc (.cells #[.bool bh, .slice Ah nh ch] 38) = v5
  have bA : Below w4.heap.size w4 v5 := by rw [← hv_]; exact below_one _ _
  rewrite [fR bA gl] at f0 f1
  replace hx := hx.on bA
  replace zl := zl.on bA
  replace zh := zh.on bA
  rewrite [cR bA kl] at k0 k1 k2
  replace kl := lK bA kl
  rewrite [cR bA gl] at g0 g1
  replace gl := lK bA gl
  rewrite [cR bA bal] at ba0 ba1
  replace bal := lK bA bal
  replace cc := bK cc bA
  clear bA
  obtain ⟨bb0, bb1⟩ : Cs2 v5 w4.heap.size (.bool bh) (.slice Ah nh ch) := by simp [Cs2, ← hv_, go_sem]
  have bbl : w4.heap.size < v5.heap.size := by simp [← hv_]
  clear hv_
  refine (CX zl).mono ?_
  rintro e w6 ⟨bx, Ax, nx, cx, Bx, mx, dx, rfl, rx, b⟩
  rewrite [fR b gl] at f0 f1
  replace hx := hx.on b
  replace zl := zl.on b
  replace zh := zh.on b
  rewrite [cR b kl] at k0 k1 k2
  replace kl := lK b kl
  rewrite [cR b gl] at g0 g1
  replace gl := lK b gl
  rewrite [cR b bal] at ba0 ba1
  replace bal := lK b bal
  rewrite [cR b bbl] at bb0 bb1
  replace bbl := lK b bbl
  replace cc := bK cc b
  clear b
  go_wp2_with fail
  generalize hv_ : w6.alloc (.cells #[.bool bx, .slice Ax nx cx, .slice Bx mx dx] 40) = v7
  have bA : Below w6.heap.size w6 v7 := by rw [← hv_]; exact below_one _ _
  rewrite [fR bA gl] at f0 f1
  replace hx := hx.on bA
  replace zl := zl.on bA
  replace zh := zh.on bA
  replace rx := rx.on bA
  rewrite [cR bA kl] at k0 k1 k2
  replace kl := lK bA kl
  rewrite [cR bA gl] at g0 g1
  replace gl := lK bA gl
  rewrite [cR bA bal] at ba0 ba1
  replace bal := lK bA bal
  rewrite [cR bA bbl] at bb0 bb1
  replace bbl := lK bA bbl
  replace cc := bK cc bA
  clear bA
  obtain ⟨bc0, bc1, bc2⟩ : Cs3 v7 w6.heap.size (.bool bx) (.slice Ax nx cx) (.slice Bx mx dx) := by simp [Cs3, ← hv_, go_sem]
  have bcl : w6.heap.size < v7.heap.size := by simp [← hv_]
  clear hv_
  refine (CY zh).mono ?_
  rintro e w8 ⟨bY, Ay, ny, cy, By, my, dy, rfl, ry, b⟩
  rewrite [fR b gl] at f0 f1
  replace hx := hx.on b
  replace zl := zl.on b
  replace zh := zh.on b
  replace rx := rx.on b
  rewrite [cR b kl] at k0 k1 k2
  replace kl := lK b kl
  rewrite [cR b gl] at g0 g1
  replace gl := lK b gl
  rewrite [cR b bal] at ba0 ba1
  replace bal := lK b bal
  rewrite [cR b bbl] at bb0 bb1
  replace bbl := lK b bbl
  rewrite [cR b bcl] at bc0 bc1 bc2
  replace bcl := lK b bcl
  replace cc := bK cc b
  clear b
  go_wp2_with fail
  generalize hv_ : w8.alloc (.cells #[.bool bY, .slice Ay ny cy, .slice By my dy] 40) = v9
  have bA : Below w8.heap.size w8 v9 := by rw [← hv_]; exact below_one _ _
  rewrite [fR bA gl] at f0 f1
  replace hx := hx.on bA
  replace zl := zl.on bA
  replace zh := zh.on bA
  replace rx := rx.on bA
  replace ry := ry.on bA
  rewrite [cR bA kl] at k0 k1 k2
  replace kl := lK bA kl
  rewrite [cR bA gl] at g0 g1
  replace gl := lK bA gl
  rewrite [cR bA bal] at ba0 ba1
  replace bal := lK bA bal
  rewrite [cR bA bbl] at bb0 bb1
  replace bbl := lK bA bbl
  rewrite [cR bA bcl] at bc0 bc1 bc2
  replace bcl := lK bA bcl
  replace cc := bK cc bA
  clear bA
  obtain ⟨bd0, bd1, bd2⟩ : Cs3 v9 w8.heap.size (.bool bY) (.slice Ay ny cy) (.slice By my dy) := by simp [Cs3, ← hv_, go_sem]
  have bdl : w8.heap.size < v9.heap.size := by simp [← hv_]
  clear hv_
  refine (rtsub_N hx (s0.le (by omega)) rx (sl.le (by omega))).mono ?_
  rintro e w10 ⟨bu, Au, nu, cu, Bu, mu, du, rfl, ru, b⟩
  rewrite [fR b gl] at f0 f1
  replace hx := hx.on b
  replace zl := zl.on b
  replace zh := zh.on b
  replace rx := rx.on b
  replace ry := ry.on b
  rewrite [cR b kl] at k0 k1 k2
  replace kl := lK b kl
  rewrite [cR b gl] at g0 g1
  replace gl := lK b gl
  rewrite [cR b bal] at ba0 ba1
  replace bal := lK b bal
  rewrite [cR b bbl] at bb0 bb1
  replace bbl := lK b bbl
  rewrite [cR b bcl] at bc0 bc1 bc2
  replace bcl := lK b bcl
  rewrite [cR b bdl] at bd0 bd1 bd2
  replace bdl := lK b bdl
  replace cc := bK cc b
  clear b
  go_wp2_with fail
  generalize hv_ : w10.alloc (.cells #[.bool bu, .slice Au nu cu, .slice Bu mu du] 40) = v11
  have bA : Below w10.heap.size w10 v11 := by rw [← hv_]; exact below_one _ _
  rewrite [fR bA gl] at f0 f1
  replace hx := hx.on bA
  replace zl := zl.on bA
  replace zh := zh.on bA
  replace rx := rx.on bA
  replace ry := ry.on bA
  replace ru := ru.on bA
  rewrite [cR bA kl] at k0 k1 k2
  replace kl := lK bA kl
  rewrite [cR bA gl] at g0 g1
  replace gl := lK bA gl
  rewrite [cR bA bal] at ba0 ba1
  replace bal := lK bA bal
  rewrite [cR bA bbl] at bb0 bb1
  replace bbl := lK bA bbl
  rewrite [cR bA bcl] at bc0 bc1 bc2
  replace bcl := lK bA bcl
  rewrite [cR bA bdl] at bd0 bd1 bd2
  replace bdl := lK bA bdl
  replace cc := bK cc bA
  clear bA
  obtain ⟨be0, be1, be2⟩ : Cs3 v11 w10.heap.size (.bool bu) (.slice Au nu cu) (.slice Bu mu du) := by simp [Cs3, ← hv_, go_sem]
  have bel : w10.heap.size < v11.heap.size := by simp [← hv_]
  clear hv_
  refine (rtsub_N ry (sh.le (by omega)) hx (s0.le (by omega))).mono ?_
  rintro e w12 ⟨bv, Av, nv, cv, Bv, mv, dv, rfl, rv, b⟩
  rewrite [fR b gl] at f0 f1
  replace hx := hx.on b
  replace zl := zl.on b
  replace zh := zh.on b
  replace rx := rx.on b
  replace ry := ry.on b
  replace ru := ru.on b
  rewrite [cR b kl] at k0 k1 k2
  replace kl := lK b kl
  rewrite [cR b gl] at g0 g1
  replace gl := lK b gl
  rewrite [cR b bal] at ba0 ba1
  replace bal := lK b bal
  rewrite [cR b bbl] at bb0 bb1
  replace bbl := lK b bbl
  rewrite [cR b bcl] at bc0 bc1 bc2
  replace bcl := lK b bcl
  rewrite [cR b bdl] at bd0 bd1 bd2
  replace bdl := lK b bdl
  rewrite [cR b bel] at be0 be1 be2
  replace bel := lK b bel
  replace cc := bK cc b
  clear b
  go_wp2_with fail
  generalize hv_ : w12.alloc (.cells #[.bool bv, .slice Av nv cv, .slice Bv mv dv] 40) = v13
  have bA : Below w12.heap.size w12 v13 := by rw [← hv_]; exact below_one _ _
  rewrite [fR bA gl] at f0 f1
  replace hx := hx.on bA
  replace zl := zl.on bA
  replace zh := zh.on bA
  replace rx := rx.on bA
  replace ry := ry.on bA
  replace ru := ru.on bA
  replace rv := rv.on bA
  rewrite [cR bA kl] at k0 k1 k2
  replace kl := lK bA kl
  rewrite [cR bA gl] at g0 g1
  replace gl := lK bA gl
  rewrite [cR bA bal] at ba0 ba1
  replace bal := lK bA bal
  rewrite [cR bA bbl] at bb0 bb1
  replace bbl := lK bA bbl
  rewrite [cR bA bcl] at bc0 bc1 bc2
  replace bcl := lK bA bcl
  rewrite [cR bA bdl] at bd0 bd1 bd2
  replace bdl := lK bA bdl
  rewrite [cR bA bel] at be0 be1 be2
  replace bel := lK bA bel
  replace cc := bK cc bA
  clear bA
  obtain ⟨bf0, bf1, bf2⟩ : Cs3 v13 w12.heap.size (.bool bv) (.slice Av nv cv) (.slice Bv mv dv) := by simp [Cs3, ← hv_, go_sem]
  have bfl : w12.heap.size < v13.heap.size := by simp [← hv_]
  clear hv_
  refine (rtcmp_v cn ru (su.le (by omega)) rv (sv.le (by omega)) HC.out).mono ?_
  rintro e w14 ⟨rfl, b⟩
  rewrite [fR b gl] at f0 f1
  replace hx := hx.on b
  replace zl := zl.on b
  replace zh := zh.on b
  replace rx := rx.on b
  replace ry := ry.on b
  replace ru := ru.on b
  replace rv := rv.on b
  rewrite [cR b kl] at k0 k1 k2
  replace kl := lK b kl
  rewrite [cR b gl] at g0 g1
  replace gl := lK b gl
  rewrite [cR b bal] at ba0 ba1
  replace bal := lK b bal
  rewrite [cR b bbl] at bb0 bb1
  replace bbl := lK b bbl
  rewrite [cR b bcl] at bc0 bc1 bc2
  replace bcl := lK b bcl
  rewrite [cR b bdl] at bd0 bd1 bd2
  replace bdl := lK b bdl
  rewrite [cR b bel] at be0 be1 be2
  replace bel := lK b bel
  rewrite [cR b bfl] at bf0 bf1 bf2
  replace bfl := lK b bfl
  replace cc := bK cc b
  clear b
  have hn : Zn w14 bh Ah nh ch (nea x0 j.toNat) := by rw [HN.out]; exact zh
  have eb : Box w14 (w.heap.size + 1) false none 0 0 := ⟨g0, g1⟩
  have HZ : Hid (Zn ((w14.setCell ⟨w.heap.size + 1, 0, none⟩ (.bool bh)).setCell ⟨w.heap.size + 1, 1, none⟩ (.slice Ah nh ch)) bh Ah nh ch (nea x0 j.toNat)) := Lib.hid (hn.put eb _ _)
  clear hn
  go_wp2_with fail
  refine bodyPost_ret (v := .tuple #[.agg #[.bool bh, .slice Ah nh ch], .int .i64 0]) (by simp [results, Try.results56, go_sem, g0, g1]) rfl ⟨_, _, _, _, rfl, HZ.out, below_put cc (by omega) _ _⟩

theorem rnear_N {w : World} {b0 : Bool} {A0 B0 : Option Addr} {n0 c0 m0 d0 : Nat} {x0 : Rat} (hx : Rt w b0 A0 n0 c0 B0 m0 d0 x0) (s0 : Sz x0 15) {j : Int} (h0 : 0 ≤ j) (h1 : j ≤ 500) :
    Calls Try.prog 56 #[.agg #[.bool b0, .slice A0 n0 c0, .slice B0 m0 d0], .int .i64 j] w (GotZp w (nea x0 j.toNat) 0) := by
  by_cases hc : cmpQ (x0 - bak (flo x0 j.toNat) j.toNat) (bak (cei x0 j.toNat) j.toNat - x0) < 0
  · exact rnear_lt hx s0 h0 h1 hc
  · by_cases he : cmpQ (x0 - bak (flo x0 j.toNat) j.toNat) (bak (cei x0 j.toNat) j.toNat - x0) = 0
    · by_cases h2 : flo x0 j.toNat % 2 = 0
      · exact rnear_even hx s0 h0 h1 he h2
      · exact rnear_odd hx s0 h0 h1 he h2
    · exact rnear_gt hx s0 h0 h1 hc he

end Go.Proofs.Ytckdbcngnghhiaa

/-
  The contracts of the eighth reference: near, frac, Of, Rat.
-/
namespace Go.Proofs.Ytckdbcngnghhiaa
set_option maxRecDepth 100000
set_option maxHeartbeats 8000000
open Go.RowKit
set_option linter.unusedVariables false
set_option linter.unusedSimpArgs false

/-- What is told of a whole number: itself, where 64 bits hold it; else 0 and ErrRange. -/
def nI (z : Int) : Int := if -9223372036854775808 ≤ z ∧ z ≤ 9223372036854775807 then z else 0
def nE (z : Int) : Int := if -9223372036854775808 ≤ z ∧ z ≤ 9223372036854775807 then 0 else 2
theorem nI_yes {z : Int} (h : I64 z) : nI z = z ∧ nE z = 0 := ⟨if_pos h, if_pos h⟩
theorem nI_no {z : Int} (h : ¬ I64 z) : nI z = 0 ∧ nE z = 2 := ⟨if_neg h, if_neg h⟩

theorem near_yes {w : World} {b0 : Bool} {A0 B0 : Option Addr} {n0 c0 m0 d0 : Nat} {x0 : Rat} (h0 : Rt w b0 A0 n0 c0 B0 m0 d0 x0) (s0 : Sz x0 15) {j : Int} (j0 : 0 ≤ j) (j1 : j ≤ 500) (hi : I64 (nea x0 j.toNat)) :
    Calls Try.prog 33 #[.agg #[.bool b0, .slice A0 n0 c0, .slice B0 m0 d0], .int .i64 j] w (GotV w (.tuple #[.int .i64 (nea x0 j.toNat), .int .i64 (0)])) := by
  have lz_ := nea_len s0 (show j.toNat ≤ 500 by omega)
  have cc := Below.refl w.heap.size w
  go_enter Try.func33, Try.ntmps33
  go_wp2_with fail
  generalize hv_ : w.alloc (.cells #[.bool b0, .slice A0 n0 c0, .slice B0 m0 d0] 40) = v1
  have bA : Below w.heap.size w v1 := by rw [← hv_]; exact ((Below.refl _ w).alloc (by simp) _)
  replace h0 := h0.on bA
  replace cc := bK cc bA
  clear bA
  obtain ⟨ka0, ka1, ka2⟩ : Cs3 v1 w.heap.size (.bool b0) (.slice A0 n0 c0) (.slice B0 m0 d0) := by simp [Cs3, ← hv_, go_sem]
  have kal : w.heap.size < v1.heap.size := by simp [← hv_] <;> omega
  clear hv_
  refine (rnear_N h0 s0 j0 j1).mono ?_
  rintro e w2 ⟨bz, Az, nz, cz, rfl, hz, b⟩
  replace h0 := h0.on b
  rewrite [cR b kal] at ka0 ka1 ka2
  replace kal := lK b kal
  replace cc := bK cc b
  clear b
  go_wp2_with fail
  generalize hv_ : w2.alloc (.cells #[.bool bz, .slice Az nz cz] 38) = v3
  have bA : Below w2.heap.size w2 v3 := by rw [← hv_]; exact below_one _ _
  replace h0 := h0.on bA
  replace hz := hz.on bA
  rewrite [cR bA kal] at ka0 ka1 ka2
  replace kal := lK bA kal
  replace cc := bK cc bA
  clear bA
  obtain ⟨zb0, zb1⟩ : Cs2 v3 w2.heap.size (.bool bz) (.slice Az nz cz) := by simp [Cs2, ← hv_, go_sem]
  have zbl : w2.heap.size < v3.heap.size := by simp [← hv_]
  clear hv_
  refine (rzint_yes hz hi).mono ?_
  rintro e w4 ⟨rfl, b⟩
  replace h0 := h0.on b
  replace hz := hz.on b
  rewrite [cR b kal] at ka0 ka1 ka2
  replace kal := lK b kal
  rewrite [cR b zbl] at zb0 zb1
  replace zbl := lK b zbl
  replace cc := bK cc b
  clear b
  go_wp2_with fail
  go_ret2
  exact ⟨rfl, cc⟩

theorem near_no {w : World} {b0 : Bool} {A0 B0 : Option Addr} {n0 c0 m0 d0 : Nat} {x0 : Rat} (h0 : Rt w b0 A0 n0 c0 B0 m0 d0 x0) (s0 : Sz x0 15) {j : Int} (j0 : 0 ≤ j) (j1 : j ≤ 500) (hi : ¬ I64 (nea x0 j.toNat)) :
    Calls Try.prog 33 #[.agg #[.bool b0, .slice A0 n0 c0, .slice B0 m0 d0], .int .i64 j] w (GotV w (.tuple #[.int .i64 (0), .int .i64 (2)])) := by
  have lz_ := nea_len s0 (show j.toNat ≤ 500 by omega)
  have cc := Below.refl w.heap.size w
  go_enter Try.func33, Try.ntmps33
  go_wp2_with fail
  generalize hv_ : w.alloc (.cells #[.bool b0, .slice A0 n0 c0, .slice B0 m0 d0] 40) = v1
  have bA : Below w.heap.size w v1 := by rw [← hv_]; exact ((Below.refl _ w).alloc (by simp) _)
  replace h0 := h0.on bA
  replace cc := bK cc bA
  clear bA
  obtain ⟨ka0, ka1, ka2⟩ : Cs3 v1 w.heap.size (.bool b0) (.slice A0 n0 c0) (.slice B0 m0 d0) := by simp [Cs3, ← hv_, go_sem]
  have kal : w.heap.size < v1.heap.size := by simp [← hv_] <;> omega
  clear hv_
  refine (rnear_N h0 s0 j0 j1).mono ?_
  rintro e w2 ⟨bz, Az, nz, cz, rfl, hz, b⟩
  replace h0 := h0.on b
  rewrite [cR b kal] at ka0 ka1 ka2
  replace kal := lK b kal
  replace cc := bK cc b
  clear b
  go_wp2_with fail
  generalize hv_ : w2.alloc (.cells #[.bool bz, .slice Az nz cz] 38) = v3
  have bA : Below w2.heap.size w2 v3 := by rw [← hv_]; exact below_one _ _
  replace h0 := h0.on bA
  replace hz := hz.on bA
  rewrite [cR bA kal] at ka0 ka1 ka2
  replace kal := lK bA kal
  replace cc := bK cc bA
  clear bA
  obtain ⟨zb0, zb1⟩ : Cs2 v3 w2.heap.size (.bool bz) (.slice Az nz cz) := by simp [Cs2, ← hv_, go_sem]
  have zbl : w2.heap.size < v3.heap.size := by simp [← hv_]
  clear hv_
  refine (rzint_no hz (Nat.le_trans lz_ (by omega)) hi).mono ?_
  rintro e w4 ⟨rfl, b⟩
  replace h0 := h0.on b
  replace hz := hz.on b
  rewrite [cR b kal] at ka0 ka1 ka2
  replace kal := lK b kal
  rewrite [cR b zbl] at zb0 zb1
  replace zbl := lK b zbl
  replace cc := bK cc b
  clear b
  go_wp2_with fail
  go_ret2
  exact ⟨rfl, cc⟩

theorem near_N {w : World} {b0 : Bool} {A0 B0 : Option Addr} {n0 c0 m0 d0 : Nat} {x0 : Rat} (h0 : Rt w b0 A0 n0 c0 B0 m0 d0 x0) (s0 : Sz x0 15) {j : Int} (j0 : 0 ≤ j) (j1 : j ≤ 500) :
    Calls Try.prog 33 #[.agg #[.bool b0, .slice A0 n0 c0, .slice B0 m0 d0], .int .i64 j] w (GotV w (.tuple #[.int .i64 (nI (nea x0 j.toNat)), .int .i64 (nE (nea x0 j.toNat))])) := by
  by_cases hi : I64 (nea x0 j.toNat)
  · rw [(nI_yes hi).1, (nI_yes hi).2]; exact near_yes h0 s0 j0 j1 hi
  · rw [(nI_no hi).1, (nI_no hi).2]; exact near_no h0 s0 j0 j1 hi

theorem frac_2 (w : World) {j : Int} (h0 : 0 ≤ j) (h1 : j ≤ 40) :
    Calls Try.prog 53 #[.int .i64 j] w (GotV w (.bool true)) := by
  have t1 : decide (0 ≤ j) = true := decide_eq_true h0
  have t2 : decide (j ≤ 40) = true := decide_eq_true (by omega)
  go_enter Try.func53, Try.ntmps53
  go_wp2_with fail
  go_ret
  exact ⟨rfl, Below.refl _ _⟩

theorem rrat8_N {w : World} {a j : Int} (ha : I64 a) (j0 : 0 ≤ j) (j1 : j ≤ 40) :
    Calls Try.prog 32 #[.int .i64 a, .int .i64 j] w (GotRp w (bak a j.toNat) 0) := by
  have cc := Below.refl w.heap.size w
  go_enter Try.func32, Try.ntmps32
  go_wp2_with fail
  generalize hv_ : w.alloc (.cells #[.bool false, .slice none 0 0, .slice none 0 0] 40) = v1
  obtain ⟨f0, f1, f2⟩ : Fz3 v1 w.heap.size := by simp [Fz3, ← hv_, go_sem]
  have bA : Below w.heap.size w v1 := by rw [← hv_]; exact ((Below.refl _ w).alloc (by simp) _)
  replace cc := bK cc bA
  clear bA
  obtain ⟨g_0, g_1, g_2⟩ : Cs3 v1 w.heap.size (.bool false) (.slice none 0 0) (.slice none 0 0) := by simp [Cs3, ← hv_, go_sem]
  have g_l : w.heap.size < v1.heap.size := by simp [← hv_] <;> omega
  clear hv_
  refine (frac_2 _ j0 j1).mono ?_
  rintro e w2 ⟨rfl, b⟩
  rewrite [fR b g_l] at f0 f1 f2
  rewrite [cR b g_l] at g_0 g_1 g_2
  replace g_l := lK b g_l
  replace cc := bK cc b
  clear b
  go_wp2_with fail
  refine (rzof_N _ a ha).mono ?_
  rintro e w3 ⟨bz, Az, nz, cz, rfl, hz, b⟩
  rewrite [fR b g_l] at f0 f1 f2
  rewrite [cR b g_l] at g_0 g_1 g_2
  replace g_l := lK b g_l
  replace cc := bK cc b
  clear b
  go_wp2_with fail
  refine (rback_N hz (Nat.le_trans (len_one ha.abs) (by omega)) j0 (by omega)).mono ?_
  rintro e w4 ⟨bx, Ax, nx, cx, Bx, mx, dx, rfl, hx, b⟩
  rewrite [fR b g_l] at f0 f1 f2
  replace hz := hz.on b
  rewrite [cR b g_l] at g_0 g_1 g_2
  replace g_l := lK b g_l
  replace cc := bK cc b
  clear b
  have hn : Rt w4 bx Ax nx cx Bx mx dx (bak a j.toNat) := hx
  have eb : BoxR w4 (w.heap.size) false none 0 0 none 0 0 := ⟨g_0, g_1, g_2⟩
  have HZ : Hid (Rt (putR w4 (w.heap.size) (.bool bx) (.slice Ax nx cx) (.slice Bx mx dx)) bx Ax nx cx Bx mx dx (bak a j.toNat)) := Lib.hid (Rt.putR hn eb _ _ _)
  clear hn
  go_wp2_with fail
  refine bodyPost_ret (v := .tuple #[.agg #[.bool bx, .slice Ax nx cx, .slice Bx mx dx], .int .i64 0]) (by simp [results, Try.results32, go_sem, g_0, g_1, g_2]) rfl ⟨_, _, _, _, _, _, _, rfl, HZ.out, below_putR cc (by omega) _ _ _⟩

end Go.Proofs.Ytckdbcngnghhiaa

/-
  Numbers that are reckoned, with a word on whether all was there: as 64 bits hold them.
-/
namespace Go.Proofs.Ytckdbcngnghhiaa
set_option linter.unusedVariables false
set_option linter.unusedSimpArgs false

instance i64_dec (z : Int) : Decidable (I64 z) := by unfold I64; exact inferInstance
theorem nI_i64 (z : Int) : I64 (nI z) := by
  by_cases h : I64 z
  · rw [(nI_yes h).1]; exact h
  · rw [(nI_no h).1]; unfold I64; omega
/-- A number that is reckoned: itself, and whether all was there. -/
abbrev Nm := Int × Bool
def nOf (x : Int) : Nm := (x, true)
def nAdd (a b : Nm) : Nm := (nI (a.1 + b.1), a.2 && b.2 && decide (I64 (a.1 + b.1)))
def nSub (a b : Nm) : Nm := (nI (a.1 - b.1), a.2 && b.2 && decide (I64 (a.1 - b.1)))
def nMul (f : Nat) (a b : Nm) : Nm := (nI (rn (a.1 * b.1) (2 ^ f)), a.2 && b.2 && decide (I64 (rn (a.1 * b.1) (2 ^ f))))
/-- A step: d, the new velocity, what it is reckoned by, the new weight. -/
def stD (wd : Int) (f : Nat) (w g : Int) : Nm := nAdd (nOf g) (nMul f (nOf wd) (nOf w))
def stV (mu wd : Int) (f : Nat) (w v g : Int) : Nm := nAdd (nMul f (nOf mu) (nOf v)) (stD wd f w g)
def stU (mu wd : Int) (nest : Bool) (f : Nat) (w v g : Int) : Nm := if nest = true then nAdd (stD wd f w g) (nMul f (nOf mu) (stV mu wd f w v g)) else stV mu wd f w v g
def stW (lr mu wd : Int) (nest : Bool) (f : Nat) (w v g : Int) : Nm := nSub (nOf w) (nMul f (nOf lr) (stU mu wd nest f w v g))
theorem nAdd_i64 (a b : Nm) : I64 (nAdd a b).1 := nI_i64 _
theorem nSub_i64 (a b : Nm) : I64 (nSub a b).1 := nI_i64 _
theorem nMul_i64 (f : Nat) (a b : Nm) : I64 (nMul f a b).1 := nI_i64 _
/-- Is a Mom right? -/
def OkM17 (lr mu wd f : Int) : Prop := 0 ≤ f ∧ f ≤ 40 ∧ 0 ≤ lr ∧ 0 ≤ mu ∧ mu < ((2 ^ f.toNat : Nat) : Int) ∧ 0 ≤ wd ∧ wd ≤ ((2 ^ f.toNat : Nat) : Int)
instance (lr mu wd f : Int) : Decidable (OkM17 lr mu wd f) := by unfold OkM17; exact inferInstance
/-- All new velocities and weights, or nothing; may they be? -/
def rowV (mu wd : Int) (f : Nat) : List Int → List Int → List Int → List Int
  | w :: W, v :: V, g :: G => (stV mu wd f w v g).1 :: rowV mu wd f W V G
  | _, _, _ => []
def rowW (lr mu wd : Int) (nest : Bool) (f : Nat) : List Int → List Int → List Int → List Int
  | w :: W, v :: V, g :: G => (stW lr mu wd nest f w v g).1 :: rowW lr mu wd nest f W V G
  | _, _, _ => []
def rowOK (lr mu wd : Int) (nest : Bool) (f : Nat) : List Int → List Int → List Int → Bool
  | w :: W, v :: V, g :: G => (stW lr mu wd nest f w v g).2 && (stV mu wd f w v g).2 && rowOK lr mu wd nest f W V G
  | _, _, _ => true
theorem stW_stV (lr mu wd : Int) (nest : Bool) (f : Nat) (w v g : Int) (h : (stW lr mu wd nest f w v g).2 = true) : (stU mu wd nest f w v g).2 = true := by
  unfold stW nSub nMul nOf at h
  simp only [Bool.and_eq_true, Bool.true_and, decide_eq_true_eq] at h
  exact h.1.1
end Go.Proofs.Ytckdbcngnghhiaa
