/-
  Several texts in one: F6, F7, DX, M8.
-/
import Derived.Test.YtmaolhajeoigpaaGreatA4
import Derived.Test.YtmaolhajeoigpaaGreatA5
import Derived.Test.YtmaolhajeoigpaaGreatA2
import Derived.Test.YtmaolhajeoigpaaGreatA3

/-
  The contracts of the sixth reference: Back, Floor, Ceil.
-/
namespace Go.Proofs.YtmaolhajeoigpaaGreat
set_option maxRecDepth 100000
set_option maxHeartbeats 8000000
open Go.RowKit
set_option linter.unusedVariables false
set_option linter.unusedSimpArgs false

/-- A call has answered an integer and a code. -/
def GotZp (w : World) (z : Int) (r : Int) (e : Ending) (w' : World) : Prop := ∃ b A n c, e = .returned (.tuple #[.agg #[.bool b, .slice A n c], .int .i64 r]) ∧ Zn w' b A n c z ∧ Below w.heap.size w w'
theorem len_pow2 {k : Nat} (h : k ≤ 500) : (limbs (2 ^ k)).length ≤ 8 := by
  refine Nat.le_trans (limbs_length_le (k := k / 64 + 1) ?_) (by omega)
  rw [show B64 = 2 ^ 64 from rfl, ← Nat.pow_mul]
  exact Nat.pow_lt_pow_right (by omega) (by omega)
theorem to_nat {j : Int} (h : 0 ≤ j) : ((j.toNat : Nat) : Int) = j := Int.toNat_of_nonneg h
theorem zn_none (w : World) : Zn w false none 0 0 0 := ⟨num_zero w, rfl⟩

theorem rback_N {w : World} {b : Bool} {A : Option Addr} {n c : Nat} {z : Int} (ha : Zn w b A n c z) (hz : (limbs z.natAbs).length ≤ 80) {j : Int} (h0 : 0 ≤ j) (h1 : j ≤ 500) :
    Calls Tryz.prog 69 #[.agg #[.bool b, .slice A n c], .int .i64 j] w (GotRp w (bak z j.toNat) 0) := by
  have t1 : decide (j < 0) = false := decide_eq_false (by omega)
  have t2 : decide (2000 < j) = false := decide_eq_false (by omega)
  have je := to_nat h0
  have jl : j.toNat ≤ 500 := by omega
  obtain ⟨k, hk⟩ : ∃ k, j.toNat = k := ⟨_, rfl⟩
  rw [hk] at je jl ⊢
  have lk := len_pow2 jl
  have CS : ∀ {W : World} {A : Option Addr} {m c x : Nat}, Num W A m c x → (limbs x).length ≤ 1000 → Calls Tryz.prog 65 #[.slice A m c, .int .i64 j] W (GotP W (x * 2 ^ k) 0) := fun ha hx => by rw [← je]; exact rshl_N ha hx (by omega)
  clear hk
  have hp : 2 ^ k ≠ 0 := Nat.ne_of_gt (Nat.pow_pos (by omega))
  have l1 : (limbs 1).length ≤ 1000 := Nat.le_trans (len_one (by decide)) (by omega)
  clear je h0 h1
  have cc := Below.refl w.heap.size w
  go_enter Tryz.func69, Tryz.ntmps69
  go_wp2_with fail
  generalize hv_ : (w.alloc (.cells #[.bool b, .slice A n c] 49)).alloc (.cells #[.bool false, .slice none 0 0, .slice none 0 0] 51) = v1
  obtain ⟨f0, f1, f2⟩ : Fz3 v1 (w.heap.size + 1) := by simp [Fz3, ← hv_, go_sem]
  have bA : Below w.heap.size w v1 := by rw [← hv_]; exact (((Below.refl _ w).alloc (by simp) _).alloc (by simp) _)
  replace ha := ha.on bA
  replace cc := bK cc bA
  clear bA
  obtain ⟨k0, k1⟩ : Cs2 v1 w.heap.size (.bool b) (.slice A n c) := by simp [Cs2, ← hv_, go_sem]
  have kl : w.heap.size < v1.heap.size := by simp [← hv_] <;> omega
  obtain ⟨g0, g1, g2⟩ : Cs3 v1 (w.heap.size + 1) (.bool false) (.slice none 0 0) (.slice none 0 0) := by simp [Cs3, ← hv_, go_sem]
  have gl : w.heap.size + 1 < v1.heap.size := by simp [← hv_] <;> omega
  clear hv_
  refine (rof_N v1 1 (by decide)).mono ?_
  rintro e w2 ⟨Ao, no, co, rfl, o, b⟩
  rewrite [fR b gl] at f0 f1 f2
  replace ha := ha.on b
  rewrite [cR b kl] at k0 k1
  replace kl := lK b kl
  rewrite [cR b gl] at g0 g1 g2
  replace gl := lK b gl
  replace cc := bK cc b
  clear b
  go_wp2_with fail
  refine (CS o l1).mono ?_
  rintro e w3 ⟨Aq, nq, cq, rfl, q, b⟩
  rw [Nat.one_mul] at q
  rewrite [fR b gl] at f0 f1 f2
  replace ha := ha.on b
  replace o := o.on b
  rewrite [cR b kl] at k0 k1
  replace kl := lK b kl
  rewrite [cR b gl] at g0 g1 g2
  replace gl := lK b gl
  replace cc := bK cc b
  clear b
  go_wp2_with fail
  refine (rtmake_N ha q hp (by omega) (by omega)).mono ?_
  rintro e w4 ⟨bm, Am, nm, cm, Bm, mm, dm, rfl, hm, b⟩
  rewrite [fR b gl] at f0 f1 f2
  replace ha := ha.on b
  replace o := o.on b
  replace q := q.on b
  rewrite [cR b kl] at k0 k1
  replace kl := lK b kl
  rewrite [cR b gl] at g0 g1 g2
  replace gl := lK b gl
  replace cc := bK cc b
  clear b
  have hn : Rt w4 bm Am nm cm Bm mm dm (bak z k) := hm
  have eb : BoxR w4 (w.heap.size + 1) false none 0 0 none 0 0 := ⟨g0, g1, g2⟩
  have HZ : Hid (Rt (putR w4 (w.heap.size + 1) (.bool bm) (.slice Am nm cm) (.slice Bm mm dm)) bm Am nm cm Bm mm dm (bak z k)) := Lib.hid (Rt.putR hn eb _ _ _)
  clear hn
  go_wp2_with fail
  refine bodyPost_ret (v := .tuple #[.agg #[.bool bm, .slice Am nm cm, .slice Bm mm dm], .int .i64 0]) (by simp [results, Tryz.results69, go_sem, g0, g1, g2]) rfl ⟨_, _, _, _, _, _, _, rfl, HZ.out, below_putR cc (by omega) _ _ _⟩

theorem rback_no0 {w : World} {b : Bool} {A : Option Addr} {n c : Nat} {j : Int} (h : j < 0) :
    Calls Tryz.prog 69 #[.agg #[.bool b, .slice A n c], .int .i64 j] w (GotV w (.tuple #[.agg #[.bool false, .slice none 0 0, .slice none 0 0], .int .i64 1])) := by
  have t1 : decide (j < 0) = true := decide_eq_true h
  have cc := Below.refl w.heap.size w
  go_enter Tryz.func69, Tryz.ntmps69
  go_wp2_with fail
  generalize hv_ : (w.alloc (.cells #[.bool b, .slice A n c] 49)).alloc (.cells #[.bool false, .slice none 0 0, .slice none 0 0] 51) = v1
  obtain ⟨f0, f1, f2⟩ : Fz3 v1 (w.heap.size + 1) := by simp [Fz3, ← hv_, go_sem]
  have bA : Below w.heap.size w v1 := by rw [← hv_]; exact (((Below.refl _ w).alloc (by simp) _).alloc (by simp) _)
  replace cc := bK cc bA
  clear bA
  obtain ⟨k0, k1⟩ : Cs2 v1 w.heap.size (.bool b) (.slice A n c) := by simp [Cs2, ← hv_, go_sem]
  have kl : w.heap.size < v1.heap.size := by simp [← hv_] <;> omega
  obtain ⟨g0, g1, g2⟩ : Cs3 v1 (w.heap.size + 1) (.bool false) (.slice none 0 0) (.slice none 0 0) := by simp [Cs3, ← hv_, go_sem]
  have gl : w.heap.size + 1 < v1.heap.size := by simp [← hv_] <;> omega
  clear hv_
  exact bodyPost_ret (v := .tuple #[.agg #[.bool false, .slice none 0 0, .slice none 0 0], .int .i64 1]) (by simp [results, Tryz.results69, go_sem, g0, g1, g2]) rfl ⟨rfl, cc⟩

theorem rback_no1 {w : World} {b : Bool} {A : Option Addr} {n c : Nat} {j : Int} (h : 2000 < j) :
    Calls Tryz.prog 69 #[.agg #[.bool b, .slice A n c], .int .i64 j] w (GotV w (.tuple #[.agg #[.bool false, .slice none 0 0, .slice none 0 0], .int .i64 1])) := by
  have t1 : decide (j < 0) = false := decide_eq_false (by omega)
  have t2 : decide (2000 < j) = true := decide_eq_true h
  have cc := Below.refl w.heap.size w
  go_enter Tryz.func69, Tryz.ntmps69
  go_wp2_with fail
  generalize hv_ : (w.alloc (.cells #[.bool b, .slice A n c] 49)).alloc (.cells #[.bool false, .slice none 0 0, .slice none 0 0] 51) = v1
  obtain ⟨f0, f1, f2⟩ : Fz3 v1 (w.heap.size + 1) := by simp [Fz3, ← hv_, go_sem]
  have bA : Below w.heap.size w v1 := by rw [← hv_]; exact (((Below.refl _ w).alloc (by simp) _).alloc (by simp) _)
  replace cc := bK cc bA
  clear bA
  obtain ⟨k0, k1⟩ : Cs2 v1 w.heap.size (.bool b) (.slice A n c) := by simp [Cs2, ← hv_, go_sem]
  have kl : w.heap.size < v1.heap.size := by simp [← hv_] <;> omega
  obtain ⟨g0, g1, g2⟩ : Cs3 v1 (w.heap.size + 1) (.bool false) (.slice none 0 0) (.slice none 0 0) := by simp [Cs3, ← hv_, go_sem]
  have gl : w.heap.size + 1 < v1.heap.size := by simp [← hv_] <;> omega
  clear hv_
  exact bodyPost_ret (v := .tuple #[.agg #[.bool false, .slice none 0 0, .slice none 0 0], .int .i64 1]) (by simp [results, Tryz.results69, go_sem, g0, g1, g2]) rfl ⟨rfl, cc⟩

theorem rback_no {w : World} {b : Bool} {A : Option Addr} {n c : Nat} {j : Int} (h : j < 0 ∨ 2000 < j) :
    Calls Tryz.prog 69 #[.agg #[.bool b, .slice A n c], .int .i64 j] w (GotV w (.tuple #[.agg #[.bool false, .slice none 0 0, .slice none 0 0], .int .i64 1])) := by
  rcases h with h | h
  · exact rback_no0 h
  · exact rback_no1 h

theorem rfloor_pos {w : World} {b0 : Bool} {A0 B0 : Option Addr} {n0 c0 m0 d0 : Nat} {x0 : Rat} (hx : Rt w b0 A0 n0 c0 B0 m0 d0 x0) (s0 : Sz x0 30) {j : Int} (h0 : 0 ≤ j) (h1 : j ≤ 500) (hs : ¬ x0.num < 0) :
    Calls Tryz.prog 91 #[.agg #[.bool b0, .slice A0 n0 c0, .slice B0 m0 d0], .int .i64 j] w (GotZp w (flo x0 j.toNat) 0) := by
  have t1 : decide (j < 0) = false := decide_eq_false (by omega)
  have t2 : decide (2000 < j) = false := decide_eq_false (by omega)
  have je := to_nat h0
  have jl : j.toNat ≤ 500 := by omega
  obtain ⟨k, hk⟩ : ∃ k, j.toNat = k := ⟨_, rfl⟩
  rw [hk] at je jl ⊢
  have lk := len_pow2 jl
  have CS : ∀ {W : World} {A : Option Addr} {m c x : Nat}, Num W A m c x → (limbs x).length ≤ 1000 → Calls Tryz.prog 65 #[.slice A m c, .int .i64 j] W (GotP W (x * 2 ^ k) 0) := fun ha hx => by rw [← je]; exact rshl_N ha hx (by omega)
  clear hk
  have p0 := hx.1.1
  have q0 := hx.2
  have hb0 : b0 = false := by rw [hx.1.2]; exact decide_eq_false hs
  subst hb0
  have lp := s0.1
  have lq := s0.2
  have hq0 := x0.den_nz
  have lu : (limbs (x0.num.natAbs * 2 ^ k)).length ≤ 38 := limbs_length_mul lp lk
  have ld : (limbs (x0.num.natAbs * 2 ^ k / x0.den)).length ≤ 38 := Nat.le_trans (limbs_length_mono (Nat.div_le_self _ _)) lu
  obtain ⟨u, hU⟩ : ∃ u, x0.num.natAbs * 2 ^ k = u := ⟨_, rfl⟩
  have HF : Hid (flo x0 k = ((u / x0.den : Nat) : Int)) := Lib.hid (by rw [← hU]; exact flo_pos x0 k hs)
  rw [hU] at lu ld
  have CU : ∀ {W : World} {A : Option Addr} {m c : Nat}, Num W A m c x0.num.natAbs → Calls Tryz.prog 65 #[.slice A m c, .int .i64 j] W (GotP W u 0) := fun ha => by rw [← hU]; exact CS ha (by omega)
  clear hU CS hs je h0 h1
  have cc := Below.refl w.heap.size w
  go_enter Tryz.func91, Tryz.ntmps91
  go_wp2_with fail
  generalize hv_ : (w.alloc (.cells #[.bool false, .slice A0 n0 c0, .slice B0 m0 d0] 51)).alloc (.cells #[.bool false, .slice none 0 0] 49) = v1
  obtain ⟨f0, f1⟩ : Fz2 v1 (w.heap.size + 1) := by simp [Fz2, ← hv_, go_sem]
  have bA : Below w.heap.size w v1 := by rw [← hv_]; exact (((Below.refl _ w).alloc (by simp) _).alloc (by simp) _)
  replace p0 := p0.on bA
  replace q0 := q0.on bA
  replace cc := bK cc bA
  clear bA
  obtain ⟨k0, k1, k2⟩ : Cs3 v1 w.heap.size (.bool false) (.slice A0 n0 c0) (.slice B0 m0 d0) := by simp [Cs3, ← hv_, go_sem]
  have kl : w.heap.size < v1.heap.size := by simp [← hv_] <;> omega
  obtain ⟨g0, g1⟩ : Cs2 v1 (w.heap.size + 1) (.bool false) (.slice none 0 0) := by simp [Cs2, ← hv_, go_sem]
  have gl : w.heap.size + 1 < v1.heap.size := by simp [← hv_] <;> omega
  clear hv_
  refine (CU p0).mono ?_
  rintro e w2 ⟨Av, nv, cv, rfl, v, b⟩
  rewrite [fR b gl] at f0 f1
  replace p0 := p0.on b
  replace q0 := q0.on b
  rewrite [cR b kl] at k0 k1 k2
  replace kl := lK b kl
  rewrite [cR b gl] at g0 g1
  replace gl := lK b gl
  replace cc := bK cc b
  clear b
  go_wp2_with fail
  refine (rdiv_N v q0 (by omega) (by omega) hq0).mono ?_
  rintro e w3 ⟨Aq, nq, cq, Ar, nr_, cr, rfl, dq, dr, b⟩
  rewrite [fR b gl] at f0 f1
  replace p0 := p0.on b
  replace q0 := q0.on b
  replace v := v.on b
  rewrite [cR b kl] at k0 k1 k2
  replace kl := lK b kl
  rewrite [cR b gl] at g0 g1
  replace gl := lK b gl
  replace cc := bK cc b
  clear b
  have hn : Zn w3 false Aq nq cq (flo x0 k) := by rw [HF.out]; exact zn_nat dq
  have eb : Box w3 (w.heap.size + 1) false none 0 0 := ⟨g0, g1⟩
  have HZ : Hid (Zn ((w3.setCell ⟨w.heap.size + 1, 0, none⟩ (.bool false)).setCell ⟨w.heap.size + 1, 1, none⟩ (.slice Aq nq cq)) false Aq nq cq (flo x0 k)) := Lib.hid (hn.put eb _ _)
  clear hn
  go_wp2_with fail
  refine bodyPost_ret (v := .tuple #[.agg #[.bool false, .slice Aq nq cq], .int .i64 0]) (by simp [results, Tryz.results91, go_sem, g0, g1]) rfl ⟨_, _, _, _, rfl, HZ.out, below_put cc (by omega) _ _⟩

theorem rfloor_neg0 {w : World} {b0 : Bool} {A0 B0 : Option Addr} {n0 c0 m0 d0 : Nat} {x0 : Rat} (hx : Rt w b0 A0 n0 c0 B0 m0 d0 x0) (s0 : Sz x0 30) {j : Int} (h0 : 0 ≤ j) (h1 : j ≤ 500) (hs : x0.num < 0) (hr : x0.num.natAbs * 2 ^ j.toNat % x0.den = 0) :
    Calls Tryz.prog 91 #[.agg #[.bool b0, .slice A0 n0 c0, .slice B0 m0 d0], .int .i64 j] w (GotZp w (flo x0 j.toNat) 0) := by
  have t1 : decide (j < 0) = false := decide_eq_false (by omega)
  have t2 : decide (2000 < j) = false := decide_eq_false (by omega)
  have je := to_nat h0
  have jl : j.toNat ≤ 500 := by omega
  obtain ⟨k, hk⟩ : ∃ k, j.toNat = k := ⟨_, rfl⟩
  rw [hk] at je jl hr ⊢
  have lk := len_pow2 jl
  have CS : ∀ {W : World} {A : Option Addr} {m c x : Nat}, Num W A m c x → (limbs x).length ≤ 1000 → Calls Tryz.prog 65 #[.slice A m c, .int .i64 j] W (GotP W (x * 2 ^ k) 0) := fun ha hx => by rw [← je]; exact rshl_N ha hx (by omega)
  clear hk
  have p0 := hx.1.1
  have q0 := hx.2
  have hb0 : b0 = true := by rw [hx.1.2]; exact decide_eq_true hs
  subst hb0
  have lp := s0.1
  have lq := s0.2
  have hq0 := x0.den_nz
  have lu : (limbs (x0.num.natAbs * 2 ^ k)).length ≤ 38 := limbs_length_mul lp lk
  have ld : (limbs (x0.num.natAbs * 2 ^ k / x0.den)).length ≤ 38 := Nat.le_trans (limbs_length_mono (Nat.div_le_self _ _)) lu
  obtain ⟨u, hU⟩ : ∃ u, x0.num.natAbs * 2 ^ k = u := ⟨_, rfl⟩
  have HF : Hid (flo x0 k = -((u / x0.den : Nat) : Int)) := Lib.hid (by rw [flo_neg x0 k hs, hU, if_pos (by rw [← hU]; exact hr), Nat.add_zero])
  have HR : Hid (u % x0.den = 0) := Lib.hid (by rw [← hU]; exact hr)
  rw [hU] at lu ld
  have CU : ∀ {W : World} {A : Option Addr} {m c : Nat}, Num W A m c x0.num.natAbs → Calls Tryz.prog 65 #[.slice A m c, .int .i64 j] W (GotP W u 0) := fun ha => by rw [← hU]; exact CS ha (by omega)
  clear hU CS hs je h0 h1 hr
  have cc := Below.refl w.heap.size w
  go_enter Tryz.func91, Tryz.ntmps91
  go_wp2_with fail
  generalize hv_ : (w.alloc (.cells #[.bool true, .slice A0 n0 c0, .slice B0 m0 d0] 51)).alloc (.cells #[.bool false, .slice none 0 0] 49) = v1
  obtain ⟨f0, f1⟩ : Fz2 v1 (w.heap.size + 1) := by simp [Fz2, ← hv_, go_sem]
  have bA : Below w.heap.size w v1 := by rw [← hv_]; exact (((Below.refl _ w).alloc (by simp) _).alloc (by simp) _)
  replace p0 := p0.on bA
  replace q0 := q0.on bA
  replace cc := bK cc bA
  clear bA
  obtain ⟨k0, k1, k2⟩ : Cs3 v1 w.heap.size (.bool true) (.slice A0 n0 c0) (.slice B0 m0 d0) := by simp [Cs3, ← hv_, go_sem]
  have kl : w.heap.size < v1.heap.size := by simp [← hv_] <;> omega
  obtain ⟨g0, g1⟩ : Cs2 v1 (w.heap.size + 1) (.bool false) (.slice none 0 0) := by simp [Cs2, ← hv_, go_sem]
  have gl : w.heap.size + 1 < v1.heap.size := by simp [← hv_] <;> omega
  clear hv_
  refine (CU p0).mono ?_
  rintro e w2 ⟨Av, nv, cv, rfl, v, b⟩
  rewrite [fR b gl] at f0 f1
  replace p0 := p0.on b
  replace q0 := q0.on b
  rewrite [cR b kl] at k0 k1 k2
  replace kl := lK b kl
  rewrite [cR b gl] at g0 g1
  replace gl := lK b gl
  replace cc := bK cc b
  clear b
  go_wp2_with fail
  refine (rdiv_N v q0 (by omega) (by omega) hq0).mono ?_
  rintro e w3 ⟨Aq, nq, cq, Ar, nr_, cr, rfl, dq, dr, b⟩
  rewrite [fR b gl] at f0 f1
  replace p0 := p0.on b
  replace q0 := q0.on b
  replace v := v.on b
  rewrite [cR b kl] at k0 k1 k2
  replace kl := lK b kl
  rewrite [cR b gl] at g0 g1
  replace gl := lK b gl
  replace cc := bK cc b
  clear b
  have hz := dr.len
  rw [HR.out, limbs_zero] at hz
  simp only [List.length_nil] at hz
  subst hz
  have zq := zn_nat dq
  have lz : (limbs ((u / x0.den : Nat) : Int).natAbs).length ≤ 1000000 := by rw [Int.natAbs_natCast]; omega
  go_wp2_with fail
  refine (rzneg_N zq lz).mono ?_
  rintro e w4 ⟨bm, Am, nm, cm, rfl, hm, b⟩
  rewrite [fR b gl] at f0 f1
  replace p0 := p0.on b
  replace q0 := q0.on b
  replace v := v.on b
  replace dq := dq.on b
  replace dr := dr.on b
  replace zq := zq.on b
  rewrite [cR b kl] at k0 k1 k2
  replace kl := lK b kl
  rewrite [cR b gl] at g0 g1
  replace gl := lK b gl
  replace cc := bK cc b
  clear b
  have hn : Zn w4 bm Am nm cm (flo x0 k) := by rw [HF.out]; exact hm
  have eb : Box w4 (w.heap.size + 1) false none 0 0 := ⟨g0, g1⟩
  have HZ : Hid (Zn ((w4.setCell ⟨w.heap.size + 1, 0, none⟩ (.bool bm)).setCell ⟨w.heap.size + 1, 1, none⟩ (.slice Am nm cm)) bm Am nm cm (flo x0 k)) := Lib.hid (hn.put eb _ _)
  clear hn
  go_wp2_with fail
  refine bodyPost_ret (v := .tuple #[.agg #[.bool bm, .slice Am nm cm], .int .i64 0]) (by simp [results, Tryz.results91, go_sem, g0, g1]) rfl ⟨_, _, _, _, rfl, HZ.out, below_put cc (by omega) _ _⟩

theorem rfloor_neg1 {w : World} {b0 : Bool} {A0 B0 : Option Addr} {n0 c0 m0 d0 : Nat} {x0 : Rat} (hx : Rt w b0 A0 n0 c0 B0 m0 d0 x0) (s0 : Sz x0 30) {j : Int} (h0 : 0 ≤ j) (h1 : j ≤ 500) (hs : x0.num < 0) (hr : x0.num.natAbs * 2 ^ j.toNat % x0.den ≠ 0) :
    Calls Tryz.prog 91 #[.agg #[.bool b0, .slice A0 n0 c0, .slice B0 m0 d0], .int .i64 j] w (GotZp w (flo x0 j.toNat) 0) := by
  have t1 : decide (j < 0) = false := decide_eq_false (by omega)
  have t2 : decide (2000 < j) = false := decide_eq_false (by omega)
  have je := to_nat h0
  have jl : j.toNat ≤ 500 := by omega
  obtain ⟨k, hk⟩ : ∃ k, j.toNat = k := ⟨_, rfl⟩
  rw [hk] at je jl hr ⊢
  have lk := len_pow2 jl
  have CS : ∀ {W : World} {A : Option Addr} {m c x : Nat}, Num W A m c x → (limbs x).length ≤ 1000 → Calls Tryz.prog 65 #[.slice A m c, .int .i64 j] W (GotP W (x * 2 ^ k) 0) := fun ha hx => by rw [← je]; exact rshl_N ha hx (by omega)
  clear hk
  have p0 := hx.1.1
  have q0 := hx.2
  have hb0 : b0 = true := by rw [hx.1.2]; exact decide_eq_true hs
  subst hb0
  have lp := s0.1
  have lq := s0.2
  have hq0 := x0.den_nz
  have lu : (limbs (x0.num.natAbs * 2 ^ k)).length ≤ 38 := limbs_length_mul lp lk
  have ld : (limbs (x0.num.natAbs * 2 ^ k / x0.den)).length ≤ 38 := Nat.le_trans (limbs_length_mono (Nat.div_le_self _ _)) lu
  obtain ⟨u, hU⟩ : ∃ u, x0.num.natAbs * 2 ^ k = u := ⟨_, rfl⟩
  have HF : Hid (flo x0 k = -((u / x0.den + 1 : Nat) : Int)) := Lib.hid (by rw [flo_neg x0 k hs, hU, if_neg (by rw [← hU]; exact hr)])
  have HR : Hid (u % x0.den ≠ 0) := Lib.hid (by rw [← hU]; exact hr)
  have la : (limbs (u / x0.den + 1)).length ≤ 39 := by rw [← hU]; exact limbs_length_add ld (Nat.le_trans (len_one (by decide)) (by omega))
  rw [hU] at lu ld
  have CU : ∀ {W : World} {A : Option Addr} {m c : Nat}, Num W A m c x0.num.natAbs → Calls Tryz.prog 65 #[.slice A m c, .int .i64 j] W (GotP W u 0) := fun ha => by rw [← hU]; exact CS ha (by omega)
  clear hU CS hs je h0 h1 hr
  have cc := Below.refl w.heap.size w
  go_enter Tryz.func91, Tryz.ntmps91
  go_wp2_with fail
  generalize hv_ : (w.alloc (.cells #[.bool true, .slice A0 n0 c0, .slice B0 m0 d0] 51)).alloc (.cells #[.bool false, .slice none 0 0] 49) = v1
  obtain ⟨f0, f1⟩ : Fz2 v1 (w.heap.size + 1) := by simp [Fz2, ← hv_, go_sem]
  have bA : Below w.heap.size w v1 := by rw [← hv_]; exact (((Below.refl _ w).alloc (by simp) _).alloc (by simp) _)
  replace p0 := p0.on bA
  replace q0 := q0.on bA
  replace cc := bK cc bA
  clear bA
  obtain ⟨k0, k1, k2⟩ : Cs3 v1 w.heap.size (.bool true) (.slice A0 n0 c0) (.slice B0 m0 d0) := by simp [Cs3, ← hv_, go_sem]
  have kl : w.heap.size < v1.heap.size := by simp [← hv_] <;> omega
  obtain ⟨g0, g1⟩ : Cs2 v1 (w.heap.size + 1) (.bool false) (.slice none 0 0) := by simp [Cs2, ← hv_, go_sem]
  have gl : w.heap.size + 1 < v1.heap.size := by simp [← hv_] <;> omega
  clear hv_
  refine (CU p0).mono ?_
  rintro e w2 ⟨Av, nv, cv, rfl, v, b⟩
  rewrite [fR b gl] at f0 f1
  replace p0 := p0.on b
  replace q0 := q0.on b
  rewrite [cR b kl] at k0 k1 k2
  replace kl := lK b kl
  rewrite [cR b gl] at g0 g1
  replace gl := lK b gl
  replace cc := bK cc b
  clear b
  go_wp2_with fail
  refine (rdiv_N v q0 (by omega) (by omega) hq0).mono ?_
  rintro e w3 ⟨Aq, nq, cq, Ar, nr_, cr, rfl, dq, dr, b⟩
  rewrite [fR b gl] at f0 f1
  replace p0 := p0.on b
  replace q0 := q0.on b
  replace v := v.on b
  rewrite [cR b kl] at k0 k1 k2
  replace kl := lK b kl
  rewrite [cR b gl] at g0 g1
  replace gl := lK b gl
  replace cc := bK cc b
  clear b
  have hz : 0 < nr_ := dr.some_len HR.out
  have hz0 : decide ((0 : Int) < (nr_ : Int)) = true := decide_eq_true (by omega)
  have lz : (limbs ((u / x0.den + 1 : Nat) : Int).natAbs).length ≤ 1000000 := by rw [Int.natAbs_natCast]; omega
  have l1 : (limbs 1).length ≤ 1000000 := Nat.le_trans (len_one (by decide)) (by omega)
  go_wp2_with fail
  refine (rof_N _ 1 (by decide)).mono ?_
  rintro e w4 ⟨Ao, no, co, rfl, o, b⟩
  rewrite [fR b gl] at f0 f1
  replace p0 := p0.on b
  replace q0 := q0.on b
  replace v := v.on b
  replace dq := dq.on b
  replace dr := dr.on b
  rewrite [cR b kl] at k0 k1 k2
  replace kl := lK b kl
  rewrite [cR b gl] at g0 g1
  replace gl := lK b gl
  replace cc := bK cc b
  clear b
  go_wp2_with fail
  refine (radd_N dq o (by omega) l1).mono ?_
  rintro e w5 ⟨Aa, na, ca, rfl, a, b⟩
  rewrite [fR b gl] at f0 f1
  replace p0 := p0.on b
  replace q0 := q0.on b
  replace v := v.on b
  replace dq := dq.on b
  replace dr := dr.on b
  replace o := o.on b
  rewrite [cR b kl] at k0 k1 k2
  replace kl := lK b kl
  rewrite [cR b gl] at g0 g1
  replace gl := lK b gl
  replace cc := bK cc b
  clear b
  have zq := zn_nat a
  go_wp2_with fail
  refine (rzneg_N zq lz).mono ?_
  rintro e w6 ⟨bm, Am, nm, cm, rfl, hm, b⟩
  rewrite [fR b gl] at f0 f1
  replace p0 := p0.on b
  replace q0 := q0.on b
  replace v := v.on b
  replace dq := dq.on b
  replace dr := dr.on b
  replace o := o.on b
  replace a := a.on b
  replace zq := zq.on b
  rewrite [cR b kl] at k0 k1 k2
  replace kl := lK b kl
  rewrite [cR b gl] at g0 g1
  replace gl := lK b gl
  replace cc := bK cc b
  clear b
  have hn : Zn w6 bm Am nm cm (flo x0 k) := by rw [HF.out]; exact hm
  have eb : Box w6 (w.heap.size + 1) false none 0 0 := ⟨g0, g1⟩
  have HZ : Hid (Zn ((w6.setCell ⟨w.heap.size + 1, 0, none⟩ (.bool bm)).setCell ⟨w.heap.size + 1, 1, none⟩ (.slice Am nm cm)) bm Am nm cm (flo x0 k)) := Lib.hid (hn.put eb _ _)
  clear hn
  go_wp2_with fail
  refine bodyPost_ret (v := .tuple #[.agg #[.bool bm, .slice Am nm cm], .int .i64 0]) (by simp [results, Tryz.results91, go_sem, g0, g1]) rfl ⟨_, _, _, _, rfl, HZ.out, below_put cc (by omega) _ _⟩

theorem rfloor_N {w : World} {b0 : Bool} {A0 B0 : Option Addr} {n0 c0 m0 d0 : Nat} {x0 : Rat} (hx : Rt w b0 A0 n0 c0 B0 m0 d0 x0) (s0 : Sz x0 30) {j : Int} (h0 : 0 ≤ j) (h1 : j ≤ 500) :
    Calls Tryz.prog 91 #[.agg #[.bool b0, .slice A0 n0 c0, .slice B0 m0 d0], .int .i64 j] w (GotZp w (flo x0 j.toNat) 0) := by
  by_cases hs : x0.num < 0
  · by_cases hr : x0.num.natAbs * 2 ^ j.toNat % x0.den = 0
    · exact rfloor_neg0 hx s0 h0 h1 hs hr
    · exact rfloor_neg1 hx s0 h0 h1 hs hr
  · exact rfloor_pos hx s0 h0 h1 hs

theorem rfloor_no0 {w : World} {b0 : Bool} {A0 B0 : Option Addr} {n0 c0 m0 d0 : Nat} {j : Int} (h : j < 0) :
    Calls Tryz.prog 91 #[.agg #[.bool b0, .slice A0 n0 c0, .slice B0 m0 d0], .int .i64 j] w (GotZp w 0 1) := by
  have t1 : decide (j < 0) = true := decide_eq_true h
  have cc := Below.refl w.heap.size w
  go_enter Tryz.func91, Tryz.ntmps91
  go_wp2_with fail
  generalize hv_ : (w.alloc (.cells #[.bool b0, .slice A0 n0 c0, .slice B0 m0 d0] 51)).alloc (.cells #[.bool false, .slice none 0 0] 49) = v1
  obtain ⟨f0, f1⟩ : Fz2 v1 (w.heap.size + 1) := by simp [Fz2, ← hv_, go_sem]
  have bA : Below w.heap.size w v1 := by rw [← hv_]; exact (((Below.refl _ w).alloc (by simp) _).alloc (by simp) _)
  replace cc := bK cc bA
  clear bA
  obtain ⟨k0, k1, k2⟩ : Cs3 v1 w.heap.size (.bool b0) (.slice A0 n0 c0) (.slice B0 m0 d0) := by simp [Cs3, ← hv_, go_sem]
  have kl : w.heap.size < v1.heap.size := by simp [← hv_] <;> omega
  obtain ⟨g0, g1⟩ : Cs2 v1 (w.heap.size + 1) (.bool false) (.slice none 0 0) := by simp [Cs2, ← hv_, go_sem]
  have gl : w.heap.size + 1 < v1.heap.size := by simp [← hv_] <;> omega
  clear hv_
  exact bodyPost_ret (v := .tuple #[.agg #[.bool false, .slice none 0 0], .int .i64 1]) (by simp [results, Tryz.results91, go_sem, g0, g1]) rfl ⟨_, _, _, _, rfl, zn_none _, cc⟩

theorem rfloor_no1 {w : World} {b0 : Bool} {A0 B0 : Option Addr} {n0 c0 m0 d0 : Nat} {j : Int} (h : 2000 < j) :
    Calls Tryz.prog 91 #[.agg #[.bool b0, .slice A0 n0 c0, .slice B0 m0 d0], .int .i64 j] w (GotZp w 0 1) := by
  have t1 : decide (j < 0) = false := decide_eq_false (by omega)
  have t2 : decide (2000 < j) = true := decide_eq_true h
  have cc := Below.refl w.heap.size w
  go_enter Tryz.func91, Tryz.ntmps91
  go_wp2_with fail
  generalize hv_ : (w.alloc (.cells #[.bool b0, .slice A0 n0 c0, .slice B0 m0 d0] 51)).alloc (.cells #[.bool false, .slice none 0 0] 49) = v1
  obtain ⟨f0, f1⟩ : Fz2 v1 (w.heap.size + 1) := by simp [Fz2, ← hv_, go_sem]
  have bA : Below w.heap.size w v1 := by rw [← hv_]; exact (((Below.refl _ w).alloc (by simp) _).alloc (by simp) _)
  replace cc := bK cc bA
  clear bA
  obtain ⟨k0, k1, k2⟩ : Cs3 v1 w.heap.size (.bool b0) (.slice A0 n0 c0) (.slice B0 m0 d0) := by simp [Cs3, ← hv_, go_sem]
  have kl : w.heap.size < v1.heap.size := by simp [← hv_] <;> omega
  obtain ⟨g0, g1⟩ : Cs2 v1 (w.heap.size + 1) (.bool false) (.slice none 0 0) := by simp [Cs2, ← hv_, go_sem]
  have gl : w.heap.size + 1 < v1.heap.size := by simp [← hv_] <;> omega
  clear hv_
  exact bodyPost_ret (v := .tuple #[.agg #[.bool false, .slice none 0 0], .int .i64 1]) (by simp [results, Tryz.results91, go_sem, g0, g1]) rfl ⟨_, _, _, _, rfl, zn_none _, cc⟩

theorem rfloor_no {w : World} {b0 : Bool} {A0 B0 : Option Addr} {n0 c0 m0 d0 : Nat} {j : Int} (h : j < 0 ∨ 2000 < j) :
    Calls Tryz.prog 91 #[.agg #[.bool b0, .slice A0 n0 c0, .slice B0 m0 d0], .int .i64 j] w (GotZp w 0 1) := by
  rcases h with h | h
  · exact rfloor_no0 h
  · exact rfloor_no1 h

theorem flo_len {x : Rat} {j k : Nat} (h : Sz x k) (hj : j ≤ 500) : (limbs (flo x j).natAbs).length ≤ k + 9 := by
  have h1 : (limbs (x.num.natAbs * 2 ^ j)).length ≤ k + 8 := limbs_length_mul h.1 (len_pow2 hj)
  have h2 : (limbs (x.num.natAbs * 2 ^ j / x.den)).length ≤ k + 8 := Nat.le_trans (limbs_length_mono (Nat.div_le_self _ _)) h1
  by_cases hs : x.num < 0
  · rw [flo_neg x j hs, Int.natAbs_neg, Int.natAbs_natCast]
    refine limbs_length_add h2 (Nat.le_trans (len_one (Nat.lt_of_le_of_lt (m := 1) ?_ (by decide))) (by omega))
    split <;> omega
  · rw [flo_pos x j hs, Int.natAbs_natCast]
    omega
theorem cei_len {x : Rat} {j k : Nat} (h : Sz x k) (hj : j ≤ 500) : (limbs (cei x j).natAbs).length ≤ k + 9 := by
  unfold cei; rw [Int.natAbs_neg]; exact flo_len h.neg hj
theorem nea_len {x : Rat} {j k : Nat} (h : Sz x k) (hj : j ≤ 500) : (limbs (nea x j).natAbs).length ≤ k + 9 := by
  rcases nea_one x j with e | e
  · rw [e]; exact flo_len h hj
  · rw [e]; exact cei_len h hj
theorem bak_sz {z : Int} {j k : Nat} (h : (limbs z.natAbs).length ≤ k) (h8 : 8 ≤ k) (hj : j ≤ 500) : Sz (bak z j) k := sz_mk (Nat.ne_of_gt (Nat.pow_pos (by omega))) h (Nat.le_trans (len_pow2 hj) h8)

theorem rceil_N {w : World} {b0 : Bool} {A0 B0 : Option Addr} {n0 c0 m0 d0 : Nat} {x0 : Rat} (hx : Rt w b0 A0 n0 c0 B0 m0 d0 x0) (s0 : Sz x0 30) {j : Int} (h0 : 0 ≤ j) (h1 : j ≤ 500) :
    Calls Tryz.prog 92 #[.agg #[.bool b0, .slice A0 n0 c0, .slice B0 m0 d0], .int .i64 j] w (GotZp w (cei x0 j.toNat) 0) := by
  obtain ⟨y, hy⟩ : ∃ y : Rat, y = -x0 := ⟨_, rfl⟩
  have CF : ∀ {W : World} {b : Bool} {A B : Option Addr} {n c m d : Nat}, Rt W b A n c B m d y → Calls Tryz.prog 91 #[.agg #[.bool b, .slice A n c, .slice B m d], .int .i64 j] W (GotZp W (flo y j.toNat) 0) := fun hh => rfloor_N hh (by rw [hy]; exact s0.neg) h0 h1
  have lz : (limbs (flo y j.toNat).natAbs).length ≤ 1000000 := Nat.le_trans (flo_len (by rw [hy]; exact s0.neg) (by omega)) (by omega)
  have HC : Hid (cei x0 j.toNat = -flo y j.toNat) := Lib.hid (by rw [hy]; rfl)
  have CN : ∀ {W : World} {b : Bool} {A B : Option Addr} {n c m d : Nat}, Rt W b A n c B m d x0 → Calls Tryz.prog 118 #[.agg #[.bool b, .slice A n c, .slice B m d]] W (GotRt W y) := fun hh => by rw [hy]; exact rtneg_N hh (s0.le (by omega))
  clear hy
  have cc := Below.refl w.heap.size w
  go_enter Tryz.func92, Tryz.ntmps92
  go_wp2_with fail
  generalize hv_ : (w.alloc (.cells #[.bool b0, .slice A0 n0 c0, .slice B0 m0 d0] 51)).alloc (.cells #[.bool false, .slice none 0 0] 49) = v1
  obtain ⟨f0, f1⟩ : Fz2 v1 (w.heap.size + 1) := by simp [Fz2, ← hv_, go_sem]
  have bA : Below w.heap.size w v1 := by rw [← hv_]; exact (((Below.refl _ w).alloc (by simp) _).alloc (by simp) _)
  replace hx := hx.on bA
  replace cc := bK cc bA
  clear bA
  obtain ⟨k0, k1, k2⟩ : Cs3 v1 w.heap.size (.bool b0) (.slice A0 n0 c0) (.slice B0 m0 d0) := by simp [Cs3, ← hv_, go_sem]
  have kl : w.heap.size < v1.heap.size := by simp [← hv_] <;> omega
  obtain ⟨g0, g1⟩ : Cs2 v1 (w.heap.size + 1) (.bool false) (.slice none 0 0) := by simp [Cs2, ← hv_, go_sem]
  have gl : w.heap.size + 1 < v1.heap.size := by simp [← hv_] <;> omega
  clear hv_
  refine (CN hx).mono ?_
  rintro e w2 ⟨bv, Av, nv, cv, Bv, mv, dv, rfl, v, b⟩
  rewrite [fR b gl] at f0 f1
  replace hx := hx.on b
  rewrite [cR b kl] at k0 k1 k2
  replace kl := lK b kl
  rewrite [cR b gl] at g0 g1
  replace gl := lK b gl
  replace cc := bK cc b
  clear b
  go_wp2_with fail
  refine (CF v).mono ?_
  rintro e w3 ⟨bt, At, nt, ct, rfl, t, b⟩
  rewrite [fR b gl] at f0 f1
  replace hx := hx.on b
  replace v := v.on b
  rewrite [cR b kl] at k0 k1 k2
  replace kl := lK b kl
  rewrite [cR b gl] at g0 g1
  replace gl := lK b gl
  replace cc := bK cc b
  clear b
  go_wp2_with fail
  generalize hv_ : w3.alloc (.cells #[.bool bt, .slice At nt ct] 49) = v4
  have bA : Below w3.heap.size w3 v4 := by rw [← hv_]; exact below_one _ _
  rewrite [fR bA gl] at f0 f1
  replace hx := hx.on bA
  replace v := v.on bA
  replace t := t.on bA
  rewrite [cR bA kl] at k0 k1 k2
  replace kl := lK bA kl
  rewrite [cR bA gl] at g0 g1
  replace gl := lK bA gl
  replace cc := bK cc bA
  clear bA
  obtain ⟨y0, y1⟩ : Cs2 v4 w3.heap.size (.bool bt) (.slice At nt ct) := by simp [Cs2, ← hv_, go_sem]
  have yl : w3.heap.size < v4.heap.size := by simp [← hv_]
  clear hv_
  refine (rzneg_N t lz).mono ?_
  rintro e w5 ⟨bm, Am, nm, cm, rfl, hm, b⟩
  rewrite [fR b gl] at f0 f1
  replace hx := hx.on b
  replace v := v.on b
  replace t := t.on b
  rewrite [cR b kl] at k0 k1 k2
  replace kl := lK b kl
  rewrite [cR b gl] at g0 g1
  replace gl := lK b gl
  rewrite [cR b yl] at y0 y1
  replace yl := lK b yl
  replace cc := bK cc b
  clear b
  have hn : Zn w5 bm Am nm cm (cei x0 j.toNat) := by rw [HC.out]; exact hm
  have eb : Box w5 (w.heap.size + 1) false none 0 0 := ⟨g0, g1⟩
  have HZ : Hid (Zn ((w5.setCell ⟨w.heap.size + 1, 0, none⟩ (.bool bm)).setCell ⟨w.heap.size + 1, 1, none⟩ (.slice Am nm cm)) bm Am nm cm (cei x0 j.toNat)) := Lib.hid (hn.put eb _ _)
  clear hn
  go_wp2_with fail
  refine bodyPost_ret (v := .tuple #[.agg #[.bool bm, .slice Am nm cm], .int .i64 0]) (by simp [results, Tryz.results92, go_sem, g0, g1]) rfl ⟨_, _, _, _, rfl, HZ.out, below_put cc (by omega) _ _⟩

theorem rceil_no {w : World} {b0 : Bool} {A0 B0 : Option Addr} {n0 c0 m0 d0 : Nat} {x0 : Rat} (hx : Rt w b0 A0 n0 c0 B0 m0 d0 x0) (s0 : Sz x0 30) {j : Int} (h : j < 0 ∨ 2000 < j) :
    Calls Tryz.prog 92 #[.agg #[.bool b0, .slice A0 n0 c0, .slice B0 m0 d0], .int .i64 j] w (GotZp w 0 1) := by
  obtain ⟨y, hy⟩ : ∃ y : Rat, y = -x0 := ⟨_, rfl⟩
  have CF : ∀ {W : World} {b : Bool} {A B : Option Addr} {n c m d : Nat}, Rt W b A n c B m d y → Calls Tryz.prog 91 #[.agg #[.bool b, .slice A n c, .slice B m d], .int .i64 j] W (GotZp W 0 1) := fun _ => rfloor_no h
  have lz : (limbs (0 : Int).natAbs).length ≤ 1000000 := len_z0
  have CN : ∀ {W : World} {b : Bool} {A B : Option Addr} {n c m d : Nat}, Rt W b A n c B m d x0 → Calls Tryz.prog 118 #[.agg #[.bool b, .slice A n c, .slice B m d]] W (GotRt W y) := fun hh => by rw [hy]; exact rtneg_N hh (s0.le (by omega))
  clear hy
  have cc := Below.refl w.heap.size w
  go_enter Tryz.func92, Tryz.ntmps92
  go_wp2_with fail
  generalize hv_ : (w.alloc (.cells #[.bool b0, .slice A0 n0 c0, .slice B0 m0 d0] 51)).alloc (.cells #[.bool false, .slice none 0 0] 49) = v1
  obtain ⟨f0, f1⟩ : Fz2 v1 (w.heap.size + 1) := by simp [Fz2, ← hv_, go_sem]
  have bA : Below w.heap.size w v1 := by rw [← hv_]; exact (((Below.refl _ w).alloc (by simp) _).alloc (by simp) _)
  replace hx := hx.on bA
  replace cc := bK cc bA
  clear bA
  obtain ⟨k0, k1, k2⟩ : Cs3 v1 w.heap.size (.bool b0) (.slice A0 n0 c0) (.slice B0 m0 d0) := by simp [Cs3, ← hv_, go_sem]
  have kl : w.heap.size < v1.heap.size := by simp [← hv_] <;> omega
  obtain ⟨g0, g1⟩ : Cs2 v1 (w.heap.size + 1) (.bool false) (.slice none 0 0) := by simp [Cs2, ← hv_, go_sem]
  have gl : w.heap.size + 1 < v1.heap.size := by simp [← hv_] <;> omega
  clear hv_
  refine (CN hx).mono ?_
  rintro e w2 ⟨bv, Av, nv, cv, Bv, mv, dv, rfl, v, b⟩
  rewrite [fR b gl] at f0 f1
  replace hx := hx.on b
  rewrite [cR b kl] at k0 k1 k2
  replace kl := lK b kl
  rewrite [cR b gl] at g0 g1
  replace gl := lK b gl
  replace cc := bK cc b
  clear b
  go_wp2_with fail
  refine (CF v).mono ?_
  rintro e w3 ⟨bt, At, nt, ct, rfl, t, b⟩
  rewrite [fR b gl] at f0 f1
  replace hx := hx.on b
  replace v := v.on b
  rewrite [cR b kl] at k0 k1 k2
  replace kl := lK b kl
  rewrite [cR b gl] at g0 g1
  replace gl := lK b gl
  replace cc := bK cc b
  clear b
  go_wp2_with fail
  generalize hv_ : w3.alloc (.cells #[.bool bt, .slice At nt ct] 49) = v4
  have bA : Below w3.heap.size w3 v4 := by rw [← hv_]; exact below_one _ _
  rewrite [fR bA gl] at f0 f1
  replace hx := hx.on bA
  replace v := v.on bA
  replace t := t.on bA
  rewrite [cR bA kl] at k0 k1 k2
  replace kl := lK bA kl
  rewrite [cR bA gl] at g0 g1
  replace gl := lK bA gl
  replace cc := bK cc bA
  clear bA
  obtain ⟨y0, y1⟩ : Cs2 v4 w3.heap.size (.bool bt) (.slice At nt ct) := by simp [Cs2, ← hv_, go_sem]
  have yl : w3.heap.size < v4.heap.size := by simp [← hv_]
  clear hv_
  refine (rzneg_N t lz).mono ?_
  rintro e w5 ⟨bm, Am, nm, cm, rfl, hm, b⟩
  rewrite [fR b gl] at f0 f1
  replace hx := hx.on b
  replace v := v.on b
  replace t := t.on b
  rewrite [cR b kl] at k0 k1 k2
  replace kl := lK b kl
  rewrite [cR b gl] at g0 g1
  replace gl := lK b gl
  rewrite [cR b yl] at y0 y1
  replace yl := lK b yl
  replace cc := bK cc b
  clear b
  have hn : Zn w5 bm Am nm cm (0) := hm
  have eb : Box w5 (w.heap.size + 1) false none 0 0 := ⟨g0, g1⟩
  have HZ : Hid (Zn ((w5.setCell ⟨w.heap.size + 1, 0, none⟩ (.bool bm)).setCell ⟨w.heap.size + 1, 1, none⟩ (.slice Am nm cm)) bm Am nm cm (0)) := Lib.hid (hn.put eb _ _)
  clear hn
  go_wp2_with fail
  refine bodyPost_ret (v := .tuple #[.agg #[.bool bm, .slice Am nm cm], .int .i64 1]) (by simp [results, Tryz.results92, go_sem, g0, g1]) rfl ⟨_, _, _, _, rfl, HZ.out, below_put cc (by omega) _ _⟩

end Go.Proofs.YtmaolhajeoigpaaGreat

/-
  The contracts of the sixth reference: odd.
-/
namespace Go.Proofs.YtmaolhajeoigpaaGreat
set_option maxRecDepth 100000
set_option maxHeartbeats 8000000
open Go.RowKit
set_option linter.unusedVariables false
set_option linter.unusedSimpArgs false

theorem low_mod (x : Nat) (h : x ≠ 0) : ((limbs x)[0]?.getD 0) % 2 = x % 2 := by
  rw [limbs_pos (by omega)]
  show x % B64 % 2 = x % 2
  exact Nat.mod_mod_of_dvd x ⟨9223372036854775808, by decide⟩
theorem abs_mod (z : Int) : z.natAbs % 2 = (z % 2).toNat := by omega

theorem rodd_0 {w : World} {b : Bool} {A : Option Addr} {n c : Nat} {z : Int} (ha : Zn w b A n c z) (hn : n = 0) :
    Calls Tryz.prog 95 #[.agg #[.bool b, .slice A n c]] w (GotV w (.bool false)) := by
  have t1 : decide ((0 : Int) < (n : Int)) = false := decide_eq_false (by omega)
  have t2 : decide (0 < n) = false := decide_eq_false (by omega)
  clear hn
  have cc := Below.refl w.heap.size w
  go_enter Tryz.func95, Tryz.ntmps95
  go_wp2_with fail
  generalize hv_ : w.alloc (.cells #[.bool b, .slice A n c] 49) = v1
  have bA : Below w.heap.size w v1 := by rw [← hv_]; exact ((Below.refl _ w).alloc (by simp) _)
  replace ha := ha.on bA
  replace cc := bK cc bA
  clear bA
  obtain ⟨k0, k1⟩ : Cs2 v1 w.heap.size (.bool b) (.slice A n c) := by simp [Cs2, ← hv_, go_sem]
  have kl : w.heap.size < v1.heap.size := by simp [← hv_] <;> omega
  clear hv_
  go_ret
  exact ⟨rfl, cc⟩

theorem rodd_1 {w : World} {b : Bool} {A : Option Addr} {n c : Nat} {z : Int} (ha : Zn w b A n c z) (hn : 0 < n) (r : Bool) (hr : decide (z % 2 = 1) = r) :
    Calls Tryz.prog 95 #[.agg #[.bool b, .slice A n c]] w (GotV w (.bool r)) := by
  obtain ⟨bk, off, rfl, hb, hc⟩ := ha.1.2.2.2 hn
  have h0 := hc 0 hn
  rw [Nat.add_zero] at h0
  have hz : z.natAbs ≠ 0 := num_ne ha.1 hn
  obtain ⟨v, hv⟩ : ∃ v, ((limbs z.natAbs)[0]?.getD 0) = v := ⟨_, rfl⟩
  have hm := low_mod z.natAbs hz
  rw [hv] at h0 hm
  rw [abs_mod] at hm
  clear hv hc
  have hB := below_one w (.cells #[.bool b, .slice (some ⟨bk, off, none⟩) n c] 49)
  have h1 := cK hB h0 hb
  have e1 : ((v : Int) % 2 == 1) = r := by rw [← hr, Bool.eq_iff_iff, beq_iff_eq, decide_eq_true_iff]; omega
  have hn2 : 1 ≤ n := hn
  have cc := Below.refl w.heap.size w
  go_enter Tryz.func95, Tryz.ntmps95
  go_wp2_with fail
  go_ret
  exact ⟨rfl, hB⟩

theorem rodd_N {w : World} {b : Bool} {A : Option Addr} {n c : Nat} {z : Int} (r : Bool) (ha : Zn w b A n c z) (hr : decide (z % 2 = 1) = r) :
    Calls Tryz.prog 95 #[.agg #[.bool b, .slice A n c]] w (GotV w (.bool r)) := by
  rcases Nat.eq_zero_or_pos n with hn | hn
  · have : z = 0 := by
      have e := ha.1.len
      rw [hn] at e
      have e2 := List.length_eq_zero_iff.1 e.symm
      have e3 : z.natAbs = 0 := by rw [← val_limbs z.natAbs, e2, val_nil]
      omega
    subst this
    simp at hr
    subst hr
    exact rodd_0 ha hn
  · exact rodd_1 ha hn r hr

end Go.Proofs.YtmaolhajeoigpaaGreat

/-
  Numbers on a grid by what is left; the contracts of dyad: isGrid, isOdd, the closures.
-/
namespace Go.Proofs.YtmaolhajeoigpaaGreat
set_option maxRecDepth 100000
set_option maxHeartbeats 8000000
open Go.RowKit
set_option linter.unusedVariables false
set_option linter.unusedSimpArgs false

theorem zn_minus {w : World} {A : Option Addr} {n c t : Nat} (h : Num w A n c t) (h0 : t ≠ 0) : Zn w true A n c (-(t : Int)) := ⟨by rw [Int.natAbs_neg, Int.natAbs_natCast]; exact h, (decide_eq_true (by omega)).symm⟩
theorem num_void {w : World} {A : Option Addr} {n c t : Nat} (h : Num w A n c t) (h0 : t = 0) : n = 0 := by
  have e := h.len
  rw [h0, limbs_zero] at e; simpa using e
theorem cei_pos (a : Rat) (k : Nat) (h : ¬ a.num < 0) : cei a k = ((a.num.natAbs * 2 ^ k / a.den + (if a.num.natAbs * 2 ^ k % a.den = 0 then 0 else 1) : Nat) : Int) := by
  unfold cei
  by_cases h0 : a.num = 0
  · have e : a.num.natAbs * 2 ^ k = 0 := by rw [h0]; simp
    have h1 : ¬ (-a).num < 0 := by rw [Rat.neg_num]; omega
    rw [flo_pos _ _ h1, Rat.neg_num, Int.natAbs_neg, Rat.neg_den, e]
    simp
  · have h1 : (-a).num < 0 := by rw [Rat.neg_num]; omega
    rw [flo_neg _ _ h1, Rat.neg_num, Int.natAbs_neg, Rat.neg_den, Int.neg_neg]
theorem cei_less (a : Rat) (k : Nat) (h : a.num < 0) : cei a k = -((a.num.natAbs * 2 ^ k / a.den : Nat) : Int) := by
  unfold cei
  have h1 : ¬ (-a).num < 0 := by rw [Rat.neg_num]; omega
  rw [flo_pos _ _ h1, Rat.neg_num, Int.natAbs_neg, Rat.neg_den]
/-- Whether the nearest is one step farther from nought. -/
def fars (u q : Nat) : Bool := decide (q < u % q + u % q) || (decide (u % q + u % q = q) && decide (u / q % 2 = 1))
theorem half_nat (u q : Nat) (hq : 0 < q) (A : Rat) (hA : A * (q : Rat) = (u : Rat)) : nr A = ((u / q + (if fars u q = true then 1 else 0) : Nat) : Int) := by
  have h1 := Nat.div_add_mod u q
  have h2 := Nat.mod_lt u hq
  unfold fars
  generalize u / q = T at h1 ⊢
  generalize u % q = r at h1 h2 ⊢
  have hqp : (0 : Rat) < (q : Rat) := Rat.natCast_pos.2 hq
  have hq0 : (q : Rat) ≠ 0 := by grind
  have e : A = (T : Rat) + (r : Rat) / (q : Rat) := by
    have : (u : Rat) = (q : Rat) * (T : Rat) + (r : Rat) := by rw [← h1, Rat.natCast_add, Rat.natCast_mul]
    grind
  have hr0 : (0 : Rat) ≤ (r : Rat) := Rat.natCast_nonneg
  have eT : ((T : Int) : Rat) = (T : Rat) := rfl
  have o : ((1 : Int) : Rat) = 1 := rfl
  obtain ⟨s, hs⟩ : ∃ s : Rat, (r : Rat) / (q : Rat) = s := ⟨_, rfl⟩
  have hsq : s * (q : Rat) = (r : Rat) := by rw [← hs]; grind
  have twice : ∀ {a b : Nat}, (a : Rat) ≤ (b : Rat) ↔ a ≤ b := fun {a b} => Rat.natCast_le_natCast
  have dbl : s + s = ((r + r : Nat) : Rat) / (q : Rat) := by rw [Rat.natCast_add]; grind
  have hle : s + s ≤ 1 ↔ r + r ≤ q := by
    rw [dbl]
    constructor
    · intro h
      have h3 : ((r + r : Nat) : Rat) ≤ (q : Rat) := by
        have := Rat.mul_le_mul_of_nonneg_right h (Rat.le_of_lt hqp)
        have e2 : ((r + r : Nat) : Rat) / (q : Rat) * (q : Rat) = ((r + r : Nat) : Rat) := by grind
        rw [e2, Rat.one_mul] at this; exact this
      exact twice.1 h3
    · intro h
      have h3 := twice.2 h
      have e2 : ((r + r : Nat) : Rat) / (q : Rat) * (q : Rat) = ((r + r : Nat) : Rat) := by grind
      apply Rat.le_of_mul_le_mul_right _ hqp
      rw [e2, Rat.one_mul]; exact h3
  have hge : 1 ≤ s + s ↔ q ≤ r + r := by
    rw [dbl]
    have e2 : ((r + r : Nat) : Rat) / (q : Rat) * (q : Rat) = ((r + r : Nat) : Rat) := by grind
    constructor
    · intro h
      have := Rat.mul_le_mul_of_nonneg_right h (Rat.le_of_lt hqp)
      rw [e2, Rat.one_mul] at this; exact twice.1 this
    · intro h
      apply Rat.le_of_mul_le_mul_right _ hqp
      rw [e2, Rat.one_mul]; exact twice.2 h
  have hs0 : 0 ≤ s := by
    apply Rat.le_of_mul_le_mul_right _ hqp
    rw [hsq, Rat.zero_mul]; exact hr0
  have hs1 : s < 1 := by
    have : (r : Rat) < (q : Rat) := Rat.natCast_lt_natCast.2 h2
    apply Rat.lt_of_mul_lt_mul_right _ (Rat.le_of_lt hqp)
    rw [hsq, Rat.one_mul]; exact this
  rw [hs] at e
  clear hsq dbl hr0 hqp hq0 hs h1 twice hA
  apply nr_unique
  unfold NrHalf
  subst e
  by_cases c1 : q < r + r
  · have c2 : 1 ≤ s + s := hge.2 (by omega)
    have c3 : ¬ s + s ≤ 1 := fun h => by have := hle.1 h; omega
    simp only [c1, decide_true, Bool.true_or, if_true]
    rw [Int.natCast_add, Rat.intCast_add, eT]
    have o2 : (((1 : Nat) : Int) : Rat) = 1 := rfl
    rw [o2]
    refine ⟨by grind, by grind, ?_⟩
    intro h; exfalso; grind
  · have c3 : s + s ≤ 1 := hle.2 (by omega)
    by_cases c2 : r + r = q
    · have c4 : 1 ≤ s + s := hge.2 (by omega)
      by_cases c5 : T % 2 = 1
      · simp only [c1, c2, c5, decide_true, decide_false, Bool.false_or, Bool.and_self, if_true, Nat.lt_irrefl]
        rw [Int.natCast_add, Rat.intCast_add, eT]
        have o2 : (((1 : Nat) : Int) : Rat) = 1 := rfl
        rw [o2]
        refine ⟨by grind, by grind, ?_⟩
        intro _; omega
      · simp only [c1, c2, c5, decide_true, decide_false, Bool.false_or, Bool.and_false, Nat.lt_irrefl]
        simp only [Bool.false_eq_true, if_false, Nat.add_zero]
        rw [eT]
        refine ⟨by grind, by grind, ?_⟩
        intro _; omega
    · have c4 : ¬ 1 ≤ s + s := fun h => by have := hge.1 h; omega
      simp only [c1, c2, decide_false, Bool.false_or, Bool.false_and]
      simp only [Bool.false_eq_true, if_false, Nat.add_zero]
      rw [eT]
      refine ⟨by grind, by grind, ?_⟩
      intro h; exfalso; grind
theorem sides_dw (a : Rat) (k : Nat) (h : ¬ a.num < 0) : a * dw k * (a.den : Rat) = ((a.num.natAbs * 2 ^ k : Nat) : Rat) := by
  unfold dw
  have h1 : a * (a.den : Rat) = ((a.num : Int) : Rat) := by
    conv => lhs; rw [← Rat.mkRat_self a]
    have h2 : ((a.den : Nat) : Rat) = mkRat ((a.den : Nat) : Int) 1 := by rw [Rat.mkRat_one]; rfl
    have h3 : ((a.num : Int) : Rat) = mkRat a.num 1 := by rw [Rat.mkRat_one]
    have hd := a.den_nz
    rw [Rat.mkRat_self, h3]
    conv => lhs; rw [← Rat.mkRat_self a]
    rw [Rat.mkRat_self]
    conv => lhs; arg 1; rw [← Rat.mkRat_self a]
    rw [h2, Rat.mkRat_mul_mkRat, Rat.mkRat_eq_iff (by omega) (by omega)]
    simp
  have h4 : ((a.num : Int) : Rat) = ((a.num.natAbs : Nat) : Rat) := by
    have : a.num = (a.num.natAbs : Int) := by omega
    conv => lhs; rw [this]
    rfl
  rw [Rat.natCast_mul, ← h4, ← h1]
  generalize ((2 ^ k : Nat) : Rat) = p
  grind
theorem nea_pos (a : Rat) (k : Nat) (h : ¬ a.num < 0) : nea a k = ((a.num.natAbs * 2 ^ k / a.den + (if fars (a.num.natAbs * 2 ^ k) a.den = true then 1 else 0) : Nat) : Int) := by
  unfold nea
  exact half_nat _ _ (Nat.pos_of_ne_zero a.den_nz) _ (sides_dw a k h)
theorem nea_less (a : Rat) (k : Nat) (h : a.num < 0) : nea a k = -((a.num.natAbs * 2 ^ k / a.den + (if fars (a.num.natAbs * 2 ^ k) a.den = true then 1 else 0) : Nat) : Int) := by
  have h1 : ¬ (-a).num < 0 := by rw [Rat.neg_num]; omega
  have e := nea_pos (-a) k h1
  rw [nea_neg, Rat.neg_num, Int.natAbs_neg, Rat.neg_den] at e
  omega

theorem isgrid_0 (w : World) {j : Int} (h : j < 0) :
    Calls Tryz.prog 127 #[.int .i64 j] w (GotV w (.bool false)) := by
  have t1 : decide (0 ≤ j) = false := decide_eq_false (by omega)
  go_enter Tryz.func127, Tryz.ntmps127
  go_wp2_with fail
  go_ret
  exact ⟨rfl, Below.refl _ _⟩

theorem isgrid_1 (w : World) {j : Int} (h0 : 0 ≤ j) (h1 : 2000 < j) :
    Calls Tryz.prog 127 #[.int .i64 j] w (GotV w (.bool false)) := by
  have t1 : decide (0 ≤ j) = true := decide_eq_true h0
  have t2 : decide (j ≤ 2000) = false := decide_eq_false (by omega)
  go_enter Tryz.func127, Tryz.ntmps127
  go_wp2_with fail
  go_ret
  exact ⟨rfl, Below.refl _ _⟩

theorem isgrid_2 (w : World) {j : Int} (h0 : 0 ≤ j) (h1 : j ≤ 2000) :
    Calls Tryz.prog 127 #[.int .i64 j] w (GotV w (.bool true)) := by
  have t1 : decide (0 ≤ j) = true := decide_eq_true h0
  have t2 : decide (j ≤ 2000) = true := decide_eq_true (by omega)
  go_enter Tryz.func127, Tryz.ntmps127
  go_wp2_with fail
  go_ret
  exact ⟨rfl, Below.refl _ _⟩

theorem isgrid_no (w : World) {j : Int} (h : j < 0 ∨ 2000 < j) :
    Calls Tryz.prog 127 #[.int .i64 j] w (GotV w (.bool false)) := by
  by_cases h0 : 0 ≤ j
  · exact isgrid_1 w h0 (by omega)
  · exact isgrid_0 w (by omega)

theorem disodd_0 {w : World} {A : Option Addr} {n c : Nat} (hn : n = 0) :
    Calls Tryz.prog 116 #[.slice A n c] w (GotV w (.bool false)) := by
  have t1 : decide ((0 : Int) < (n : Int)) = false := decide_eq_false (by omega)
  have t2 : decide (0 < n) = false := decide_eq_false (by omega)
  clear hn
  have cc := Below.refl w.heap.size w
  go_enter Tryz.func116, Tryz.ntmps116
  go_wp2_with fail
  go_ret
  exact ⟨rfl, cc⟩

theorem disodd_1 {w : World} {A : Option Addr} {n c x : Nat} (ha : Num w A n c x) (hn : 0 < n) (r : Bool) (hr : decide (x % 2 = 1) = r) :
    Calls Tryz.prog 116 #[.slice A n c] w (GotV w (.bool r)) := by
  obtain ⟨bk, off, rfl, hb, hc⟩ := ha.2.2.2 hn
  have h0 := hc 0 hn
  rw [Nat.add_zero] at h0
  have hz : x ≠ 0 := num_ne ha hn
  obtain ⟨v, hv⟩ : ∃ v, ((limbs x)[0]?.getD 0) = v := ⟨_, rfl⟩
  have hm := low_mod x hz
  rw [hv] at h0 hm
  clear hv hc
  have e1 : ((v : Int) % 2 == 1) = r := by rw [← hr, Bool.eq_iff_iff, beq_iff_eq, decide_eq_true_iff]; omega
  have hn2 : 1 ≤ n := hn
  have t1 : decide ((0 : Int) < (n : Int)) = true := decide_eq_true (by omega)
  have t2 : decide (0 < n) = true := decide_eq_true (by omega)
  have cc := Below.refl w.heap.size w
  go_enter Tryz.func116, Tryz.ntmps116
  go_wp2_with fail
  go_ret
  exact ⟨rfl, cc⟩

theorem disodd_N {w : World} {A : Option Addr} {n c x : Nat} (r : Bool) (ha : Num w A n c x) (hr : decide (x % 2 = 1) = r) :
    Calls Tryz.prog 116 #[.slice A n c] w (GotV w (.bool r)) := by
  rcases Nat.eq_zero_or_pos n with hn | hn
  · have : x = 0 := by
      have e := ha.len
      rw [hn] at e
      have e2 := List.length_eq_zero_iff.1 e.symm
      rw [← val_limbs x, e2, val_nil]
    subst this
    simp at hr
    subst hr
    exact disodd_0 hn
  · exact disodd_1 ha hn r hr







theorem knear_gt {w : World} {g n c m d x y : Nat} {A B : Option Addr} {b0 : Bool} {A0 B0 : Option Addr} {n0 c0 m0 d0 q : Nat} (r0 : w.cell? ⟨g, 0, none⟩ = some (.bool b0)) (r1 : w.cell? ⟨g, 1, none⟩ = some (.slice A0 n0 c0)) (r2 : w.cell? ⟨g, 2, none⟩ = some (.slice B0 m0 d0)) (ha : Num w A n c x) (hb : Num w B m d y) (hq : Num w B0 m0 d0 q) (ly : (limbs y).length ≤ 299) (lq : (limbs q).length ≤ 300) (hy : q < y + y) :
    Calls Tryz.prog 115 #[.slice A n c, .slice B m d, .pointer (some ⟨g, 0, none⟩)] w (GotV w (.bool true)) := by
  have ll : (limbs (y + y)).length ≤ 300 := limbs_length_add ly ly
  have hc : cmpN (y + y) q = 1 := cmpN_gt hy
  have hrl := cell_lt r2
  simp only at hrl
  have CC : ∀ {W : World} {A B : Option Addr} {n c m d : Nat}, Num W A n c (y + y) → Num W B m d q → Calls Tryz.prog 75 #[.slice A n c, .slice B m d] W (GotV W (.int .i64 (1))) := fun hu hv => by rw [← hc]; exact cmp_N hu hv (by omega) (by omega)
  clear hc hy
  have rl := hrl
  clear hrl
  have cc := Below.refl w.heap.size w
  go_enter Tryz.func115, Tryz.ntmps115
  go_wp2_with fail
  have qq : Below w.heap.size w w.drew := below_drewN (Below.refl _ w) 1
  have ha' := ha.on qq
  have hb' := hb.on qq
  have hq' := hq.on qq
  go_region_held3 (fun w' => w'.cell? ⟨g, 0, none⟩ = some (.bool b0) ∧ w'.cell? ⟨g, 1, none⟩ = some (.slice A0 n0 c0) ∧ w'.cell? ⟨g, 2, none⟩ = some (.slice B0 m0 d0))
    (first | with_reducible exact ⟨cK qq r0 rl, cK qq r1 rl, cK qq r2 rl⟩ | go_keep)
    (first
      | (go_at_call 108; (with_reducible refine (add_N hb' hb' (by omega) (by omega)).mono ?_); rintro e wz ⟨As, ns, cs, rfl, s, q⟩; replace qq := bK qq q; (try replace ha' := ha'.on q); (try replace hb' := hb'.on q); (try replace hq' := hq'.on q); clear q)
      | (go_at_call 75; (with_reducible refine (CC s hq').mono ?_); rintro e wz ⟨rfl, q⟩; replace qq := bK qq q; (try replace ha' := ha'.on q); (try replace hb' := hb'.on q); (try replace hq' := hq'.on q); (try replace s := s.on q); clear q))
  clear ha
  have ha := ha'
  clear ha'
  clear hb
  have hb := hb'
  clear hb'
  clear hq
  have hq := hq'
  clear hq'
  rewrite [cR qq rl] at r0 r1 r2
  replace rl := lK qq rl
  replace cc := bK cc qq
  clear qq
  go_wp2_with fail
  go_ret
  exact ⟨rfl, cc⟩

theorem knear_eq {w : World} {g n c m d x y : Nat} {A B : Option Addr} {b0 : Bool} {A0 B0 : Option Addr} {n0 c0 m0 d0 q : Nat} (r0 : w.cell? ⟨g, 0, none⟩ = some (.bool b0)) (r1 : w.cell? ⟨g, 1, none⟩ = some (.slice A0 n0 c0)) (r2 : w.cell? ⟨g, 2, none⟩ = some (.slice B0 m0 d0)) (ha : Num w A n c x) (hb : Num w B m d y) (hq : Num w B0 m0 d0 q) (ly : (limbs y).length ≤ 299) (lq : (limbs q).length ≤ 300) (hy : y + y = q) (r : Bool) (hr : decide (x % 2 = 1) = r) :
    Calls Tryz.prog 115 #[.slice A n c, .slice B m d, .pointer (some ⟨g, 0, none⟩)] w (GotV w (.bool r)) := by
  have ll : (limbs (y + y)).length ≤ 300 := limbs_length_add ly ly
  have hc : cmpN (y + y) q = 0 := cmpN_zero.2 hy
  have hrl := cell_lt r2
  simp only at hrl
  have CC : ∀ {W : World} {A B : Option Addr} {n c m d : Nat}, Num W A n c (y + y) → Num W B m d q → Calls Tryz.prog 75 #[.slice A n c, .slice B m d] W (GotV W (.int .i64 (0))) := fun hu hv => by rw [← hc]; exact cmp_N hu hv (by omega) (by omega)
  clear hc hy
  have rl := hrl
  clear hrl
  have cc := Below.refl w.heap.size w
  go_enter Tryz.func115, Tryz.ntmps115
  go_wp2_with fail
  have qq : Below w.heap.size w w.drew := below_drewN (Below.refl _ w) 1
  have ha' := ha.on qq
  have hb' := hb.on qq
  have hq' := hq.on qq
  go_region_held3 (fun w' => w'.cell? ⟨g, 0, none⟩ = some (.bool b0) ∧ w'.cell? ⟨g, 1, none⟩ = some (.slice A0 n0 c0) ∧ w'.cell? ⟨g, 2, none⟩ = some (.slice B0 m0 d0))
    (first | with_reducible exact ⟨cK qq r0 rl, cK qq r1 rl, cK qq r2 rl⟩ | go_keep)
    (first
      | (go_at_call 108; (with_reducible refine (add_N hb' hb' (by omega) (by omega)).mono ?_); rintro e wz ⟨As, ns, cs, rfl, s, q⟩; replace qq := bK qq q; (try replace ha' := ha'.on q); (try replace hb' := hb'.on q); (try replace hq' := hq'.on q); clear q)
      | (go_at_call 75; (with_reducible refine (CC s hq').mono ?_); rintro e wz ⟨rfl, q⟩; replace qq := bK qq q; (try replace ha' := ha'.on q); (try replace hb' := hb'.on q); (try replace hq' := hq'.on q); (try replace s := s.on q); clear q))
  clear ha
  have ha := ha'
  clear ha'
  clear hb
  have hb := hb'
  clear hb'
  clear hq
  have hq := hq'
  clear hq'
  rewrite [cR qq rl] at r0 r1 r2
  replace rl := lK qq rl
  replace cc := bK cc qq
  clear qq
  go_wp2_with fail
  refine (disodd_N r ha hr).mono ?_
  rintro e w9 ⟨rfl, b⟩
  replace ha := ha.on b
  replace hb := hb.on b
  replace hq := hq.on b
  rewrite [cR b rl] at r0 r1 r2
  replace rl := lK b rl
  replace cc := bK cc b
  clear b
  go_wp2_with fail
  go_ret
  exact ⟨rfl, cc⟩

theorem knear_lt {w : World} {g n c m d x y : Nat} {A B : Option Addr} {b0 : Bool} {A0 B0 : Option Addr} {n0 c0 m0 d0 q : Nat} (r0 : w.cell? ⟨g, 0, none⟩ = some (.bool b0)) (r1 : w.cell? ⟨g, 1, none⟩ = some (.slice A0 n0 c0)) (r2 : w.cell? ⟨g, 2, none⟩ = some (.slice B0 m0 d0)) (ha : Num w A n c x) (hb : Num w B m d y) (hq : Num w B0 m0 d0 q) (ly : (limbs y).length ≤ 299) (lq : (limbs q).length ≤ 300) (hy : y + y < q) :
    Calls Tryz.prog 115 #[.slice A n c, .slice B m d, .pointer (some ⟨g, 0, none⟩)] w (GotV w (.bool false)) := by
  have ll : (limbs (y + y)).length ≤ 300 := limbs_length_add ly ly
  have hc : cmpN (y + y) q = -1 := cmpN_lt hy
  have hrl := cell_lt r2
  simp only at hrl
  have CC : ∀ {W : World} {A B : Option Addr} {n c m d : Nat}, Num W A n c (y + y) → Num W B m d q → Calls Tryz.prog 75 #[.slice A n c, .slice B m d] W (GotV W (.int .i64 (-1))) := fun hu hv => by rw [← hc]; exact cmp_N hu hv (by omega) (by omega)
  clear hc hy
  have rl := hrl
  clear hrl
  have cc := Below.refl w.heap.size w
  go_enter Tryz.func115, Tryz.ntmps115
  go_wp2_with fail
  have qq : Below w.heap.size w w.drew := below_drewN (Below.refl _ w) 1
  have ha' := ha.on qq
  have hb' := hb.on qq
  have hq' := hq.on qq
  go_region_held3 (fun w' => w'.cell? ⟨g, 0, none⟩ = some (.bool b0) ∧ w'.cell? ⟨g, 1, none⟩ = some (.slice A0 n0 c0) ∧ w'.cell? ⟨g, 2, none⟩ = some (.slice B0 m0 d0))
    (first | with_reducible exact ⟨cK qq r0 rl, cK qq r1 rl, cK qq r2 rl⟩ | go_keep)
    (first
      | (go_at_call 108; (with_reducible refine (add_N hb' hb' (by omega) (by omega)).mono ?_); rintro e wz ⟨As, ns, cs, rfl, s, q⟩; replace qq := bK qq q; (try replace ha' := ha'.on q); (try replace hb' := hb'.on q); (try replace hq' := hq'.on q); clear q)
      | (go_at_call 75; (with_reducible refine (CC s hq').mono ?_); rintro e wz ⟨rfl, q⟩; replace qq := bK qq q; (try replace ha' := ha'.on q); (try replace hb' := hb'.on q); (try replace hq' := hq'.on q); (try replace s := s.on q); clear q))
  clear ha
  have ha := ha'
  clear ha'
  clear hb
  have hb := hb'
  clear hb'
  clear hq
  have hq := hq'
  clear hq'
  rewrite [cR qq rl] at r0 r1 r2
  replace rl := lK qq rl
  replace cc := bK cc qq
  clear qq
  go_wp2_with fail
  go_ret
  exact ⟨rfl, cc⟩

theorem knear_N {w : World} {g n c m d : Nat} {A B : Option Addr} {b0 : Bool} {A0 B0 : Option Addr} {n0 c0 m0 d0 q u : Nat} (r0 : w.cell? ⟨g, 0, none⟩ = some (.bool b0)) (r1 : w.cell? ⟨g, 1, none⟩ = some (.slice A0 n0 c0)) (r2 : w.cell? ⟨g, 2, none⟩ = some (.slice B0 m0 d0)) (ha : Num w A n c (u / q)) (hb : Num w B m d (u % q)) (hq : Num w B0 m0 d0 q) (ly : (limbs (u % q)).length ≤ 299) (lq : (limbs q).length ≤ 300) :
    Calls Tryz.prog 115 #[.slice A n c, .slice B m d, .pointer (some ⟨g, 0, none⟩)] w (GotV w (.bool (fars u q))) := by
  unfold fars
  rcases Nat.lt_trichotomy q (u % q + u % q) with h | h | h
  · have e : (decide (q < u % q + u % q) || (decide (u % q + u % q = q) && decide (u / q % 2 = 1))) = true := by rw [decide_eq_true h]; rfl
    rw [e]; exact knear_gt r0 r1 r2 ha hb hq ly lq h
  · have e : (decide (q < u % q + u % q) || (decide (u % q + u % q = q) && decide (u / q % 2 = 1))) = decide (u / q % 2 = 1) := by rw [decide_eq_false (show ¬ q < u % q + u % q by omega), decide_eq_true h.symm]; simp
    rw [e]; exact knear_eq r0 r1 r2 ha hb hq ly lq h.symm _ rfl
  · have e : (decide (q < u % q + u % q) || (decide (u % q + u % q = q) && decide (u / q % 2 = 1))) = false := by rw [decide_eq_false (show ¬ q < u % q + u % q by omega), decide_eq_false (show ¬ u % q + u % q = q by omega)]; rfl
    rw [e]; exact knear_lt r0 r1 r2 ha hb hq ly lq h

end Go.Proofs.YtmaolhajeoigpaaGreat

/-
  Numbers rounded to the nearest, ties to even: what fix tells.
-/
namespace Go.Proofs.YtmaolhajeoigpaaGreat
set_option linter.unusedSimpArgs false
set_option linter.unusedVariables false

theorem mk_times (n : Int) (d : Nat) (hd : d ≠ 0) : mkRat n d * ((d : Nat) : Rat) = (n : Rat) := by
  have h2 : ((d : Nat) : Rat) = mkRat ((d : Nat) : Int) 1 := by rw [Rat.mkRat_one]; rfl
  have h3 : (n : Rat) = mkRat n 1 := by rw [Rat.mkRat_one]
  rw [h2, h3, Rat.mkRat_mul_mkRat, Rat.mkRat_eq_iff (by omega) (by decide)]
  simp
theorem nat_pos_rat {d : Nat} (hd : d ≠ 0) : (0 : Rat) < ((d : Nat) : Rat) := Rat.natCast_pos.2 (by omega)
theorem mk_of {A : Rat} {n : Int} {d : Nat} (hd : d ≠ 0) (h : A * ((d : Nat) : Rat) = (n : Rat)) : A = mkRat n d := by
  have h1 := mk_times n d hd
  have h2 := nat_pos_rat hd
  have e := h.trans h1.symm
  exact Rat.le_antisymm (Rat.le_of_mul_le_mul_right (by rw [e]; exact Rat.le_refl) h2) (Rat.le_of_mul_le_mul_right (by rw [e]; exact Rat.le_refl) h2)
/-- A whole number by another one, to the nearest, ties to even. -/
def rn (n : Int) (d : Nat) : Int := nr (mkRat n d)
theorem rn_of {A : Rat} {n : Int} {d : Nat} (hd : d ≠ 0) (h : A * ((d : Nat) : Rat) = (n : Rat)) : nr A = rn n d := by rw [mk_of hd h]; rfl
theorem rn_neg (n : Int) {d : Nat} (hd : d ≠ 0) : rn (-n) d = -rn n d := by
  have h : -mkRat n d = mkRat (-n) d := mk_of hd (by rw [Rat.neg_mul, mk_times n d hd, Rat.intCast_neg])
  unfold rn
  rw [← h, nr_neg]
theorem rn_mono {n m : Int} {d : Nat} (hd : d ≠ 0) (h : n ≤ m) : rn n d ≤ rn m d := by
  refine nr_mono ?_
  apply Rat.le_of_mul_le_mul_right (c := ((d : Nat) : Rat)) _ (nat_pos_rat hd)
  rw [mk_times n d hd, mk_times m d hd]
  exact Rat.intCast_le_intCast.2 h
theorem rn_self (a : Int) {d : Nat} (hd : d ≠ 0) : rn (a * (d : Int)) d = a := by
  have h : (a : Rat) = mkRat (a * (d : Int)) d := mk_of hd (by rw [Rat.intCast_mul]; rfl)
  unfold rn
  rw [← h, nr_int]
theorem rn_nat (u d : Nat) (hd : d ≠ 0) : rn (u : Int) d = ((u / d + (if fars u d = true then 1 else 0) : Nat) : Int) := half_nat u d (by omega) _ (by rw [mk_times _ d hd]; rfl)
theorem rn_one (n : Int) : rn n 1 = n := by have := rn_self n (d := 1) (by omega); simpa using this
/-- What fix's calls tell. -/
theorem nea_sum (a b : Int) : nea ((a : Rat) + (b : Rat)) 0 = a + b := by
  unfold nea dw
  have : ((a : Rat) + (b : Rat)) * ((2 ^ 0 : Nat) : Rat) = ((a + b : Int) : Rat) := by rw [Rat.intCast_add]; simp
  rw [this, nr_int]
theorem nea_diff (a b : Int) : nea ((a : Rat) - (b : Rat)) 0 = a - b := by
  unfold nea dw
  have : ((a : Rat) - (b : Rat)) * ((2 ^ 0 : Nat) : Rat) = ((a - b : Int) : Rat) := by rw [Rat.intCast_sub]; simp
  rw [this, nr_int]
theorem pow_ne (k : Nat) : 2 ^ k ≠ 0 := Nat.ne_of_gt (Nat.pow_pos (by omega))
theorem nea_prod (a b : Int) (k : Nat) : nea (bak a k * bak b k) k = rn (a * b) (2 ^ k) := by
  unfold nea
  refine rn_of (pow_ne k) ?_
  have h1 := bak_mul a k
  have h2 := bak_mul b k
  rw [Rat.intCast_mul, ← h1, ← h2]
  show bak a k * bak b k * dw k * dw k = _
  grind
theorem nea_quot (a b : Int) (k : Nat) (hb : b ≠ 0) : nea ((a : Rat) / (b : Rat)) k = rn (b.sign * (a * ((2 ^ k : Nat) : Int))) b.natAbs := by
  unfold nea
  refine rn_of (by omega) ?_
  have h0 : (b : Rat) ≠ 0 := fun h => hb (Rat.intCast_eq_zero_iff.1 h)
  have h1 : ((b.natAbs : Nat) : Rat) = ((b.sign * b : Int) : Rat) := by
    have : ((b.natAbs : Nat) : Int) = b.sign * b := by
      rcases Int.lt_trichotomy b 0 with h | h | h
      · rw [Int.sign_eq_neg_one_of_neg h]; omega
      · omega
      · rw [Int.sign_eq_one_of_pos h]; omega
    rw [← this]; rfl
  have h2 : dw k = (((2 ^ k : Nat) : Int) : Rat) := rfl
  rw [h1, Rat.intCast_mul, Rat.intCast_mul, Rat.intCast_mul, ← h2]
  generalize (b.sign : Rat) = s
  grind
theorem nea_scale (a n : Int) (d : Nat) (hd : d ≠ 0) : nea ((a : Rat) * (n : Rat) / ((d : Int) : Rat)) 0 = rn (a * n) d := by
  unfold nea
  refine rn_of hd ?_
  have h0 := nat_pos_rat hd
  have h1 : ((d : Int) : Rat) = ((d : Nat) : Rat) := rfl
  have h2 : dw 0 = 1 := rfl
  rw [h1, h2, Rat.intCast_mul]
  grind
end Go.Proofs.YtmaolhajeoigpaaGreat
