/-
  Several texts in one: F6, F7, F8.
-/
import Derived.Test.YtchbhmcaalkfdaaA7
import Derived.Test.YtchbhmcaalkfdaaA6
import Derived.Test.YtchbhmcaalkfdaaA3
import Derived.Test.YtchbhmcaalkfdaaA2

/-
  The contracts of the sixth reference: Back, Floor, Ceil.
-/
namespace Go.Proofs.Ytchbhmcaalkfdaa
open Go.RowKit
set_option linter.unusedVariables false
set_option linter.unusedSimpArgs false

/-- A call has answered an integer and a code. -/
def GotZp (w : World) (z : Int) (r : Int) (e : Ending) (w' : World) : Prop := ∃ b A n c, e = .returned (.tuple #[.agg #[.bool b, .slice A n c], .int .i64 r]) ∧ Zn w' b A n c z ∧ Below w.heap.size w w'
theorem len_pow2 {k : Nat} (h : k ≤ 500) : (limbs (2 ^ k)).length ≤ 8 := by
  refine Nat.le_trans (limbs_length_le (k := k / 64 + 1) ?_) (by omega)
  rw [show B64 = 2 ^ 64 from rfl, ← Nat.pow_mul]
  exact Nat.pow_lt_pow_right (by omega) (by omega)
theorem to_nat {j : Int} (h : 0 ≤ j) : ((j.toNat : Nat) : Int) = j := Int.toNat_of_nonneg h
theorem zn_none (w : World) : Zn w false none 0 0 0 := ⟨num_zero w, rfl⟩

set_option maxRecDepth 100000 in
set_option maxHeartbeats 8000000 in
theorem rback_N {w : World} {b : Bool} {A : Option Addr} {n c : Nat} {z : Int} (ha : Zn w b A n c z) (hz : (limbs z.natAbs).length ≤ 80) {j : Int} (h0 : 0 ≤ j) (h1 : j ≤ 500) :
    Calls Try.prog 19 #[.agg #[.bool b, .slice A n c], .int .i64 j] w (GotRp w (bak z j.toNat) 0) := by
  have t1 : decide (j < 0) = false := decide_eq_false (by omega)
  have t2 : decide (2000 < j) = false := decide_eq_false (by omega)
  have je := to_nat h0
  have jl : j.toNat ≤ 500 := by omega
  obtain ⟨k, hk⟩ : ∃ k, j.toNat = k := ⟨_, rfl⟩
  rw [hk] at je jl ⊢
  have lk := len_pow2 jl
  have CS : ∀ {W : World} {A : Option Addr} {m c x : Nat}, Num W A m c x → (limbs x).length ≤ 1000 → Calls Try.prog 37 #[.slice A m c, .int .i64 j] W (GotP W (x * 2 ^ k) 0) := fun ha hx => by rw [← je]; exact rshl_N ha hx (by omega)
  clear hk
  have hp : 2 ^ k ≠ 0 := Nat.ne_of_gt (Nat.pow_pos (by omega))
  have l1 : (limbs 1).length ≤ 1000 := Nat.le_trans (len_one (by decide)) (by omega)
  clear je h0 h1
  have cc := Below.refl w.heap.size w
  go_enter Try.func19, Try.ntmps19
  go_wp2_with fail
  have f0 : ((w.alloc (.cells #[.bool b, .slice A n c] 25)).alloc (.cells #[.bool false, .slice none 0 0, .slice none 0 0] 27)).frozen? ⟨w.heap.size + 1, 0, none⟩ = false := by simp [go_sem]
  have f1 : ((w.alloc (.cells #[.bool b, .slice A n c] 25)).alloc (.cells #[.bool false, .slice none 0 0, .slice none 0 0] 27)).frozen? ⟨w.heap.size + 1, 1, none⟩ = false := by simp [go_sem]
  have f2 : ((w.alloc (.cells #[.bool b, .slice A n c] 25)).alloc (.cells #[.bool false, .slice none 0 0, .slice none 0 0] 27)).frozen? ⟨w.heap.size + 1, 2, none⟩ = false := by simp [go_sem]
  have bA : Below w.heap.size w ((w.alloc (.cells #[.bool b, .slice A n c] 25)).alloc (.cells #[.bool false, .slice none 0 0, .slice none 0 0] 27)) := (((Below.refl _ w).alloc (by simp) _).alloc (by simp) _)
  replace ha := ha.on bA
  replace cc := bK cc bA
  clear bA
  have k0 : ((w.alloc (.cells #[.bool b, .slice A n c] 25)).alloc (.cells #[.bool false, .slice none 0 0, .slice none 0 0] 27)).cell? ⟨w.heap.size, 0, none⟩ = some (.bool b) := by simp [go_sem]
  have k1 : ((w.alloc (.cells #[.bool b, .slice A n c] 25)).alloc (.cells #[.bool false, .slice none 0 0, .slice none 0 0] 27)).cell? ⟨w.heap.size, 1, none⟩ = some (.slice A n c) := by simp [go_sem]
  have kl : w.heap.size < ((w.alloc (.cells #[.bool b, .slice A n c] 25)).alloc (.cells #[.bool false, .slice none 0 0, .slice none 0 0] 27)).heap.size := by simp <;> omega
  have g0 : ((w.alloc (.cells #[.bool b, .slice A n c] 25)).alloc (.cells #[.bool false, .slice none 0 0, .slice none 0 0] 27)).cell? ⟨w.heap.size + 1, 0, none⟩ = some (.bool false) := by simp [go_sem]
  have g1 : ((w.alloc (.cells #[.bool b, .slice A n c] 25)).alloc (.cells #[.bool false, .slice none 0 0, .slice none 0 0] 27)).cell? ⟨w.heap.size + 1, 1, none⟩ = some (.slice none 0 0) := by simp [go_sem]
  have g2 : ((w.alloc (.cells #[.bool b, .slice A n c] 25)).alloc (.cells #[.bool false, .slice none 0 0, .slice none 0 0] 27)).cell? ⟨w.heap.size + 1, 2, none⟩ = some (.slice none 0 0) := by simp [go_sem]
  have gl : w.heap.size + 1 < ((w.alloc (.cells #[.bool b, .slice A n c] 25)).alloc (.cells #[.bool false, .slice none 0 0, .slice none 0 0] 27)).heap.size := by simp <;> omega
  generalize (w.alloc (.cells #[.bool b, .slice A n c] 25)).alloc (.cells #[.bool false, .slice none 0 0, .slice none 0 0] 27) = v1 at *
  refine (rof_N v1 1 (by decide)).mono ?_
  rintro e w2 ⟨Ao, no, co, rfl, o, b⟩
  replace f0 := fK b f0 gl
  replace f1 := fK b f1 gl
  replace f2 := fK b f2 gl
  replace ha := ha.on b
  replace k0 := cK b k0 kl
  replace k1 := cK b k1 kl
  replace kl := lK b kl
  replace g0 := cK b g0 gl
  replace g1 := cK b g1 gl
  replace g2 := cK b g2 gl
  replace gl := lK b gl
  replace cc := bK cc b
  clear b
  go_wp2_with fail
  refine (CS o l1).mono ?_
  rintro e w3 ⟨Aq, nq, cq, rfl, q, b⟩
  rw [Nat.one_mul] at q
  replace f0 := fK b f0 gl
  replace f1 := fK b f1 gl
  replace f2 := fK b f2 gl
  replace ha := ha.on b
  replace o := o.on b
  replace k0 := cK b k0 kl
  replace k1 := cK b k1 kl
  replace kl := lK b kl
  replace g0 := cK b g0 gl
  replace g1 := cK b g1 gl
  replace g2 := cK b g2 gl
  replace gl := lK b gl
  replace cc := bK cc b
  clear b
  go_wp2_with fail
  refine (rtmake_N ha q hp (by omega) (by omega)).mono ?_
  rintro e w4 ⟨bm, Am, nm, cm, Bm, mm, dm, rfl, hm, b⟩
  replace f0 := fK b f0 gl
  replace f1 := fK b f1 gl
  replace f2 := fK b f2 gl
  replace ha := ha.on b
  replace o := o.on b
  replace q := q.on b
  replace k0 := cK b k0 kl
  replace k1 := cK b k1 kl
  replace kl := lK b kl
  replace g0 := cK b g0 gl
  replace g1 := cK b g1 gl
  replace g2 := cK b g2 gl
  replace gl := lK b gl
  replace cc := bK cc b
  clear b
  have hn : Rt w4 bm Am nm cm Bm mm dm (bak z k) := hm
  have eb : BoxR w4 (w.heap.size + 1) false none 0 0 none 0 0 := ⟨g0, g1, g2⟩
  have HZ : Hid (Rt (putR w4 (w.heap.size + 1) (.bool bm) (.slice Am nm cm) (.slice Bm mm dm)) bm Am nm cm Bm mm dm (bak z k)) := Lib.hid (Rt.putR hn eb _ _ _)
  clear hn
  go_wp2_with fail
  refine bodyPost_ret (v := .tuple #[.agg #[.bool bm, .slice Am nm cm, .slice Bm mm dm], .int .i64 0]) (by simp [results, Try.results19, go_sem, g0, g1, g2]) rfl ⟨_, _, _, _, _, _, _, rfl, HZ.out, below_putR cc (by omega) _ _ _⟩

set_option maxRecDepth 100000 in
set_option maxHeartbeats 8000000 in
theorem rback_no0 {w : World} {b : Bool} {A : Option Addr} {n c : Nat} {j : Int} (h : j < 0) :
    Calls Try.prog 19 #[.agg #[.bool b, .slice A n c], .int .i64 j] w (GotV w (.tuple #[.agg #[.bool false, .slice none 0 0, .slice none 0 0], .int .i64 1])) := by
  have t1 : decide (j < 0) = true := decide_eq_true h
  have cc := Below.refl w.heap.size w
  go_enter Try.func19, Try.ntmps19
  go_wp2_with fail
  have f0 : ((w.alloc (.cells #[.bool b, .slice A n c] 25)).alloc (.cells #[.bool false, .slice none 0 0, .slice none 0 0] 27)).frozen? ⟨w.heap.size + 1, 0, none⟩ = false := by simp [go_sem]
  have f1 : ((w.alloc (.cells #[.bool b, .slice A n c] 25)).alloc (.cells #[.bool false, .slice none 0 0, .slice none 0 0] 27)).frozen? ⟨w.heap.size + 1, 1, none⟩ = false := by simp [go_sem]
  have f2 : ((w.alloc (.cells #[.bool b, .slice A n c] 25)).alloc (.cells #[.bool false, .slice none 0 0, .slice none 0 0] 27)).frozen? ⟨w.heap.size + 1, 2, none⟩ = false := by simp [go_sem]
  have bA : Below w.heap.size w ((w.alloc (.cells #[.bool b, .slice A n c] 25)).alloc (.cells #[.bool false, .slice none 0 0, .slice none 0 0] 27)) := (((Below.refl _ w).alloc (by simp) _).alloc (by simp) _)
  replace cc := bK cc bA
  clear bA
  have k0 : ((w.alloc (.cells #[.bool b, .slice A n c] 25)).alloc (.cells #[.bool false, .slice none 0 0, .slice none 0 0] 27)).cell? ⟨w.heap.size, 0, none⟩ = some (.bool b) := by simp [go_sem]
  have k1 : ((w.alloc (.cells #[.bool b, .slice A n c] 25)).alloc (.cells #[.bool false, .slice none 0 0, .slice none 0 0] 27)).cell? ⟨w.heap.size, 1, none⟩ = some (.slice A n c) := by simp [go_sem]
  have kl : w.heap.size < ((w.alloc (.cells #[.bool b, .slice A n c] 25)).alloc (.cells #[.bool false, .slice none 0 0, .slice none 0 0] 27)).heap.size := by simp <;> omega
  have g0 : ((w.alloc (.cells #[.bool b, .slice A n c] 25)).alloc (.cells #[.bool false, .slice none 0 0, .slice none 0 0] 27)).cell? ⟨w.heap.size + 1, 0, none⟩ = some (.bool false) := by simp [go_sem]
  have g1 : ((w.alloc (.cells #[.bool b, .slice A n c] 25)).alloc (.cells #[.bool false, .slice none 0 0, .slice none 0 0] 27)).cell? ⟨w.heap.size + 1, 1, none⟩ = some (.slice none 0 0) := by simp [go_sem]
  have g2 : ((w.alloc (.cells #[.bool b, .slice A n c] 25)).alloc (.cells #[.bool false, .slice none 0 0, .slice none 0 0] 27)).cell? ⟨w.heap.size + 1, 2, none⟩ = some (.slice none 0 0) := by simp [go_sem]
  have gl : w.heap.size + 1 < ((w.alloc (.cells #[.bool b, .slice A n c] 25)).alloc (.cells #[.bool false, .slice none 0 0, .slice none 0 0] 27)).heap.size := by simp <;> omega
  generalize (w.alloc (.cells #[.bool b, .slice A n c] 25)).alloc (.cells #[.bool false, .slice none 0 0, .slice none 0 0] 27) = v1 at *
  exact bodyPost_ret (v := .tuple #[.agg #[.bool false, .slice none 0 0, .slice none 0 0], .int .i64 1]) (by simp [results, Try.results19, go_sem, g0, g1, g2]) rfl ⟨rfl, cc⟩

set_option maxRecDepth 100000 in
set_option maxHeartbeats 8000000 in
theorem rback_no1 {w : World} {b : Bool} {A : Option Addr} {n c : Nat} {j : Int} (h : 2000 < j) :
    Calls Try.prog 19 #[.agg #[.bool b, .slice A n c], .int .i64 j] w (GotV w (.tuple #[.agg #[.bool false, .slice none 0 0, .slice none 0 0], .int .i64 1])) := by
  have t1 : decide (j < 0) = false := decide_eq_false (by omega)
  have t2 : decide (2000 < j) = true := decide_eq_true h
  have cc := Below.refl w.heap.size w
  go_enter Try.func19, Try.ntmps19
  go_wp2_with fail
  have f0 : ((w.alloc (.cells #[.bool b, .slice A n c] 25)).alloc (.cells #[.bool false, .slice none 0 0, .slice none 0 0] 27)).frozen? ⟨w.heap.size + 1, 0, none⟩ = false := by simp [go_sem]
  have f1 : ((w.alloc (.cells #[.bool b, .slice A n c] 25)).alloc (.cells #[.bool false, .slice none 0 0, .slice none 0 0] 27)).frozen? ⟨w.heap.size + 1, 1, none⟩ = false := by simp [go_sem]
  have f2 : ((w.alloc (.cells #[.bool b, .slice A n c] 25)).alloc (.cells #[.bool false, .slice none 0 0, .slice none 0 0] 27)).frozen? ⟨w.heap.size + 1, 2, none⟩ = false := by simp [go_sem]
  have bA : Below w.heap.size w ((w.alloc (.cells #[.bool b, .slice A n c] 25)).alloc (.cells #[.bool false, .slice none 0 0, .slice none 0 0] 27)) := (((Below.refl _ w).alloc (by simp) _).alloc (by simp) _)
  replace cc := bK cc bA
  clear bA
  have k0 : ((w.alloc (.cells #[.bool b, .slice A n c] 25)).alloc (.cells #[.bool false, .slice none 0 0, .slice none 0 0] 27)).cell? ⟨w.heap.size, 0, none⟩ = some (.bool b) := by simp [go_sem]
  have k1 : ((w.alloc (.cells #[.bool b, .slice A n c] 25)).alloc (.cells #[.bool false, .slice none 0 0, .slice none 0 0] 27)).cell? ⟨w.heap.size, 1, none⟩ = some (.slice A n c) := by simp [go_sem]
  have kl : w.heap.size < ((w.alloc (.cells #[.bool b, .slice A n c] 25)).alloc (.cells #[.bool false, .slice none 0 0, .slice none 0 0] 27)).heap.size := by simp <;> omega
  have g0 : ((w.alloc (.cells #[.bool b, .slice A n c] 25)).alloc (.cells #[.bool false, .slice none 0 0, .slice none 0 0] 27)).cell? ⟨w.heap.size + 1, 0, none⟩ = some (.bool false) := by simp [go_sem]
  have g1 : ((w.alloc (.cells #[.bool b, .slice A n c] 25)).alloc (.cells #[.bool false, .slice none 0 0, .slice none 0 0] 27)).cell? ⟨w.heap.size + 1, 1, none⟩ = some (.slice none 0 0) := by simp [go_sem]
  have g2 : ((w.alloc (.cells #[.bool b, .slice A n c] 25)).alloc (.cells #[.bool false, .slice none 0 0, .slice none 0 0] 27)).cell? ⟨w.heap.size + 1, 2, none⟩ = some (.slice none 0 0) := by simp [go_sem]
  have gl : w.heap.size + 1 < ((w.alloc (.cells #[.bool b, .slice A n c] 25)).alloc (.cells #[.bool false, .slice none 0 0, .slice none 0 0] 27)).heap.size := by simp <;> omega
  generalize (w.alloc (.cells #[.bool b, .slice A n c] 25)).alloc (.cells #[.bool false, .slice none 0 0, .slice none 0 0] 27) = v1 at *
  exact bodyPost_ret (v := .tuple #[.agg #[.bool false, .slice none 0 0, .slice none 0 0], .int .i64 1]) (by simp [results, Try.results19, go_sem, g0, g1, g2]) rfl ⟨rfl, cc⟩

set_option maxRecDepth 100000 in
set_option maxHeartbeats 8000000 in
theorem rback_no {w : World} {b : Bool} {A : Option Addr} {n c : Nat} {j : Int} (h : j < 0 ∨ 2000 < j) :
    Calls Try.prog 19 #[.agg #[.bool b, .slice A n c], .int .i64 j] w (GotV w (.tuple #[.agg #[.bool false, .slice none 0 0, .slice none 0 0], .int .i64 1])) := by
  rcases h with h | h
  · exact rback_no0 h
  · exact rback_no1 h

set_option maxRecDepth 100000 in
set_option maxHeartbeats 8000000 in
theorem rfloor_pos {w : World} {b0 : Bool} {A0 B0 : Option Addr} {n0 c0 m0 d0 : Nat} {x0 : Rat} (hx : Rt w b0 A0 n0 c0 B0 m0 d0 x0) (s0 : Sz x0 30) {j : Int} (h0 : 0 ≤ j) (h1 : j ≤ 500) (hs : ¬ x0.num < 0) :
    Calls Try.prog 13 #[.agg #[.bool b0, .slice A0 n0 c0, .slice B0 m0 d0], .int .i64 j] w (GotZp w (flo x0 j.toNat) 0) := by
  have t1 : decide (j < 0) = false := decide_eq_false (by omega)
  have t2 : decide (2000 < j) = false := decide_eq_false (by omega)
  have je := to_nat h0
  have jl : j.toNat ≤ 500 := by omega
  obtain ⟨k, hk⟩ : ∃ k, j.toNat = k := ⟨_, rfl⟩
  rw [hk] at je jl ⊢
  have lk := len_pow2 jl
  have CS : ∀ {W : World} {A : Option Addr} {m c x : Nat}, Num W A m c x → (limbs x).length ≤ 1000 → Calls Try.prog 37 #[.slice A m c, .int .i64 j] W (GotP W (x * 2 ^ k) 0) := fun ha hx => by rw [← je]; exact rshl_N ha hx (by omega)
  clear hk
  have p0 := hx.1.1
  have q0 := hx.2
  have hb0 : b0 = false := by rw [hx.1.2]; exact decide_eq_false hs
  subst hb0
  have lp := s0.1
  have lq := s0.2
  have hq0 := x0.den_nz
  have lu : (limbs (x0.num.natAbs * 2 ^ k)).length ≤ 38 := limbs_length_mul lp lk
  have ld : (limbs (x0.num.natAbs * 2 ^ k / x0.den)).length ≤ 38 := Nat.le_trans (limbs_length_mono (Nat.div_le_self _ _)) lu
  obtain ⟨u, hU⟩ : ∃ u, x0.num.natAbs * 2 ^ k = u := ⟨_, rfl⟩
  have HF : Hid (flo x0 k = ((u / x0.den : Nat) : Int)) := Lib.hid (by rw [← hU]; exact flo_pos x0 k hs)
  rw [hU] at lu ld
  have CU : ∀ {W : World} {A : Option Addr} {m c : Nat}, Num W A m c x0.num.natAbs → Calls Try.prog 37 #[.slice A m c, .int .i64 j] W (GotP W u 0) := fun ha => by rw [← hU]; exact CS ha (by omega)
  clear hU CS hs je h0 h1
  have cc := Below.refl w.heap.size w
  go_enter Try.func13, Try.ntmps13
  go_wp2_with fail
  have f0 : ((w.alloc (.cells #[.bool false, .slice A0 n0 c0, .slice B0 m0 d0] 27)).alloc (.cells #[.bool false, .slice none 0 0] 25)).frozen? ⟨w.heap.size + 1, 0, none⟩ = false := by simp [go_sem]
  have f1 : ((w.alloc (.cells #[.bool false, .slice A0 n0 c0, .slice B0 m0 d0] 27)).alloc (.cells #[.bool false, .slice none 0 0] 25)).frozen? ⟨w.heap.size + 1, 1, none⟩ = false := by simp [go_sem]
  have bA : Below w.heap.size w ((w.alloc (.cells #[.bool false, .slice A0 n0 c0, .slice B0 m0 d0] 27)).alloc (.cells #[.bool false, .slice none 0 0] 25)) := (((Below.refl _ w).alloc (by simp) _).alloc (by simp) _)
  replace p0 := p0.on bA
  replace q0 := q0.on bA
  replace cc := bK cc bA
  clear bA
  have k0 : ((w.alloc (.cells #[.bool false, .slice A0 n0 c0, .slice B0 m0 d0] 27)).alloc (.cells #[.bool false, .slice none 0 0] 25)).cell? ⟨w.heap.size, 0, none⟩ = some (.bool false) := by simp [go_sem]
  have k1 : ((w.alloc (.cells #[.bool false, .slice A0 n0 c0, .slice B0 m0 d0] 27)).alloc (.cells #[.bool false, .slice none 0 0] 25)).cell? ⟨w.heap.size, 1, none⟩ = some (.slice A0 n0 c0) := by simp [go_sem]
  have k2 : ((w.alloc (.cells #[.bool false, .slice A0 n0 c0, .slice B0 m0 d0] 27)).alloc (.cells #[.bool false, .slice none 0 0] 25)).cell? ⟨w.heap.size, 2, none⟩ = some (.slice B0 m0 d0) := by simp [go_sem]
  have kl : w.heap.size < ((w.alloc (.cells #[.bool false, .slice A0 n0 c0, .slice B0 m0 d0] 27)).alloc (.cells #[.bool false, .slice none 0 0] 25)).heap.size := by simp <;> omega
  have g0 : ((w.alloc (.cells #[.bool false, .slice A0 n0 c0, .slice B0 m0 d0] 27)).alloc (.cells #[.bool false, .slice none 0 0] 25)).cell? ⟨w.heap.size + 1, 0, none⟩ = some (.bool false) := by simp [go_sem]
  have g1 : ((w.alloc (.cells #[.bool false, .slice A0 n0 c0, .slice B0 m0 d0] 27)).alloc (.cells #[.bool false, .slice none 0 0] 25)).cell? ⟨w.heap.size + 1, 1, none⟩ = some (.slice none 0 0) := by simp [go_sem]
  have gl : w.heap.size + 1 < ((w.alloc (.cells #[.bool false, .slice A0 n0 c0, .slice B0 m0 d0] 27)).alloc (.cells #[.bool false, .slice none 0 0] 25)).heap.size := by simp <;> omega
  generalize (w.alloc (.cells #[.bool false, .slice A0 n0 c0, .slice B0 m0 d0] 27)).alloc (.cells #[.bool false, .slice none 0 0] 25) = v1 at *
  refine (CU p0).mono ?_
  rintro e w2 ⟨Av, nv, cv, rfl, v, b⟩
  replace f0 := fK b f0 gl
  replace f1 := fK b f1 gl
  replace p0 := p0.on b
  replace q0 := q0.on b
  replace k0 := cK b k0 kl
  replace k1 := cK b k1 kl
  replace k2 := cK b k2 kl
  replace kl := lK b kl
  replace g0 := cK b g0 gl
  replace g1 := cK b g1 gl
  replace gl := lK b gl
  replace cc := bK cc b
  clear b
  go_wp2_with fail
  refine (rdiv_N v q0 (by omega) (by omega) hq0).mono ?_
  rintro e w3 ⟨Aq, nq, cq, Ar, nr_, cr, rfl, dq, dr, b⟩
  replace f0 := fK b f0 gl
  replace f1 := fK b f1 gl
  replace p0 := p0.on b
  replace q0 := q0.on b
  replace v := v.on b
  replace k0 := cK b k0 kl
  replace k1 := cK b k1 kl
  replace k2 := cK b k2 kl
  replace kl := lK b kl
  replace g0 := cK b g0 gl
  replace g1 := cK b g1 gl
  replace gl := lK b gl
  replace cc := bK cc b
  clear b
  have hn : Zn w3 false Aq nq cq (flo x0 k) := by rw [HF.out]; exact zn_nat dq
  have eb : Box w3 (w.heap.size + 1) false none 0 0 := ⟨g0, g1⟩
  have HZ : Hid (Zn ((w3.setCell ⟨w.heap.size + 1, 0, none⟩ (.bool false)).setCell ⟨w.heap.size + 1, 1, none⟩ (.slice Aq nq cq)) false Aq nq cq (flo x0 k)) := Lib.hid (hn.put eb _ _)
  clear hn
  go_wp2_with fail
  refine bodyPost_ret (v := .tuple #[.agg #[.bool false, .slice Aq nq cq], .int .i64 0]) (by simp [results, Try.results13, go_sem, g0, g1]) rfl ⟨_, _, _, _, rfl, HZ.out, below_put cc (by omega) _ _⟩

set_option maxRecDepth 100000 in
set_option maxHeartbeats 8000000 in
theorem rfloor_neg0 {w : World} {b0 : Bool} {A0 B0 : Option Addr} {n0 c0 m0 d0 : Nat} {x0 : Rat} (hx : Rt w b0 A0 n0 c0 B0 m0 d0 x0) (s0 : Sz x0 30) {j : Int} (h0 : 0 ≤ j) (h1 : j ≤ 500) (hs : x0.num < 0) (hr : x0.num.natAbs * 2 ^ j.toNat % x0.den = 0) :
    Calls Try.prog 13 #[.agg #[.bool b0, .slice A0 n0 c0, .slice B0 m0 d0], .int .i64 j] w (GotZp w (flo x0 j.toNat) 0) := by
  have t1 : decide (j < 0) = false := decide_eq_false (by omega)
  have t2 : decide (2000 < j) = false := decide_eq_false (by omega)
  have je := to_nat h0
  have jl : j.toNat ≤ 500 := by omega
  obtain ⟨k, hk⟩ : ∃ k, j.toNat = k := ⟨_, rfl⟩
  rw [hk] at je jl hr ⊢
  have lk := len_pow2 jl
  have CS : ∀ {W : World} {A : Option Addr} {m c x : Nat}, Num W A m c x → (limbs x).length ≤ 1000 → Calls Try.prog 37 #[.slice A m c, .int .i64 j] W (GotP W (x * 2 ^ k) 0) := fun ha hx => by rw [← je]; exact rshl_N ha hx (by omega)
  clear hk
  have p0 := hx.1.1
  have q0 := hx.2
  have hb0 : b0 = true := by rw [hx.1.2]; exact decide_eq_true hs
  subst hb0
  have lp := s0.1
  have lq := s0.2
  have hq0 := x0.den_nz
  have lu : (limbs (x0.num.natAbs * 2 ^ k)).length ≤ 38 := limbs_length_mul lp lk
  have ld : (limbs (x0.num.natAbs * 2 ^ k / x0.den)).length ≤ 38 := Nat.le_trans (limbs_length_mono (Nat.div_le_self _ _)) lu
  obtain ⟨u, hU⟩ : ∃ u, x0.num.natAbs * 2 ^ k = u := ⟨_, rfl⟩
  have HF : Hid (flo x0 k = -((u / x0.den : Nat) : Int)) := Lib.hid (by rw [flo_neg x0 k hs, hU, if_pos (by rw [← hU]; exact hr), Nat.add_zero])
  have HR : Hid (u % x0.den = 0) := Lib.hid (by rw [← hU]; exact hr)
  rw [hU] at lu ld
  have CU : ∀ {W : World} {A : Option Addr} {m c : Nat}, Num W A m c x0.num.natAbs → Calls Try.prog 37 #[.slice A m c, .int .i64 j] W (GotP W u 0) := fun ha => by rw [← hU]; exact CS ha (by omega)
  clear hU CS hs je h0 h1 hr
  have cc := Below.refl w.heap.size w
  go_enter Try.func13, Try.ntmps13
  go_wp2_with fail
  have f0 : ((w.alloc (.cells #[.bool true, .slice A0 n0 c0, .slice B0 m0 d0] 27)).alloc (.cells #[.bool false, .slice none 0 0] 25)).frozen? ⟨w.heap.size + 1, 0, none⟩ = false := by simp [go_sem]
  have f1 : ((w.alloc (.cells #[.bool true, .slice A0 n0 c0, .slice B0 m0 d0] 27)).alloc (.cells #[.bool false, .slice none 0 0] 25)).frozen? ⟨w.heap.size + 1, 1, none⟩ = false := by simp [go_sem]
  have bA : Below w.heap.size w ((w.alloc (.cells #[.bool true, .slice A0 n0 c0, .slice B0 m0 d0] 27)).alloc (.cells #[.bool false, .slice none 0 0] 25)) := (((Below.refl _ w).alloc (by simp) _).alloc (by simp) _)
  replace p0 := p0.on bA
  replace q0 := q0.on bA
  replace cc := bK cc bA
  clear bA
  have k0 : ((w.alloc (.cells #[.bool true, .slice A0 n0 c0, .slice B0 m0 d0] 27)).alloc (.cells #[.bool false, .slice none 0 0] 25)).cell? ⟨w.heap.size, 0, none⟩ = some (.bool true) := by simp [go_sem]
  have k1 : ((w.alloc (.cells #[.bool true, .slice A0 n0 c0, .slice B0 m0 d0] 27)).alloc (.cells #[.bool false, .slice none 0 0] 25)).cell? ⟨w.heap.size, 1, none⟩ = some (.slice A0 n0 c0) := by simp [go_sem]
  have k2 : ((w.alloc (.cells #[.bool true, .slice A0 n0 c0, .slice B0 m0 d0] 27)).alloc (.cells #[.bool false, .slice none 0 0] 25)).cell? ⟨w.heap.size, 2, none⟩ = some (.slice B0 m0 d0) := by simp [go_sem]
  have kl : w.heap.size < ((w.alloc (.cells #[.bool true, .slice A0 n0 c0, .slice B0 m0 d0] 27)).alloc (.cells #[.bool false, .slice none 0 0] 25)).heap.size := by simp <;> omega
  have g0 : ((w.alloc (.cells #[.bool true, .slice A0 n0 c0, .slice B0 m0 d0] 27)).alloc (.cells #[.bool false, .slice none 0 0] 25)).cell? ⟨w.heap.size + 1, 0, none⟩ = some (.bool false) := by simp [go_sem]
  have g1 : ((w.alloc (.cells #[.bool true, .slice A0 n0 c0, .slice B0 m0 d0] 27)).alloc (.cells #[.bool false, .slice none 0 0] 25)).cell? ⟨w.heap.size + 1, 1, none⟩ = some (.slice none 0 0) := by simp [go_sem]
  have gl : w.heap.size + 1 < ((w.alloc (.cells #[.bool true, .slice A0 n0 c0, .slice B0 m0 d0] 27)).alloc (.cells #[.bool false, .slice none 0 0] 25)).heap.size := by simp <;> omega
  generalize (w.alloc (.cells #[.bool true, .slice A0 n0 c0, .slice B0 m0 d0] 27)).alloc (.cells #[.bool false, .slice none 0 0] 25) = v1 at *
  refine (CU p0).mono ?_
  rintro e w2 ⟨Av, nv, cv, rfl, v, b⟩
  replace f0 := fK b f0 gl
  replace f1 := fK b f1 gl
  replace p0 := p0.on b
  replace q0 := q0.on b
  replace k0 := cK b k0 kl
  replace k1 := cK b k1 kl
  replace k2 := cK b k2 kl
  replace kl := lK b kl
  replace g0 := cK b g0 gl
  replace g1 := cK b g1 gl
  replace gl := lK b gl
  replace cc := bK cc b
  clear b
  go_wp2_with fail
  refine (rdiv_N v q0 (by omega) (by omega) hq0).mono ?_
  rintro e w3 ⟨Aq, nq, cq, Ar, nr_, cr, rfl, dq, dr, b⟩
  replace f0 := fK b f0 gl
  replace f1 := fK b f1 gl
  replace p0 := p0.on b
  replace q0 := q0.on b
  replace v := v.on b
  replace k0 := cK b k0 kl
  replace k1 := cK b k1 kl
  replace k2 := cK b k2 kl
  replace kl := lK b kl
  replace g0 := cK b g0 gl
  replace g1 := cK b g1 gl
  replace gl := lK b gl
  replace cc := bK cc b
  clear b
  have hz := dr.len
  rw [HR.out, limbs_zero] at hz
  simp only [List.length_nil] at hz
  subst hz
  have zq := zn_nat dq
  have lz : (limbs ((u / x0.den : Nat) : Int).natAbs).length ≤ 1000000 := by rw [Int.natAbs_natCast]; omega
  go_wp2_with fail
  refine (rzneg_N zq lz).mono ?_
  rintro e w4 ⟨bm, Am, nm, cm, rfl, hm, b⟩
  replace f0 := fK b f0 gl
  replace f1 := fK b f1 gl
  replace p0 := p0.on b
  replace q0 := q0.on b
  replace v := v.on b
  replace dq := dq.on b
  replace dr := dr.on b
  replace zq := zq.on b
  replace k0 := cK b k0 kl
  replace k1 := cK b k1 kl
  replace k2 := cK b k2 kl
  replace kl := lK b kl
  replace g0 := cK b g0 gl
  replace g1 := cK b g1 gl
  replace gl := lK b gl
  replace cc := bK cc b
  clear b
  have hn : Zn w4 bm Am nm cm (flo x0 k) := by rw [HF.out]; exact hm
  have eb : Box w4 (w.heap.size + 1) false none 0 0 := ⟨g0, g1⟩
  have HZ : Hid (Zn ((w4.setCell ⟨w.heap.size + 1, 0, none⟩ (.bool bm)).setCell ⟨w.heap.size + 1, 1, none⟩ (.slice Am nm cm)) bm Am nm cm (flo x0 k)) := Lib.hid (hn.put eb _ _)
  clear hn
  go_wp2_with fail
  refine bodyPost_ret (v := .tuple #[.agg #[.bool bm, .slice Am nm cm], .int .i64 0]) (by simp [results, Try.results13, go_sem, g0, g1]) rfl ⟨_, _, _, _, rfl, HZ.out, below_put cc (by omega) _ _⟩

set_option maxRecDepth 100000 in
set_option maxHeartbeats 8000000 in
theorem rfloor_neg1 {w : World} {b0 : Bool} {A0 B0 : Option Addr} {n0 c0 m0 d0 : Nat} {x0 : Rat} (hx : Rt w b0 A0 n0 c0 B0 m0 d0 x0) (s0 : Sz x0 30) {j : Int} (h0 : 0 ≤ j) (h1 : j ≤ 500) (hs : x0.num < 0) (hr : x0.num.natAbs * 2 ^ j.toNat % x0.den ≠ 0) :
    Calls Try.prog 13 #[.agg #[.bool b0, .slice A0 n0 c0, .slice B0 m0 d0], .int .i64 j] w (GotZp w (flo x0 j.toNat) 0) := by
  have t1 : decide (j < 0) = false := decide_eq_false (by omega)
  have t2 : decide (2000 < j) = false := decide_eq_false (by omega)
  have je := to_nat h0
  have jl : j.toNat ≤ 500 := by omega
  obtain ⟨k, hk⟩ : ∃ k, j.toNat = k := ⟨_, rfl⟩
  rw [hk] at je jl hr ⊢
  have lk := len_pow2 jl
  have CS : ∀ {W : World} {A : Option Addr} {m c x : Nat}, Num W A m c x → (limbs x).length ≤ 1000 → Calls Try.prog 37 #[.slice A m c, .int .i64 j] W (GotP W (x * 2 ^ k) 0) := fun ha hx => by rw [← je]; exact rshl_N ha hx (by omega)
  clear hk
  have p0 := hx.1.1
  have q0 := hx.2
  have hb0 : b0 = true := by rw [hx.1.2]; exact decide_eq_true hs
  subst hb0
  have lp := s0.1
  have lq := s0.2
  have hq0 := x0.den_nz
  have lu : (limbs (x0.num.natAbs * 2 ^ k)).length ≤ 38 := limbs_length_mul lp lk
  have ld : (limbs (x0.num.natAbs * 2 ^ k / x0.den)).length ≤ 38 := Nat.le_trans (limbs_length_mono (Nat.div_le_self _ _)) lu
  obtain ⟨u, hU⟩ : ∃ u, x0.num.natAbs * 2 ^ k = u := ⟨_, rfl⟩
  have HF : Hid (flo x0 k = -((u / x0.den + 1 : Nat) : Int)) := Lib.hid (by rw [flo_neg x0 k hs, hU, if_neg (by rw [← hU]; exact hr)])
  have HR : Hid (u % x0.den ≠ 0) := Lib.hid (by rw [← hU]; exact hr)
  have la : (limbs (u / x0.den + 1)).length ≤ 39 := by rw [← hU]; exact limbs_length_add ld (Nat.le_trans (len_one (by decide)) (by omega))
  rw [hU] at lu ld
  have CU : ∀ {W : World} {A : Option Addr} {m c : Nat}, Num W A m c x0.num.natAbs → Calls Try.prog 37 #[.slice A m c, .int .i64 j] W (GotP W u 0) := fun ha => by rw [← hU]; exact CS ha (by omega)
  clear hU CS hs je h0 h1 hr
  have cc := Below.refl w.heap.size w
  go_enter Try.func13, Try.ntmps13
  go_wp2_with fail
  have f0 : ((w.alloc (.cells #[.bool true, .slice A0 n0 c0, .slice B0 m0 d0] 27)).alloc (.cells #[.bool false, .slice none 0 0] 25)).frozen? ⟨w.heap.size + 1, 0, none⟩ = false := by simp [go_sem]
  have f1 : ((w.alloc (.cells #[.bool true, .slice A0 n0 c0, .slice B0 m0 d0] 27)).alloc (.cells #[.bool false, .slice none 0 0] 25)).frozen? ⟨w.heap.size + 1, 1, none⟩ = false := by simp [go_sem]
  have bA : Below w.heap.size w ((w.alloc (.cells #[.bool true, .slice A0 n0 c0, .slice B0 m0 d0] 27)).alloc (.cells #[.bool false, .slice none 0 0] 25)) := (((Below.refl _ w).alloc (by simp) _).alloc (by simp) _)
  replace p0 := p0.on bA
  replace q0 := q0.on bA
  replace cc := bK cc bA
  clear bA
  have k0 : ((w.alloc (.cells #[.bool true, .slice A0 n0 c0, .slice B0 m0 d0] 27)).alloc (.cells #[.bool false, .slice none 0 0] 25)).cell? ⟨w.heap.size, 0, none⟩ = some (.bool true) := by simp [go_sem]
  have k1 : ((w.alloc (.cells #[.bool true, .slice A0 n0 c0, .slice B0 m0 d0] 27)).alloc (.cells #[.bool false, .slice none 0 0] 25)).cell? ⟨w.heap.size, 1, none⟩ = some (.slice A0 n0 c0) := by simp [go_sem]
  have k2 : ((w.alloc (.cells #[.bool true, .slice A0 n0 c0, .slice B0 m0 d0] 27)).alloc (.cells #[.bool false, .slice none 0 0] 25)).cell? ⟨w.heap.size, 2, none⟩ = some (.slice B0 m0 d0) := by simp [go_sem]
  have kl : w.heap.size < ((w.alloc (.cells #[.bool true, .slice A0 n0 c0, .slice B0 m0 d0] 27)).alloc (.cells #[.bool false, .slice none 0 0] 25)).heap.size := by simp <;> omega
  have g0 : ((w.alloc (.cells #[.bool true, .slice A0 n0 c0, .slice B0 m0 d0] 27)).alloc (.cells #[.bool false, .slice none 0 0] 25)).cell? ⟨w.heap.size + 1, 0, none⟩ = some (.bool false) := by simp [go_sem]
  have g1 : ((w.alloc (.cells #[.bool true, .slice A0 n0 c0, .slice B0 m0 d0] 27)).alloc (.cells #[.bool false, .slice none 0 0] 25)).cell? ⟨w.heap.size + 1, 1, none⟩ = some (.slice none 0 0) := by simp [go_sem]
  have gl : w.heap.size + 1 < ((w.alloc (.cells #[.bool true, .slice A0 n0 c0, .slice B0 m0 d0] 27)).alloc (.cells #[.bool false, .slice none 0 0] 25)).heap.size := by simp <;> omega
  generalize (w.alloc (.cells #[.bool true, .slice A0 n0 c0, .slice B0 m0 d0] 27)).alloc (.cells #[.bool false, .slice none 0 0] 25) = v1 at *
  refine (CU p0).mono ?_
  rintro e w2 ⟨Av, nv, cv, rfl, v, b⟩
  replace f0 := fK b f0 gl
  replace f1 := fK b f1 gl
  replace p0 := p0.on b
  replace q0 := q0.on b
  replace k0 := cK b k0 kl
  replace k1 := cK b k1 kl
  replace k2 := cK b k2 kl
  replace kl := lK b kl
  replace g0 := cK b g0 gl
  replace g1 := cK b g1 gl
  replace gl := lK b gl
  replace cc := bK cc b
  clear b
  go_wp2_with fail
  refine (rdiv_N v q0 (by omega) (by omega) hq0).mono ?_
  rintro e w3 ⟨Aq, nq, cq, Ar, nr_, cr, rfl, dq, dr, b⟩
  replace f0 := fK b f0 gl
  replace f1 := fK b f1 gl
  replace p0 := p0.on b
  replace q0 := q0.on b
  replace v := v.on b
  replace k0 := cK b k0 kl
  replace k1 := cK b k1 kl
  replace k2 := cK b k2 kl
  replace kl := lK b kl
  replace g0 := cK b g0 gl
  replace g1 := cK b g1 gl
  replace gl := lK b gl
  replace cc := bK cc b
  clear b
  have hz : 0 < nr_ := dr.some_len HR.out
  have hz0 : decide ((0 : Int) < (nr_ : Int)) = true := decide_eq_true (by omega)
  have lz : (limbs ((u / x0.den + 1 : Nat) : Int).natAbs).length ≤ 1000000 := by rw [Int.natAbs_natCast]; omega
  have l1 : (limbs 1).length ≤ 1000000 := Nat.le_trans (len_one (by decide)) (by omega)
  go_wp2_with fail
  refine (rof_N _ 1 (by decide)).mono ?_
  rintro e w4 ⟨Ao, no, co, rfl, o, b⟩
  replace f0 := fK b f0 gl
  replace f1 := fK b f1 gl
  replace p0 := p0.on b
  replace q0 := q0.on b
  replace v := v.on b
  replace dq := dq.on b
  replace dr := dr.on b
  replace k0 := cK b k0 kl
  replace k1 := cK b k1 kl
  replace k2 := cK b k2 kl
  replace kl := lK b kl
  replace g0 := cK b g0 gl
  replace g1 := cK b g1 gl
  replace gl := lK b gl
  replace cc := bK cc b
  clear b
  go_wp2_with fail
  refine (radd_N dq o (by omega) l1).mono ?_
  rintro e w5 ⟨Aa, na, ca, rfl, a, b⟩
  replace f0 := fK b f0 gl
  replace f1 := fK b f1 gl
  replace p0 := p0.on b
  replace q0 := q0.on b
  replace v := v.on b
  replace dq := dq.on b
  replace dr := dr.on b
  replace o := o.on b
  replace k0 := cK b k0 kl
  replace k1 := cK b k1 kl
  replace k2 := cK b k2 kl
  replace kl := lK b kl
  replace g0 := cK b g0 gl
  replace g1 := cK b g1 gl
  replace gl := lK b gl
  replace cc := bK cc b
  clear b
  have zq := zn_nat a
  go_wp2_with fail
  refine (rzneg_N zq lz).mono ?_
  rintro e w6 ⟨bm, Am, nm, cm, rfl, hm, b⟩
  replace f0 := fK b f0 gl
  replace f1 := fK b f1 gl
  replace p0 := p0.on b
  replace q0 := q0.on b
  replace v := v.on b
  replace dq := dq.on b
  replace dr := dr.on b
  replace o := o.on b
  replace a := a.on b
  replace zq := zq.on b
  replace k0 := cK b k0 kl
  replace k1 := cK b k1 kl
  replace k2 := cK b k2 kl
  replace kl := lK b kl
  replace g0 := cK b g0 gl
  replace g1 := cK b g1 gl
  replace gl := lK b gl
  replace cc := bK cc b
  clear b
  have hn : Zn w6 bm Am nm cm (flo x0 k) := by rw [HF.out]; exact hm
  have eb : Box w6 (w.heap.size + 1) false none 0 0 := ⟨g0, g1⟩
  have HZ : Hid (Zn ((w6.setCell ⟨w.heap.size + 1, 0, none⟩ (.bool bm)).setCell ⟨w.heap.size + 1, 1, none⟩ (.slice Am nm cm)) bm Am nm cm (flo x0 k)) := Lib.hid (hn.put eb _ _)
  clear hn
  go_wp2_with fail
  refine bodyPost_ret (v := .tuple #[.agg #[.bool bm, .slice Am nm cm], .int .i64 0]) (by simp [results, Try.results13, go_sem, g0, g1]) rfl ⟨_, _, _, _, rfl, HZ.out, below_put cc (by omega) _ _⟩

set_option maxRecDepth 100000 in
set_option maxHeartbeats 8000000 in
theorem rfloor_N {w : World} {b0 : Bool} {A0 B0 : Option Addr} {n0 c0 m0 d0 : Nat} {x0 : Rat} (hx : Rt w b0 A0 n0 c0 B0 m0 d0 x0) (s0 : Sz x0 30) {j : Int} (h0 : 0 ≤ j) (h1 : j ≤ 500) :
    Calls Try.prog 13 #[.agg #[.bool b0, .slice A0 n0 c0, .slice B0 m0 d0], .int .i64 j] w (GotZp w (flo x0 j.toNat) 0) := by
  by_cases hs : x0.num < 0
  · by_cases hr : x0.num.natAbs * 2 ^ j.toNat % x0.den = 0
    · exact rfloor_neg0 hx s0 h0 h1 hs hr
    · exact rfloor_neg1 hx s0 h0 h1 hs hr
  · exact rfloor_pos hx s0 h0 h1 hs

set_option maxRecDepth 100000 in
set_option maxHeartbeats 8000000 in
theorem rfloor_no0 {w : World} {b0 : Bool} {A0 B0 : Option Addr} {n0 c0 m0 d0 : Nat} {j : Int} (h : j < 0) :
    Calls Try.prog 13 #[.agg #[.bool b0, .slice A0 n0 c0, .slice B0 m0 d0], .int .i64 j] w (GotZp w 0 1) := by
  have t1 : decide (j < 0) = true := decide_eq_true h
  have cc := Below.refl w.heap.size w
  go_enter Try.func13, Try.ntmps13
  go_wp2_with fail
  have f0 : ((w.alloc (.cells #[.bool b0, .slice A0 n0 c0, .slice B0 m0 d0] 27)).alloc (.cells #[.bool false, .slice none 0 0] 25)).frozen? ⟨w.heap.size + 1, 0, none⟩ = false := by simp [go_sem]
  have f1 : ((w.alloc (.cells #[.bool b0, .slice A0 n0 c0, .slice B0 m0 d0] 27)).alloc (.cells #[.bool false, .slice none 0 0] 25)).frozen? ⟨w.heap.size + 1, 1, none⟩ = false := by simp [go_sem]
  have bA : Below w.heap.size w ((w.alloc (.cells #[.bool b0, .slice A0 n0 c0, .slice B0 m0 d0] 27)).alloc (.cells #[.bool false, .slice none 0 0] 25)) := (((Below.refl _ w).alloc (by simp) _).alloc (by simp) _)
  replace cc := bK cc bA
  clear bA
  have k0 : ((w.alloc (.cells #[.bool b0, .slice A0 n0 c0, .slice B0 m0 d0] 27)).alloc (.cells #[.bool false, .slice none 0 0] 25)).cell? ⟨w.heap.size, 0, none⟩ = some (.bool b0) := by simp [go_sem]
  have k1 : ((w.alloc (.cells #[.bool b0, .slice A0 n0 c0, .slice B0 m0 d0] 27)).alloc (.cells #[.bool false, .slice none 0 0] 25)).cell? ⟨w.heap.size, 1, none⟩ = some (.slice A0 n0 c0) := by simp [go_sem]
  have k2 : ((w.alloc (.cells #[.bool b0, .slice A0 n0 c0, .slice B0 m0 d0] 27)).alloc (.cells #[.bool false, .slice none 0 0] 25)).cell? ⟨w.heap.size, 2, none⟩ = some (.slice B0 m0 d0) := by simp [go_sem]
  have kl : w.heap.size < ((w.alloc (.cells #[.bool b0, .slice A0 n0 c0, .slice B0 m0 d0] 27)).alloc (.cells #[.bool false, .slice none 0 0] 25)).heap.size := by simp <;> omega
  have g0 : ((w.alloc (.cells #[.bool b0, .slice A0 n0 c0, .slice B0 m0 d0] 27)).alloc (.cells #[.bool false, .slice none 0 0] 25)).cell? ⟨w.heap.size + 1, 0, none⟩ = some (.bool false) := by simp [go_sem]
  have g1 : ((w.alloc (.cells #[.bool b0, .slice A0 n0 c0, .slice B0 m0 d0] 27)).alloc (.cells #[.bool false, .slice none 0 0] 25)).cell? ⟨w.heap.size + 1, 1, none⟩ = some (.slice none 0 0) := by simp [go_sem]
  have gl : w.heap.size + 1 < ((w.alloc (.cells #[.bool b0, .slice A0 n0 c0, .slice B0 m0 d0] 27)).alloc (.cells #[.bool false, .slice none 0 0] 25)).heap.size := by simp <;> omega
  generalize (w.alloc (.cells #[.bool b0, .slice A0 n0 c0, .slice B0 m0 d0] 27)).alloc (.cells #[.bool false, .slice none 0 0] 25) = v1 at *
  exact bodyPost_ret (v := .tuple #[.agg #[.bool false, .slice none 0 0], .int .i64 1]) (by simp [results, Try.results13, go_sem, g0, g1]) rfl ⟨_, _, _, _, rfl, zn_none _, cc⟩

set_option maxRecDepth 100000 in
set_option maxHeartbeats 8000000 in
theorem rfloor_no1 {w : World} {b0 : Bool} {A0 B0 : Option Addr} {n0 c0 m0 d0 : Nat} {j : Int} (h : 2000 < j) :
    Calls Try.prog 13 #[.agg #[.bool b0, .slice A0 n0 c0, .slice B0 m0 d0], .int .i64 j] w (GotZp w 0 1) := by
  have t1 : decide (j < 0) = false := decide_eq_false (by omega)
  have t2 : decide (2000 < j) = true := decide_eq_true h
  have cc := Below.refl w.heap.size w
  go_enter Try.func13, Try.ntmps13
  go_wp2_with fail
  have f0 : ((w.alloc (.cells #[.bool b0, .slice A0 n0 c0, .slice B0 m0 d0] 27)).alloc (.cells #[.bool false, .slice none 0 0] 25)).frozen? ⟨w.heap.size + 1, 0, none⟩ = false := by simp [go_sem]
  have f1 : ((w.alloc (.cells #[.bool b0, .slice A0 n0 c0, .slice B0 m0 d0] 27)).alloc (.cells #[.bool false, .slice none 0 0] 25)).frozen? ⟨w.heap.size + 1, 1, none⟩ = false := by simp [go_sem]
  have bA : Below w.heap.size w ((w.alloc (.cells #[.bool b0, .slice A0 n0 c0, .slice B0 m0 d0] 27)).alloc (.cells #[.bool false, .slice none 0 0] 25)) := (((Below.refl _ w).alloc (by simp) _).alloc (by simp) _)
  replace cc := bK cc bA
  clear bA
  have k0 : ((w.alloc (.cells #[.bool b0, .slice A0 n0 c0, .slice B0 m0 d0] 27)).alloc (.cells #[.bool false, .slice none 0 0] 25)).cell? ⟨w.heap.size, 0, none⟩ = some (.bool b0) := by simp [go_sem]
  have k1 : ((w.alloc (.cells #[.bool b0, .slice A0 n0 c0, .slice B0 m0 d0] 27)).alloc (.cells #[.bool false, .slice none 0 0] 25)).cell? ⟨w.heap.size, 1, none⟩ = some (.slice A0 n0 c0) := by simp [go_sem]
  have k2 : ((w.alloc (.cells #[.bool b0, .slice A0 n0 c0, .slice B0 m0 d0] 27)).alloc (.cells #[.bool false, .slice none 0 0] 25)).cell? ⟨w.heap.size, 2, none⟩ = some (.slice B0 m0 d0) := by simp [go_sem]
  have kl : w.heap.size < ((w.alloc (.cells #[.bool b0, .slice A0 n0 c0, .slice B0 m0 d0] 27)).alloc (.cells #[.bool false, .slice none 0 0] 25)).heap.size := by simp <;> omega
  have g0 : ((w.alloc (.cells #[.bool b0, .slice A0 n0 c0, .slice B0 m0 d0] 27)).alloc (.cells #[.bool false, .slice none 0 0] 25)).cell? ⟨w.heap.size + 1, 0, none⟩ = some (.bool false) := by simp [go_sem]
  have g1 : ((w.alloc (.cells #[.bool b0, .slice A0 n0 c0, .slice B0 m0 d0] 27)).alloc (.cells #[.bool false, .slice none 0 0] 25)).cell? ⟨w.heap.size + 1, 1, none⟩ = some (.slice none 0 0) := by simp [go_sem]
  have gl : w.heap.size + 1 < ((w.alloc (.cells #[.bool b0, .slice A0 n0 c0, .slice B0 m0 d0] 27)).alloc (.cells #[.bool false, .slice none 0 0] 25)).heap.size := by simp <;> omega
  generalize (w.alloc (.cells #[.bool b0, .slice A0 n0 c0, .slice B0 m0 d0] 27)).alloc (.cells #[.bool false, .slice none 0 0] 25) = v1 at *
  exact bodyPost_ret (v := .tuple #[.agg #[.bool false, .slice none 0 0], .int .i64 1]) (by simp [results, Try.results13, go_sem, g0, g1]) rfl ⟨_, _, _, _, rfl, zn_none _, cc⟩

set_option maxRecDepth 100000 in
set_option maxHeartbeats 8000000 in
theorem rfloor_no {w : World} {b0 : Bool} {A0 B0 : Option Addr} {n0 c0 m0 d0 : Nat} {j : Int} (h : j < 0 ∨ 2000 < j) :
    Calls Try.prog 13 #[.agg #[.bool b0, .slice A0 n0 c0, .slice B0 m0 d0], .int .i64 j] w (GotZp w 0 1) := by
  rcases h with h | h
  · exact rfloor_no0 h
  · exact rfloor_no1 h

theorem flo_len {x : Rat} {j k : Nat} (h : Sz x k) (hj : j ≤ 500) : (limbs (flo x j).natAbs).length ≤ k + 9 := by
  have h1 : (limbs (x.num.natAbs * 2 ^ j)).length ≤ k + 8 := limbs_length_mul h.1 (len_pow2 hj)
  have h2 : (limbs (x.num.natAbs * 2 ^ j / x.den)).length ≤ k + 8 := Nat.le_trans (limbs_length_mono (Nat.div_le_self _ _)) h1
  by_cases hs : x.num < 0
  · rw [flo_neg x j hs, Int.natAbs_neg, Int.natAbs_natCast]
    refine limbs_length_add h2 (Nat.le_trans (len_one (Nat.lt_of_le_of_lt (m := 1) ?_ (by decide))) (by omega))
    split <;> omega
  · rw [flo_pos x j hs, Int.natAbs_natCast]
    omega
theorem cei_len {x : Rat} {j k : Nat} (h : Sz x k) (hj : j ≤ 500) : (limbs (cei x j).natAbs).length ≤ k + 9 := by
  unfold cei; rw [Int.natAbs_neg]; exact flo_len h.neg hj
theorem nea_len {x : Rat} {j k : Nat} (h : Sz x k) (hj : j ≤ 500) : (limbs (nea x j).natAbs).length ≤ k + 9 := by
  rcases nea_one x j with e | e
  · rw [e]; exact flo_len h hj
  · rw [e]; exact cei_len h hj
theorem bak_sz {z : Int} {j k : Nat} (h : (limbs z.natAbs).length ≤ k) (h8 : 8 ≤ k) (hj : j ≤ 500) : Sz (bak z j) k := sz_mk (Nat.ne_of_gt (Nat.pow_pos (by omega))) h (Nat.le_trans (len_pow2 hj) h8)

set_option maxRecDepth 100000 in
set_option maxHeartbeats 8000000 in
theorem rceil_N {w : World} {b0 : Bool} {A0 B0 : Option Addr} {n0 c0 m0 d0 : Nat} {x0 : Rat} (hx : Rt w b0 A0 n0 c0 B0 m0 d0 x0) (s0 : Sz x0 30) {j : Int} (h0 : 0 ≤ j) (h1 : j ≤ 500) :
    Calls Try.prog 15 #[.agg #[.bool b0, .slice A0 n0 c0, .slice B0 m0 d0], .int .i64 j] w (GotZp w (cei x0 j.toNat) 0) := by
  obtain ⟨y, hy⟩ : ∃ y : Rat, y = -x0 := ⟨_, rfl⟩
  have CF : ∀ {W : World} {b : Bool} {A B : Option Addr} {n c m d : Nat}, Rt W b A n c B m d y → Calls Try.prog 13 #[.agg #[.bool b, .slice A n c, .slice B m d], .int .i64 j] W (GotZp W (flo y j.toNat) 0) := fun hh => rfloor_N hh (by rw [hy]; exact s0.neg) h0 h1
  have lz : (limbs (flo y j.toNat).natAbs).length ≤ 1000000 := Nat.le_trans (flo_len (by rw [hy]; exact s0.neg) (by omega)) (by omega)
  have HC : Hid (cei x0 j.toNat = -flo y j.toNat) := Lib.hid (by rw [hy]; rfl)
  have CN : ∀ {W : World} {b : Bool} {A B : Option Addr} {n c m d : Nat}, Rt W b A n c B m d x0 → Calls Try.prog 27 #[.agg #[.bool b, .slice A n c, .slice B m d]] W (GotRt W y) := fun hh => by rw [hy]; exact rtneg_N hh (s0.le (by omega))
  clear hy
  have cc := Below.refl w.heap.size w
  go_enter Try.func15, Try.ntmps15
  go_wp2_with fail
  have f0 : ((w.alloc (.cells #[.bool b0, .slice A0 n0 c0, .slice B0 m0 d0] 27)).alloc (.cells #[.bool false, .slice none 0 0] 25)).frozen? ⟨w.heap.size + 1, 0, none⟩ = false := by simp [go_sem]
  have f1 : ((w.alloc (.cells #[.bool b0, .slice A0 n0 c0, .slice B0 m0 d0] 27)).alloc (.cells #[.bool false, .slice none 0 0] 25)).frozen? ⟨w.heap.size + 1, 1, none⟩ = false := by simp [go_sem]
  have bA : Below w.heap.size w ((w.alloc (.cells #[.bool b0, .slice A0 n0 c0, .slice B0 m0 d0] 27)).alloc (.cells #[.bool false, .slice none 0 0] 25)) := (((Below.refl _ w).alloc (by simp) _).alloc (by simp) _)
  replace hx := hx.on bA
  replace cc := bK cc bA
  clear bA
  have k0 : ((w.alloc (.cells #[.bool b0, .slice A0 n0 c0, .slice B0 m0 d0] 27)).alloc (.cells #[.bool false, .slice none 0 0] 25)).cell? ⟨w.heap.size, 0, none⟩ = some (.bool b0) := by simp [go_sem]
  have k1 : ((w.alloc (.cells #[.bool b0, .slice A0 n0 c0, .slice B0 m0 d0] 27)).alloc (.cells #[.bool false, .slice none 0 0] 25)).cell? ⟨w.heap.size, 1, none⟩ = some (.slice A0 n0 c0) := by simp [go_sem]
  have k2 : ((w.alloc (.cells #[.bool b0, .slice A0 n0 c0, .slice B0 m0 d0] 27)).alloc (.cells #[.bool false, .slice none 0 0] 25)).cell? ⟨w.heap.size, 2, none⟩ = some (.slice B0 m0 d0) := by simp [go_sem]
  have kl : w.heap.size < ((w.alloc (.cells #[.bool b0, .slice A0 n0 c0, .slice B0 m0 d0] 27)).alloc (.cells #[.bool false, .slice none 0 0] 25)).heap.size := by simp <;> omega
  have g0 : ((w.alloc (.cells #[.bool b0, .slice A0 n0 c0, .slice B0 m0 d0] 27)).alloc (.cells #[.bool false, .slice none 0 0] 25)).cell? ⟨w.heap.size + 1, 0, none⟩ = some (.bool false) := by simp [go_sem]
  have g1 : ((w.alloc (.cells #[.bool b0, .slice A0 n0 c0, .slice B0 m0 d0] 27)).alloc (.cells #[.bool false, .slice none 0 0] 25)).cell? ⟨w.heap.size + 1, 1, none⟩ = some (.slice none 0 0) := by simp [go_sem]
  have gl : w.heap.size + 1 < ((w.alloc (.cells #[.bool b0, .slice A0 n0 c0, .slice B0 m0 d0] 27)).alloc (.cells #[.bool false, .slice none 0 0] 25)).heap.size := by simp <;> omega
  generalize (w.alloc (.cells #[.bool b0, .slice A0 n0 c0, .slice B0 m0 d0] 27)).alloc (.cells #[.bool false, .slice none 0 0] 25) = v1 at *
  refine (CN hx).mono ?_
  rintro e w2 ⟨bv, Av, nv, cv, Bv, mv, dv, rfl, v, b⟩
  replace f0 := fK b f0 gl
  replace f1 := fK b f1 gl
  replace hx := hx.on b
  replace k0 := cK b k0 kl
  replace k1 := cK b k1 kl
  replace k2 := cK b k2 kl
  replace kl := lK b kl
  replace g0 := cK b g0 gl
  replace g1 := cK b g1 gl
  replace gl := lK b gl
  replace cc := bK cc b
  clear b
  go_wp2_with fail
  refine (CF v).mono ?_
  rintro e w3 ⟨bt, At, nt, ct, rfl, t, b⟩
  replace f0 := fK b f0 gl
  replace f1 := fK b f1 gl
  replace hx := hx.on b
  replace v := v.on b
  replace k0 := cK b k0 kl
  replace k1 := cK b k1 kl
  replace k2 := cK b k2 kl
  replace kl := lK b kl
  replace g0 := cK b g0 gl
  replace g1 := cK b g1 gl
  replace gl := lK b gl
  replace cc := bK cc b
  clear b
  go_wp2_with fail
  have bA := below_one w3 (.cells #[.bool bt, .slice At nt ct] 25)
  replace f0 := fK bA f0 gl
  replace f1 := fK bA f1 gl
  replace hx := hx.on bA
  replace v := v.on bA
  replace t := t.on bA
  replace k0 := cK bA k0 kl
  replace k1 := cK bA k1 kl
  replace k2 := cK bA k2 kl
  replace kl := lK bA kl
  replace g0 := cK bA g0 gl
  replace g1 := cK bA g1 gl
  replace gl := lK bA gl
  replace cc := bK cc bA
  clear bA
  have y0 : (w3.alloc (.cells #[.bool bt, .slice At nt ct] 25)).cell? ⟨w3.heap.size, 0, none⟩ = some (.bool bt) := by simp [go_sem]
  have y1 : (w3.alloc (.cells #[.bool bt, .slice At nt ct] 25)).cell? ⟨w3.heap.size, 1, none⟩ = some (.slice At nt ct) := by simp [go_sem]
  have yl : w3.heap.size < (w3.alloc (.cells #[.bool bt, .slice At nt ct] 25)).heap.size := by simp
  generalize w3.alloc (.cells #[.bool bt, .slice At nt ct] 25) = v4 at *
  refine (rzneg_N t lz).mono ?_
  rintro e w5 ⟨bm, Am, nm, cm, rfl, hm, b⟩
  replace f0 := fK b f0 gl
  replace f1 := fK b f1 gl
  replace hx := hx.on b
  replace v := v.on b
  replace t := t.on b
  replace k0 := cK b k0 kl
  replace k1 := cK b k1 kl
  replace k2 := cK b k2 kl
  replace kl := lK b kl
  replace g0 := cK b g0 gl
  replace g1 := cK b g1 gl
  replace gl := lK b gl
  replace y0 := cK b y0 yl
  replace y1 := cK b y1 yl
  replace yl := lK b yl
  replace cc := bK cc b
  clear b
  have hn : Zn w5 bm Am nm cm (cei x0 j.toNat) := by rw [HC.out]; exact hm
  have eb : Box w5 (w.heap.size + 1) false none 0 0 := ⟨g0, g1⟩
  have HZ : Hid (Zn ((w5.setCell ⟨w.heap.size + 1, 0, none⟩ (.bool bm)).setCell ⟨w.heap.size + 1, 1, none⟩ (.slice Am nm cm)) bm Am nm cm (cei x0 j.toNat)) := Lib.hid (hn.put eb _ _)
  clear hn
  go_wp2_with fail
  refine bodyPost_ret (v := .tuple #[.agg #[.bool bm, .slice Am nm cm], .int .i64 0]) (by simp [results, Try.results15, go_sem, g0, g1]) rfl ⟨_, _, _, _, rfl, HZ.out, below_put cc (by omega) _ _⟩

set_option maxRecDepth 100000 in
set_option maxHeartbeats 8000000 in
theorem rceil_no {w : World} {b0 : Bool} {A0 B0 : Option Addr} {n0 c0 m0 d0 : Nat} {x0 : Rat} (hx : Rt w b0 A0 n0 c0 B0 m0 d0 x0) (s0 : Sz x0 30) {j : Int} (h : j < 0 ∨ 2000 < j) :
    Calls Try.prog 15 #[.agg #[.bool b0, .slice A0 n0 c0, .slice B0 m0 d0], .int .i64 j] w (GotZp w 0 1) := by
  obtain ⟨y, hy⟩ : ∃ y : Rat, y = -x0 := ⟨_, rfl⟩
  have CF : ∀ {W : World} {b : Bool} {A B : Option Addr} {n c m d : Nat}, Rt W b A n c B m d y → Calls Try.prog 13 #[.agg #[.bool b, .slice A n c, .slice B m d], .int .i64 j] W (GotZp W 0 1) := fun _ => rfloor_no h
  have lz : (limbs (0 : Int).natAbs).length ≤ 1000000 := len_z0
  have CN : ∀ {W : World} {b : Bool} {A B : Option Addr} {n c m d : Nat}, Rt W b A n c B m d x0 → Calls Try.prog 27 #[.agg #[.bool b, .slice A n c, .slice B m d]] W (GotRt W y) := fun hh => by rw [hy]; exact rtneg_N hh (s0.le (by omega))
  clear hy
  have cc := Below.refl w.heap.size w
  go_enter Try.func15, Try.ntmps15
  go_wp2_with fail
  have f0 : ((w.alloc (.cells #[.bool b0, .slice A0 n0 c0, .slice B0 m0 d0] 27)).alloc (.cells #[.bool false, .slice none 0 0] 25)).frozen? ⟨w.heap.size + 1, 0, none⟩ = false := by simp [go_sem]
  have f1 : ((w.alloc (.cells #[.bool b0, .slice A0 n0 c0, .slice B0 m0 d0] 27)).alloc (.cells #[.bool false, .slice none 0 0] 25)).frozen? ⟨w.heap.size + 1, 1, none⟩ = false := by simp [go_sem]
  have bA : Below w.heap.size w ((w.alloc (.cells #[.bool b0, .slice A0 n0 c0, .slice B0 m0 d0] 27)).alloc (.cells #[.bool false, .slice none 0 0] 25)) := (((Below.refl _ w).alloc (by simp) _).alloc (by simp) _)
  replace hx := hx.on bA
  replace cc := bK cc bA
  clear bA
  have k0 : ((w.alloc (.cells #[.bool b0, .slice A0 n0 c0, .slice B0 m0 d0] 27)).alloc (.cells #[.bool false, .slice none 0 0] 25)).cell? ⟨w.heap.size, 0, none⟩ = some (.bool b0) := by simp [go_sem]
  have k1 : ((w.alloc (.cells #[.bool b0, .slice A0 n0 c0, .slice B0 m0 d0] 27)).alloc (.cells #[.bool false, .slice none 0 0] 25)).cell? ⟨w.heap.size, 1, none⟩ = some (.slice A0 n0 c0) := by simp [go_sem]
  have k2 : ((w.alloc (.cells #[.bool b0, .slice A0 n0 c0, .slice B0 m0 d0] 27)).alloc (.cells #[.bool false, .slice none 0 0] 25)).cell? ⟨w.heap.size, 2, none⟩ = some (.slice B0 m0 d0) := by simp [go_sem]
  have kl : w.heap.size < ((w.alloc (.cells #[.bool b0, .slice A0 n0 c0, .slice B0 m0 d0] 27)).alloc (.cells #[.bool false, .slice none 0 0] 25)).heap.size := by simp <;> omega
  have g0 : ((w.alloc (.cells #[.bool b0, .slice A0 n0 c0, .slice B0 m0 d0] 27)).alloc (.cells #[.bool false, .slice none 0 0] 25)).cell? ⟨w.heap.size + 1, 0, none⟩ = some (.bool false) := by simp [go_sem]
  have g1 : ((w.alloc (.cells #[.bool b0, .slice A0 n0 c0, .slice B0 m0 d0] 27)).alloc (.cells #[.bool false, .slice none 0 0] 25)).cell? ⟨w.heap.size + 1, 1, none⟩ = some (.slice none 0 0) := by simp [go_sem]
  have gl : w.heap.size + 1 < ((w.alloc (.cells #[.bool b0, .slice A0 n0 c0, .slice B0 m0 d0] 27)).alloc (.cells #[.bool false, .slice none 0 0] 25)).heap.size := by simp <;> omega
  generalize (w.alloc (.cells #[.bool b0, .slice A0 n0 c0, .slice B0 m0 d0] 27)).alloc (.cells #[.bool false, .slice none 0 0] 25) = v1 at *
  refine (CN hx).mono ?_
  rintro e w2 ⟨bv, Av, nv, cv, Bv, mv, dv, rfl, v, b⟩
  replace f0 := fK b f0 gl
  replace f1 := fK b f1 gl
  replace hx := hx.on b
  replace k0 := cK b k0 kl
  replace k1 := cK b k1 kl
  replace k2 := cK b k2 kl
  replace kl := lK b kl
  replace g0 := cK b g0 gl
  replace g1 := cK b g1 gl
  replace gl := lK b gl
  replace cc := bK cc b
  clear b
  go_wp2_with fail
  refine (CF v).mono ?_
  rintro e w3 ⟨bt, At, nt, ct, rfl, t, b⟩
  replace f0 := fK b f0 gl
  replace f1 := fK b f1 gl
  replace hx := hx.on b
  replace v := v.on b
  replace k0 := cK b k0 kl
  replace k1 := cK b k1 kl
  replace k2 := cK b k2 kl
  replace kl := lK b kl
  replace g0 := cK b g0 gl
  replace g1 := cK b g1 gl
  replace gl := lK b gl
  replace cc := bK cc b
  clear b
  go_wp2_with fail
  have bA := below_one w3 (.cells #[.bool bt, .slice At nt ct] 25)
  replace f0 := fK bA f0 gl
  replace f1 := fK bA f1 gl
  replace hx := hx.on bA
  replace v := v.on bA
  replace t := t.on bA
  replace k0 := cK bA k0 kl
  replace k1 := cK bA k1 kl
  replace k2 := cK bA k2 kl
  replace kl := lK bA kl
  replace g0 := cK bA g0 gl
  replace g1 := cK bA g1 gl
  replace gl := lK bA gl
  replace cc := bK cc bA
  clear bA
  have y0 : (w3.alloc (.cells #[.bool bt, .slice At nt ct] 25)).cell? ⟨w3.heap.size, 0, none⟩ = some (.bool bt) := by simp [go_sem]
  have y1 : (w3.alloc (.cells #[.bool bt, .slice At nt ct] 25)).cell? ⟨w3.heap.size, 1, none⟩ = some (.slice At nt ct) := by simp [go_sem]
  have yl : w3.heap.size < (w3.alloc (.cells #[.bool bt, .slice At nt ct] 25)).heap.size := by simp
  generalize w3.alloc (.cells #[.bool bt, .slice At nt ct] 25) = v4 at *
  refine (rzneg_N t lz).mono ?_
  rintro e w5 ⟨bm, Am, nm, cm, rfl, hm, b⟩
  replace f0 := fK b f0 gl
  replace f1 := fK b f1 gl
  replace hx := hx.on b
  replace v := v.on b
  replace t := t.on b
  replace k0 := cK b k0 kl
  replace k1 := cK b k1 kl
  replace k2 := cK b k2 kl
  replace kl := lK b kl
  replace g0 := cK b g0 gl
  replace g1 := cK b g1 gl
  replace gl := lK b gl
  replace y0 := cK b y0 yl
  replace y1 := cK b y1 yl
  replace yl := lK b yl
  replace cc := bK cc b
  clear b
  have hn : Zn w5 bm Am nm cm (0) := hm
  have eb : Box w5 (w.heap.size + 1) false none 0 0 := ⟨g0, g1⟩
  have HZ : Hid (Zn ((w5.setCell ⟨w.heap.size + 1, 0, none⟩ (.bool bm)).setCell ⟨w.heap.size + 1, 1, none⟩ (.slice Am nm cm)) bm Am nm cm (0)) := Lib.hid (hn.put eb _ _)
  clear hn
  go_wp2_with fail
  refine bodyPost_ret (v := .tuple #[.agg #[.bool bm, .slice Am nm cm], .int .i64 1]) (by simp [results, Try.results15, go_sem, g0, g1]) rfl ⟨_, _, _, _, rfl, HZ.out, below_put cc (by omega) _ _⟩

end Go.Proofs.Ytchbhmcaalkfdaa

/-
  The contracts of the sixth reference: odd.
-/
namespace Go.Proofs.Ytchbhmcaalkfdaa
open Go.RowKit
set_option linter.unusedVariables false
set_option linter.unusedSimpArgs false

theorem low_mod (x : Nat) (h : x ≠ 0) : ((limbs x)[0]?.getD 0) % 2 = x % 2 := by
  rw [limbs_pos (by omega)]
  show x % B64 % 2 = x % 2
  exact Nat.mod_mod_of_dvd x ⟨9223372036854775808, by decide⟩
theorem abs_mod (z : Int) : z.natAbs % 2 = (z % 2).toNat := by omega

set_option maxRecDepth 100000 in
set_option maxHeartbeats 8000000 in
theorem rodd_0 {w : World} {b : Bool} {A : Option Addr} {n c : Nat} {z : Int} (ha : Zn w b A n c z) (hn : n = 0) :
    Calls Try.prog 46 #[.agg #[.bool b, .slice A n c]] w (GotV w (.bool false)) := by
  have t1 : decide ((0 : Int) < (n : Int)) = false := decide_eq_false (by omega)
  have t2 : decide (0 < n) = false := decide_eq_false (by omega)
  clear hn
  have cc := Below.refl w.heap.size w
  go_enter Try.func46, Try.ntmps46
  go_wp2_with fail
  have bA : Below w.heap.size w (w.alloc (.cells #[.bool b, .slice A n c] 25)) := ((Below.refl _ w).alloc (by simp) _)
  replace ha := ha.on bA
  replace cc := bK cc bA
  clear bA
  have k0 : (w.alloc (.cells #[.bool b, .slice A n c] 25)).cell? ⟨w.heap.size, 0, none⟩ = some (.bool b) := by simp [go_sem]
  have k1 : (w.alloc (.cells #[.bool b, .slice A n c] 25)).cell? ⟨w.heap.size, 1, none⟩ = some (.slice A n c) := by simp [go_sem]
  have kl : w.heap.size < (w.alloc (.cells #[.bool b, .slice A n c] 25)).heap.size := by simp <;> omega
  generalize w.alloc (.cells #[.bool b, .slice A n c] 25) = v1 at *
  go_ret
  exact ⟨rfl, cc⟩

set_option maxRecDepth 100000 in
set_option maxHeartbeats 8000000 in
theorem rodd_1 {w : World} {b : Bool} {A : Option Addr} {n c : Nat} {z : Int} (ha : Zn w b A n c z) (hn : 0 < n) (r : Bool) (hr : decide (z % 2 = 1) = r) :
    Calls Try.prog 46 #[.agg #[.bool b, .slice A n c]] w (GotV w (.bool r)) := by
  obtain ⟨bk, off, rfl, hb, hc⟩ := ha.1.2.2.2 hn
  have h0 := hc 0 hn
  rw [Nat.add_zero] at h0
  have hz : z.natAbs ≠ 0 := num_ne ha.1 hn
  obtain ⟨v, hv⟩ : ∃ v, ((limbs z.natAbs)[0]?.getD 0) = v := ⟨_, rfl⟩
  have hm := low_mod z.natAbs hz
  rw [hv] at h0 hm
  rw [abs_mod] at hm
  clear hv hc
  have hB := below_one w (.cells #[.bool b, .slice (some ⟨bk, off, none⟩) n c] 25)
  have h1 := cK hB h0 hb
  have e1 : ((v : Int) % 2 == 1) = r := by rw [← hr, Bool.eq_iff_iff, beq_iff_eq, decide_eq_true_iff]; omega
  have hn2 : 1 ≤ n := hn
  have cc := Below.refl w.heap.size w
  go_enter Try.func46, Try.ntmps46
  go_wp2_with fail
  go_ret
  exact ⟨rfl, hB⟩

set_option maxRecDepth 100000 in
set_option maxHeartbeats 8000000 in
theorem rodd_N {w : World} {b : Bool} {A : Option Addr} {n c : Nat} {z : Int} (r : Bool) (ha : Zn w b A n c z) (hr : decide (z % 2 = 1) = r) :
    Calls Try.prog 46 #[.agg #[.bool b, .slice A n c]] w (GotV w (.bool r)) := by
  rcases Nat.eq_zero_or_pos n with hn | hn
  · have : z = 0 := by
      have e := ha.1.len
      rw [hn] at e
      have e2 := List.length_eq_zero_iff.1 e.symm
      have e3 : z.natAbs = 0 := by rw [← val_limbs z.natAbs, e2, val_nil]
      omega
    subst this
    simp at hr
    subst hr
    exact rodd_0 ha hn
  · exact rodd_1 ha hn r hr

end Go.Proofs.Ytchbhmcaalkfdaa

/-
  The contracts of the sixth reference: Near.
-/
namespace Go.Proofs.Ytchbhmcaalkfdaa
open Go.RowKit
set_option linter.unusedVariables false
set_option linter.unusedSimpArgs false

set_option maxRecDepth 100000 in
set_option maxHeartbeats 8000000 in
theorem rnear_lt {w : World} {b0 : Bool} {A0 B0 : Option Addr} {n0 c0 m0 d0 : Nat} {x0 : Rat} (hx : Rt w b0 A0 n0 c0 B0 m0 d0 x0) (s0 : Sz x0 15) {j : Int} (h0 : 0 ≤ j) (h1 : j ≤ 500) (hc : cmpQ (x0 - bak (flo x0 j.toNat) j.toNat) (bak (cei x0 j.toNat) j.toNat - x0) < 0) :
    Calls Try.prog 17 #[.agg #[.bool b0, .slice A0 n0 c0, .slice B0 m0 d0], .int .i64 j] w (GotZp w (nea x0 j.toNat) 0) := by
  have jl : j.toNat ≤ 500 := by omega
  have ll := flo_len s0 jl
  have lh := cei_len s0 jl
  have hn : nea x0 j.toNat = flo x0 j.toNat := by rw [nea_by]; rw [if_pos (.inl hc)]
  have CF : ∀ {W : World} {b : Bool} {A B : Option Addr} {n c m d : Nat}, Rt W b A n c B m d x0 → Calls Try.prog 13 #[.agg #[.bool b, .slice A n c, .slice B m d], .int .i64 j] W (GotZp W (flo x0 j.toNat) 0) := fun hh => rfloor_N hh (s0.le (by omega)) h0 h1
  have CC : ∀ {W : World} {b : Bool} {A B : Option Addr} {n c m d : Nat}, Rt W b A n c B m d x0 → Calls Try.prog 15 #[.agg #[.bool b, .slice A n c, .slice B m d], .int .i64 j] W (GotZp W (cei x0 j.toNat) 0) := fun hh => rceil_N hh (s0.le (by omega)) h0 h1
  obtain ⟨lo, hlo⟩ : ∃ lo, flo x0 j.toNat = lo := ⟨_, rfl⟩
  obtain ⟨hi, hhi⟩ : ∃ hi, cei x0 j.toNat = hi := ⟨_, rfl⟩
  rw [hlo] at CF ll
  rw [hhi] at CC lh
  rw [hlo, hhi] at hc
  skip
  rw [hlo] at hn
  have CB : ∀ {W : World} {z : Int} {b : Bool} {A : Option Addr} {n c : Nat}, Zn W b A n c z → (limbs z.natAbs).length ≤ 24 → Calls Try.prog 19 #[.agg #[.bool b, .slice A n c], .int .i64 j] W (GotRp W (bak z j.toNat) 0) := fun hh hl => rback_N hh (by omega) h0 h1
  have sl : Sz (bak lo j.toNat) 24 := bak_sz ll (by omega) jl
  have sh : Sz (bak hi j.toNat) 24 := bak_sz lh (by omega) jl
  obtain ⟨x, hxx⟩ : ∃ x, bak lo j.toNat = x := ⟨_, rfl⟩
  obtain ⟨y, hyy⟩ : ∃ y, bak hi j.toNat = y := ⟨_, rfl⟩
  have CX : ∀ {W : World} {b : Bool} {A : Option Addr} {n c : Nat}, Zn W b A n c lo → Calls Try.prog 19 #[.agg #[.bool b, .slice A n c], .int .i64 j] W (GotRp W x 0) := fun hh => by rw [← hxx]; exact CB hh ll
  have CY : ∀ {W : World} {b : Bool} {A : Option Addr} {n c : Nat}, Zn W b A n c hi → Calls Try.prog 19 #[.agg #[.bool b, .slice A n c], .int .i64 j] W (GotRp W y 0) := fun hh => by rw [← hyy]; exact CB hh lh
  rw [hxx] at sl
  rw [hyy] at sh
  rw [hxx, hyy] at hc
  skip
  obtain ⟨cn, hcn⟩ : ∃ cn, cmpQ (x0 - x) (y - x0) = cn := ⟨_, rfl⟩
  have HC := Lib.hid hcn
  rw [hcn] at hc
  skip
  have su := s0.sub sl
  have sv := sh.sub s0
  have HN := Lib.hid hn
  have t1 : decide (cn < 0) = true := decide_eq_true hc
  clear CB hxx hyy hcn hlo hhi hn hc h0 h1
  have cc := Below.refl w.heap.size w
  go_enter Try.func17, Try.ntmps17
  go_wp2_with fail
  have f0 : ((w.alloc (.cells #[.bool b0, .slice A0 n0 c0, .slice B0 m0 d0] 27)).alloc (.cells #[.bool false, .slice none 0 0] 25)).frozen? ⟨w.heap.size + 1, 0, none⟩ = false := by simp [go_sem]
  have f1 : ((w.alloc (.cells #[.bool b0, .slice A0 n0 c0, .slice B0 m0 d0] 27)).alloc (.cells #[.bool false, .slice none 0 0] 25)).frozen? ⟨w.heap.size + 1, 1, none⟩ = false := by simp [go_sem]
  have bA : Below w.heap.size w ((w.alloc (.cells #[.bool b0, .slice A0 n0 c0, .slice B0 m0 d0] 27)).alloc (.cells #[.bool false, .slice none 0 0] 25)) := (((Below.refl _ w).alloc (by simp) _).alloc (by simp) _)
  replace hx := hx.on bA
  replace cc := bK cc bA
  clear bA
  have k0 : ((w.alloc (.cells #[.bool b0, .slice A0 n0 c0, .slice B0 m0 d0] 27)).alloc (.cells #[.bool false, .slice none 0 0] 25)).cell? ⟨w.heap.size, 0, none⟩ = some (.bool b0) := by simp [go_sem]
  have k1 : ((w.alloc (.cells #[.bool b0, .slice A0 n0 c0, .slice B0 m0 d0] 27)).alloc (.cells #[.bool false, .slice none 0 0] 25)).cell? ⟨w.heap.size, 1, none⟩ = some (.slice A0 n0 c0) := by simp [go_sem]
  have k2 : ((w.alloc (.cells #[.bool b0, .slice A0 n0 c0, .slice B0 m0 d0] 27)).alloc (.cells #[.bool false, .slice none 0 0] 25)).cell? ⟨w.heap.size, 2, none⟩ = some (.slice B0 m0 d0) := by simp [go_sem]
  have kl : w.heap.size < ((w.alloc (.cells #[.bool b0, .slice A0 n0 c0, .slice B0 m0 d0] 27)).alloc (.cells #[.bool false, .slice none 0 0] 25)).heap.size := by simp <;> omega
  have g0 : ((w.alloc (.cells #[.bool b0, .slice A0 n0 c0, .slice B0 m0 d0] 27)).alloc (.cells #[.bool false, .slice none 0 0] 25)).cell? ⟨w.heap.size + 1, 0, none⟩ = some (.bool false) := by simp [go_sem]
  have g1 : ((w.alloc (.cells #[.bool b0, .slice A0 n0 c0, .slice B0 m0 d0] 27)).alloc (.cells #[.bool false, .slice none 0 0] 25)).cell? ⟨w.heap.size + 1, 1, none⟩ = some (.slice none 0 0) := by simp [go_sem]
  have gl : w.heap.size + 1 < ((w.alloc (.cells #[.bool b0, .slice A0 n0 c0, .slice B0 m0 d0] 27)).alloc (.cells #[.bool false, .slice none 0 0] 25)).heap.size := by simp <;> omega
  generalize (w.alloc (.cells #[.bool b0, .slice A0 n0 c0, .slice B0 m0 d0] 27)).alloc (.cells #[.bool false, .slice none 0 0] 25) = v1 at *
  refine (CF hx).mono ?_
  rintro e w2 ⟨bl, Al, nl, cl, rfl, zl, b⟩
  replace f0 := fK b f0 gl
  replace f1 := fK b f1 gl
  replace hx := hx.on b
  replace k0 := cK b k0 kl
  replace k1 := cK b k1 kl
  replace k2 := cK b k2 kl
  replace kl := lK b kl
  replace g0 := cK b g0 gl
  replace g1 := cK b g1 gl
  replace gl := lK b gl
  replace cc := bK cc b
  clear b
  go_wp2_with fail
  have bA := below_one w2 (.cells #[.bool bl, .slice Al nl cl] 25)
  replace f0 := fK bA f0 gl
  replace f1 := fK bA f1 gl
  replace hx := hx.on bA
  replace zl := zl.on bA
  replace k0 := cK bA k0 kl
  replace k1 := cK bA k1 kl
  replace k2 := cK bA k2 kl
  replace kl := lK bA kl
  replace g0 := cK bA g0 gl
  replace g1 := cK bA g1 gl
  replace gl := lK bA gl
  replace cc := bK cc bA
  clear bA
  have ba0 : (w2.alloc (.cells #[.bool bl, .slice Al nl cl] 25)).cell? ⟨w2.heap.size, 0, none⟩ = some (.bool bl) := by simp [go_sem]
  have ba1 : (w2.alloc (.cells #[.bool bl, .slice Al nl cl] 25)).cell? ⟨w2.heap.size, 1, none⟩ = some (.slice Al nl cl) := by simp [go_sem]
  have bal : w2.heap.size < (w2.alloc (.cells #[.bool bl, .slice Al nl cl] 25)).heap.size := by simp
  generalize w2.alloc (.cells #[.bool bl, .slice Al nl cl] 25) = v3 at *
  refine (CC hx).mono ?_
  rintro e w4 ⟨bh, Ah, nh, ch, rfl, zh, b⟩
  replace f0 := fK b f0 gl
  replace f1 := fK b f1 gl
  replace hx := hx.on b
  replace zl := zl.on b
  replace k0 := cK b k0 kl
  replace k1 := cK b k1 kl
  replace k2 := cK b k2 kl
  replace kl := lK b kl
  replace g0 := cK b g0 gl
  replace g1 := cK b g1 gl
  replace gl := lK b gl
  replace ba0 := cK b ba0 bal
  replace ba1 := cK b ba1 bal
  replace bal := lK b bal
  replace cc := bK cc b
  clear b
  go_wp2_with fail
  have bA := below_one w4 (.cells #[.bool bh, .slice Ah nh ch] 25)
  replace f0 := fK bA f0 gl
  replace f1 := fK bA f1 gl
  replace hx := hx.on bA
  replace zl := zl.on bA
  replace zh := zh.on bA
  replace k0 := cK bA k0 kl
  replace k1 := cK bA k1 kl
  replace k2 := cK bA k2 kl
  replace kl := lK bA kl
  replace g0 := cK bA g0 gl
  replace g1 := cK bA g1 gl
  replace gl := lK bA gl
  replace ba0 := cK bA ba0 bal
  replace ba1 := cK bA ba1 bal
  replace bal := lK bA bal
  replace cc := bK cc bA
  clear bA
  have bb0 : (w4.alloc (.cells #[.bool bh, .slice Ah nh ch] 25)).cell? ⟨w4.heap.size, 0, none⟩ = some (.bool bh) := by simp [go_sem]
  have bb1 : (w4.alloc (.cells #[.bool bh, .slice Ah nh ch] 25)).cell? ⟨w4.heap.size, 1, none⟩ = some (.slice Ah nh ch) := by simp [go_sem]
  have bbl : w4.heap.size < (w4.alloc (.cells #[.bool bh, .slice Ah nh ch] 25)).heap.size := by simp
  generalize w4.alloc (.cells #[.bool bh, .slice Ah nh ch] 25) = v5 at *
  refine (CX zl).mono ?_
  rintro e w6 ⟨bx, Ax, nx, cx, Bx, mx, dx, rfl, rx, b⟩
  replace f0 := fK b f0 gl
  replace f1 := fK b f1 gl
  replace hx := hx.on b
  replace zl := zl.on b
  replace zh := zh.on b
  replace k0 := cK b k0 kl
  replace k1 := cK b k1 kl
  replace k2 := cK b k2 kl
  replace kl := lK b kl
  replace g0 := cK b g0 gl
  replace g1 := cK b g1 gl
  replace gl := lK b gl
  replace ba0 := cK b ba0 bal
  replace ba1 := cK b ba1 bal
  replace bal := lK b bal
  replace bb0 := cK b bb0 bbl
  replace bb1 := cK b bb1 bbl
  replace bbl := lK b bbl
  replace cc := bK cc b
  clear b
  go_wp2_with fail
  have bA := below_one w6 (.cells #[.bool bx, .slice Ax nx cx, .slice Bx mx dx] 27)
  replace f0 := fK bA f0 gl
  replace f1 := fK bA f1 gl
  replace hx := hx.on bA
  replace zl := zl.on bA
  replace zh := zh.on bA
  replace rx := rx.on bA
  replace k0 := cK bA k0 kl
  replace k1 := cK bA k1 kl
  replace k2 := cK bA k2 kl
  replace kl := lK bA kl
  replace g0 := cK bA g0 gl
  replace g1 := cK bA g1 gl
  replace gl := lK bA gl
  replace ba0 := cK bA ba0 bal
  replace ba1 := cK bA ba1 bal
  replace bal := lK bA bal
  replace bb0 := cK bA bb0 bbl
  replace bb1 := cK bA bb1 bbl
  replace bbl := lK bA bbl
  replace cc := bK cc bA
  clear bA
  have bc0 : (w6.alloc (.cells #[.bool bx, .slice Ax nx cx, .slice Bx mx dx] 27)).cell? ⟨w6.heap.size, 0, none⟩ = some (.bool bx) := by simp [go_sem]
  have bc1 : (w6.alloc (.cells #[.bool bx, .slice Ax nx cx, .slice Bx mx dx] 27)).cell? ⟨w6.heap.size, 1, none⟩ = some (.slice Ax nx cx) := by simp [go_sem]
  have bc2 : (w6.alloc (.cells #[.bool bx, .slice Ax nx cx, .slice Bx mx dx] 27)).cell? ⟨w6.heap.size, 2, none⟩ = some (.slice Bx mx dx) := by simp [go_sem]
  have bcl : w6.heap.size < (w6.alloc (.cells #[.bool bx, .slice Ax nx cx, .slice Bx mx dx] 27)).heap.size := by simp
  generalize w6.alloc (.cells #[.bool bx, .slice Ax nx cx, .slice Bx mx dx] 27) = v7 at *
  refine (CY zh).mono ?_
  rintro e w8 ⟨bY, Ay, ny, cy, By, my, dy, rfl, ry, b⟩
  replace f0 := fK b f0 gl
  replace f1 := fK b f1 gl
  replace hx := hx.on b
  replace zl := zl.on b
  replace zh := zh.on b
  replace rx := rx.on b
  replace k0 := cK b k0 kl
  replace k1 := cK b k1 kl
  replace k2 := cK b k2 kl
  replace kl := lK b kl
  replace g0 := cK b g0 gl
  replace g1 := cK b g1 gl
  replace gl := lK b gl
  replace ba0 := cK b ba0 bal
  replace ba1 := cK b ba1 bal
  replace bal := lK b bal
  replace bb0 := cK b bb0 bbl
  replace bb1 := cK b bb1 bbl
  replace bbl := lK b bbl
  replace bc0 := cK b bc0 bcl
  replace bc1 := cK b bc1 bcl
  replace bc2 := cK b bc2 bcl
  replace bcl := lK b bcl
  replace cc := bK cc b
  clear b
  go_wp2_with fail
  have bA := below_one w8 (.cells #[.bool bY, .slice Ay ny cy, .slice By my dy] 27)
  replace f0 := fK bA f0 gl
  replace f1 := fK bA f1 gl
  replace hx := hx.on bA
  replace zl := zl.on bA
  replace zh := zh.on bA
  replace rx := rx.on bA
  replace ry := ry.on bA
  replace k0 := cK bA k0 kl
  replace k1 := cK bA k1 kl
  replace k2 := cK bA k2 kl
  replace kl := lK bA kl
  replace g0 := cK bA g0 gl
  replace g1 := cK bA g1 gl
  replace gl := lK bA gl
  replace ba0 := cK bA ba0 bal
  replace ba1 := cK bA ba1 bal
  replace bal := lK bA bal
  replace bb0 := cK bA bb0 bbl
  replace bb1 := cK bA bb1 bbl
  replace bbl := lK bA bbl
  replace bc0 := cK bA bc0 bcl
  replace bc1 := cK bA bc1 bcl
  replace bc2 := cK bA bc2 bcl
  replace bcl := lK bA bcl
  replace cc := bK cc bA
  clear bA
  have bd0 : (w8.alloc (.cells #[.bool bY, .slice Ay ny cy, .slice By my dy] 27)).cell? ⟨w8.heap.size, 0, none⟩ = some (.bool bY) := by simp [go_sem]
  have bd1 : (w8.alloc (.cells #[.bool bY, .slice Ay ny cy, .slice By my dy] 27)).cell? ⟨w8.heap.size, 1, none⟩ = some (.slice Ay ny cy) := by simp [go_sem]
  have bd2 : (w8.alloc (.cells #[.bool bY, .slice Ay ny cy, .slice By my dy] 27)).cell? ⟨w8.heap.size, 2, none⟩ = some (.slice By my dy) := by simp [go_sem]
  have bdl : w8.heap.size < (w8.alloc (.cells #[.bool bY, .slice Ay ny cy, .slice By my dy] 27)).heap.size := by simp
  generalize w8.alloc (.cells #[.bool bY, .slice Ay ny cy, .slice By my dy] 27) = v9 at *
  refine (rtsub_N hx (s0.le (by omega)) rx (sl.le (by omega))).mono ?_
  rintro e w10 ⟨bu, Au, nu, cu, Bu, mu, du, rfl, ru, b⟩
  replace f0 := fK b f0 gl
  replace f1 := fK b f1 gl
  replace hx := hx.on b
  replace zl := zl.on b
  replace zh := zh.on b
  replace rx := rx.on b
  replace ry := ry.on b
  replace k0 := cK b k0 kl
  replace k1 := cK b k1 kl
  replace k2 := cK b k2 kl
  replace kl := lK b kl
  replace g0 := cK b g0 gl
  replace g1 := cK b g1 gl
  replace gl := lK b gl
  replace ba0 := cK b ba0 bal
  replace ba1 := cK b ba1 bal
  replace bal := lK b bal
  replace bb0 := cK b bb0 bbl
  replace bb1 := cK b bb1 bbl
  replace bbl := lK b bbl
  replace bc0 := cK b bc0 bcl
  replace bc1 := cK b bc1 bcl
  replace bc2 := cK b bc2 bcl
  replace bcl := lK b bcl
  replace bd0 := cK b bd0 bdl
  replace bd1 := cK b bd1 bdl
  replace bd2 := cK b bd2 bdl
  replace bdl := lK b bdl
  replace cc := bK cc b
  clear b
  go_wp2_with fail
  have bA := below_one w10 (.cells #[.bool bu, .slice Au nu cu, .slice Bu mu du] 27)
  replace f0 := fK bA f0 gl
  replace f1 := fK bA f1 gl
  replace hx := hx.on bA
  replace zl := zl.on bA
  replace zh := zh.on bA
  replace rx := rx.on bA
  replace ry := ry.on bA
  replace ru := ru.on bA
  replace k0 := cK bA k0 kl
  replace k1 := cK bA k1 kl
  replace k2 := cK bA k2 kl
  replace kl := lK bA kl
  replace g0 := cK bA g0 gl
  replace g1 := cK bA g1 gl
  replace gl := lK bA gl
  replace ba0 := cK bA ba0 bal
  replace ba1 := cK bA ba1 bal
  replace bal := lK bA bal
  replace bb0 := cK bA bb0 bbl
  replace bb1 := cK bA bb1 bbl
  replace bbl := lK bA bbl
  replace bc0 := cK bA bc0 bcl
  replace bc1 := cK bA bc1 bcl
  replace bc2 := cK bA bc2 bcl
  replace bcl := lK bA bcl
  replace bd0 := cK bA bd0 bdl
  replace bd1 := cK bA bd1 bdl
  replace bd2 := cK bA bd2 bdl
  replace bdl := lK bA bdl
  replace cc := bK cc bA
  clear bA
  have be0 : (w10.alloc (.cells #[.bool bu, .slice Au nu cu, .slice Bu mu du] 27)).cell? ⟨w10.heap.size, 0, none⟩ = some (.bool bu) := by simp [go_sem]
  have be1 : (w10.alloc (.cells #[.bool bu, .slice Au nu cu, .slice Bu mu du] 27)).cell? ⟨w10.heap.size, 1, none⟩ = some (.slice Au nu cu) := by simp [go_sem]
  have be2 : (w10.alloc (.cells #[.bool bu, .slice Au nu cu, .slice Bu mu du] 27)).cell? ⟨w10.heap.size, 2, none⟩ = some (.slice Bu mu du) := by simp [go_sem]
  have bel : w10.heap.size < (w10.alloc (.cells #[.bool bu, .slice Au nu cu, .slice Bu mu du] 27)).heap.size := by simp
  generalize w10.alloc (.cells #[.bool bu, .slice Au nu cu, .slice Bu mu du] 27) = v11 at *
  refine (rtsub_N ry (sh.le (by omega)) hx (s0.le (by omega))).mono ?_
  rintro e w12 ⟨bv, Av, nv, cv, Bv, mv, dv, rfl, rv, b⟩
  replace f0 := fK b f0 gl
  replace f1 := fK b f1 gl
  replace hx := hx.on b
  replace zl := zl.on b
  replace zh := zh.on b
  replace rx := rx.on b
  replace ry := ry.on b
  replace ru := ru.on b
  replace k0 := cK b k0 kl
  replace k1 := cK b k1 kl
  replace k2 := cK b k2 kl
  replace kl := lK b kl
  replace g0 := cK b g0 gl
  replace g1 := cK b g1 gl
  replace gl := lK b gl
  replace ba0 := cK b ba0 bal
  replace ba1 := cK b ba1 bal
  replace bal := lK b bal
  replace bb0 := cK b bb0 bbl
  replace bb1 := cK b bb1 bbl
  replace bbl := lK b bbl
  replace bc0 := cK b bc0 bcl
  replace bc1 := cK b bc1 bcl
  replace bc2 := cK b bc2 bcl
  replace bcl := lK b bcl
  replace bd0 := cK b bd0 bdl
  replace bd1 := cK b bd1 bdl
  replace bd2 := cK b bd2 bdl
  replace bdl := lK b bdl
  replace be0 := cK b be0 bel
  replace be1 := cK b be1 bel
  replace be2 := cK b be2 bel
  replace bel := lK b bel
  replace cc := bK cc b
  clear b
  go_wp2_with fail
  have bA := below_one w12 (.cells #[.bool bv, .slice Av nv cv, .slice Bv mv dv] 27)
  replace f0 := fK bA f0 gl
  replace f1 := fK bA f1 gl
  replace hx := hx.on bA
  replace zl := zl.on bA
  replace zh := zh.on bA
  replace rx := rx.on bA
  replace ry := ry.on bA
  replace ru := ru.on bA
  replace rv := rv.on bA
  replace k0 := cK bA k0 kl
  replace k1 := cK bA k1 kl
  replace k2 := cK bA k2 kl
  replace kl := lK bA kl
  replace g0 := cK bA g0 gl
  replace g1 := cK bA g1 gl
  replace gl := lK bA gl
  replace ba0 := cK bA ba0 bal
  replace ba1 := cK bA ba1 bal
  replace bal := lK bA bal
  replace bb0 := cK bA bb0 bbl
  replace bb1 := cK bA bb1 bbl
  replace bbl := lK bA bbl
  replace bc0 := cK bA bc0 bcl
  replace bc1 := cK bA bc1 bcl
  replace bc2 := cK bA bc2 bcl
  replace bcl := lK bA bcl
  replace bd0 := cK bA bd0 bdl
  replace bd1 := cK bA bd1 bdl
  replace bd2 := cK bA bd2 bdl
  replace bdl := lK bA bdl
  replace be0 := cK bA be0 bel
  replace be1 := cK bA be1 bel
  replace be2 := cK bA be2 bel
  replace bel := lK bA bel
  replace cc := bK cc bA
  clear bA
  have bf0 : (w12.alloc (.cells #[.bool bv, .slice Av nv cv, .slice Bv mv dv] 27)).cell? ⟨w12.heap.size, 0, none⟩ = some (.bool bv) := by simp [go_sem]
  have bf1 : (w12.alloc (.cells #[.bool bv, .slice Av nv cv, .slice Bv mv dv] 27)).cell? ⟨w12.heap.size, 1, none⟩ = some (.slice Av nv cv) := by simp [go_sem]
  have bf2 : (w12.alloc (.cells #[.bool bv, .slice Av nv cv, .slice Bv mv dv] 27)).cell? ⟨w12.heap.size, 2, none⟩ = some (.slice Bv mv dv) := by simp [go_sem]
  have bfl : w12.heap.size < (w12.alloc (.cells #[.bool bv, .slice Av nv cv, .slice Bv mv dv] 27)).heap.size := by simp
  generalize w12.alloc (.cells #[.bool bv, .slice Av nv cv, .slice Bv mv dv] 27) = v13 at *
  refine (rtcmp_v cn ru (su.le (by omega)) rv (sv.le (by omega)) HC.out).mono ?_
  rintro e w14 ⟨rfl, b⟩
  replace f0 := fK b f0 gl
  replace f1 := fK b f1 gl
  replace hx := hx.on b
  replace zl := zl.on b
  replace zh := zh.on b
  replace rx := rx.on b
  replace ry := ry.on b
  replace ru := ru.on b
  replace rv := rv.on b
  replace k0 := cK b k0 kl
  replace k1 := cK b k1 kl
  replace k2 := cK b k2 kl
  replace kl := lK b kl
  replace g0 := cK b g0 gl
  replace g1 := cK b g1 gl
  replace gl := lK b gl
  replace ba0 := cK b ba0 bal
  replace ba1 := cK b ba1 bal
  replace bal := lK b bal
  replace bb0 := cK b bb0 bbl
  replace bb1 := cK b bb1 bbl
  replace bbl := lK b bbl
  replace bc0 := cK b bc0 bcl
  replace bc1 := cK b bc1 bcl
  replace bc2 := cK b bc2 bcl
  replace bcl := lK b bcl
  replace bd0 := cK b bd0 bdl
  replace bd1 := cK b bd1 bdl
  replace bd2 := cK b bd2 bdl
  replace bdl := lK b bdl
  replace be0 := cK b be0 bel
  replace be1 := cK b be1 bel
  replace be2 := cK b be2 bel
  replace bel := lK b bel
  replace bf0 := cK b bf0 bfl
  replace bf1 := cK b bf1 bfl
  replace bf2 := cK b bf2 bfl
  replace bfl := lK b bfl
  replace cc := bK cc b
  clear b
  have hn : Zn w14 bl Al nl cl (nea x0 j.toNat) := by rw [HN.out]; exact zl
  have eb : Box w14 (w.heap.size + 1) false none 0 0 := ⟨g0, g1⟩
  have HZ : Hid (Zn ((w14.setCell ⟨w.heap.size + 1, 0, none⟩ (.bool bl)).setCell ⟨w.heap.size + 1, 1, none⟩ (.slice Al nl cl)) bl Al nl cl (nea x0 j.toNat)) := Lib.hid (hn.put eb _ _)
  clear hn
  go_wp2_with fail
  refine bodyPost_ret (v := .tuple #[.agg #[.bool bl, .slice Al nl cl], .int .i64 0]) (by simp [results, Try.results17, go_sem, g0, g1]) rfl ⟨_, _, _, _, rfl, HZ.out, below_put cc (by omega) _ _⟩

set_option maxRecDepth 100000 in
set_option maxHeartbeats 8000000 in
theorem rnear_even {w : World} {b0 : Bool} {A0 B0 : Option Addr} {n0 c0 m0 d0 : Nat} {x0 : Rat} (hx : Rt w b0 A0 n0 c0 B0 m0 d0 x0) (s0 : Sz x0 15) {j : Int} (h0 : 0 ≤ j) (h1 : j ≤ 500) (hc : cmpQ (x0 - bak (flo x0 j.toNat) j.toNat) (bak (cei x0 j.toNat) j.toNat - x0) = 0) (he : flo x0 j.toNat % 2 = 0) :
    Calls Try.prog 17 #[.agg #[.bool b0, .slice A0 n0 c0, .slice B0 m0 d0], .int .i64 j] w (GotZp w (nea x0 j.toNat) 0) := by
  have jl : j.toNat ≤ 500 := by omega
  have ll := flo_len s0 jl
  have lh := cei_len s0 jl
  have hn : nea x0 j.toNat = flo x0 j.toNat := by rw [nea_by]; rw [if_pos (.inr ⟨hc, he⟩)]
  have CF : ∀ {W : World} {b : Bool} {A B : Option Addr} {n c m d : Nat}, Rt W b A n c B m d x0 → Calls Try.prog 13 #[.agg #[.bool b, .slice A n c, .slice B m d], .int .i64 j] W (GotZp W (flo x0 j.toNat) 0) := fun hh => rfloor_N hh (s0.le (by omega)) h0 h1
  have CC : ∀ {W : World} {b : Bool} {A B : Option Addr} {n c m d : Nat}, Rt W b A n c B m d x0 → Calls Try.prog 15 #[.agg #[.bool b, .slice A n c, .slice B m d], .int .i64 j] W (GotZp W (cei x0 j.toNat) 0) := fun hh => rceil_N hh (s0.le (by omega)) h0 h1
  obtain ⟨lo, hlo⟩ : ∃ lo, flo x0 j.toNat = lo := ⟨_, rfl⟩
  obtain ⟨hi, hhi⟩ : ∃ hi, cei x0 j.toNat = hi := ⟨_, rfl⟩
  rw [hlo] at CF ll
  rw [hhi] at CC lh
  rw [hlo, hhi] at hc
  rw [hlo] at he
  rw [hlo] at hn
  have CB : ∀ {W : World} {z : Int} {b : Bool} {A : Option Addr} {n c : Nat}, Zn W b A n c z → (limbs z.natAbs).length ≤ 24 → Calls Try.prog 19 #[.agg #[.bool b, .slice A n c], .int .i64 j] W (GotRp W (bak z j.toNat) 0) := fun hh hl => rback_N hh (by omega) h0 h1
  have sl : Sz (bak lo j.toNat) 24 := bak_sz ll (by omega) jl
  have sh : Sz (bak hi j.toNat) 24 := bak_sz lh (by omega) jl
  obtain ⟨x, hxx⟩ : ∃ x, bak lo j.toNat = x := ⟨_, rfl⟩
  obtain ⟨y, hyy⟩ : ∃ y, bak hi j.toNat = y := ⟨_, rfl⟩
  have CX : ∀ {W : World} {b : Bool} {A : Option Addr} {n c : Nat}, Zn W b A n c lo → Calls Try.prog 19 #[.agg #[.bool b, .slice A n c], .int .i64 j] W (GotRp W x 0) := fun hh => by rw [← hxx]; exact CB hh ll
  have CY : ∀ {W : World} {b : Bool} {A : Option Addr} {n c : Nat}, Zn W b A n c hi → Calls Try.prog 19 #[.agg #[.bool b, .slice A n c], .int .i64 j] W (GotRp W y 0) := fun hh => by rw [← hyy]; exact CB hh lh
  rw [hxx] at sl
  rw [hyy] at sh
  rw [hxx, hyy] at hc
  skip
  obtain ⟨cn, hcn⟩ : ∃ cn, cmpQ (x0 - x) (y - x0) = cn := ⟨_, rfl⟩
  have HC := Lib.hid hcn
  rw [hcn] at hc
  skip
  have su := s0.sub sl
  have sv := sh.sub s0
  have HN := Lib.hid hn
  have t1 : decide (cn < 0) = false := decide_eq_false (by omega)
  have t2 : (cn == 0) = true := beq_iff_eq.2 hc
  have HO : Hid (decide (lo % 2 = 1) = false) := Lib.hid (decide_eq_false (by omega))
  clear CB hxx hyy hcn hlo hhi hn hc h0 h1 he
  have cc := Below.refl w.heap.size w
  go_enter Try.func17, Try.ntmps17
  go_wp2_with fail
  have f0 : ((w.alloc (.cells #[.bool b0, .slice A0 n0 c0, .slice B0 m0 d0] 27)).alloc (.cells #[.bool false, .slice none 0 0] 25)).frozen? ⟨w.heap.size + 1, 0, none⟩ = false := by simp [go_sem]
  have f1 : ((w.alloc (.cells #[.bool b0, .slice A0 n0 c0, .slice B0 m0 d0] 27)).alloc (.cells #[.bool false, .slice none 0 0] 25)).frozen? ⟨w.heap.size + 1, 1, none⟩ = false := by simp [go_sem]
  have bA : Below w.heap.size w ((w.alloc (.cells #[.bool b0, .slice A0 n0 c0, .slice B0 m0 d0] 27)).alloc (.cells #[.bool false, .slice none 0 0] 25)) := (((Below.refl _ w).alloc (by simp) _).alloc (by simp) _)
  replace hx := hx.on bA
  replace cc := bK cc bA
  clear bA
  have k0 : ((w.alloc (.cells #[.bool b0, .slice A0 n0 c0, .slice B0 m0 d0] 27)).alloc (.cells #[.bool false, .slice none 0 0] 25)).cell? ⟨w.heap.size, 0, none⟩ = some (.bool b0) := by simp [go_sem]
  have k1 : ((w.alloc (.cells #[.bool b0, .slice A0 n0 c0, .slice B0 m0 d0] 27)).alloc (.cells #[.bool false, .slice none 0 0] 25)).cell? ⟨w.heap.size, 1, none⟩ = some (.slice A0 n0 c0) := by simp [go_sem]
  have k2 : ((w.alloc (.cells #[.bool b0, .slice A0 n0 c0, .slice B0 m0 d0] 27)).alloc (.cells #[.bool false, .slice none 0 0] 25)).cell? ⟨w.heap.size, 2, none⟩ = some (.slice B0 m0 d0) := by simp [go_sem]
  have kl : w.heap.size < ((w.alloc (.cells #[.bool b0, .slice A0 n0 c0, .slice B0 m0 d0] 27)).alloc (.cells #[.bool false, .slice none 0 0] 25)).heap.size := by simp <;> omega
  have g0 : ((w.alloc (.cells #[.bool b0, .slice A0 n0 c0, .slice B0 m0 d0] 27)).alloc (.cells #[.bool false, .slice none 0 0] 25)).cell? ⟨w.heap.size + 1, 0, none⟩ = some (.bool false) := by simp [go_sem]
  have g1 : ((w.alloc (.cells #[.bool b0, .slice A0 n0 c0, .slice B0 m0 d0] 27)).alloc (.cells #[.bool false, .slice none 0 0] 25)).cell? ⟨w.heap.size + 1, 1, none⟩ = some (.slice none 0 0) := by simp [go_sem]
  have gl : w.heap.size + 1 < ((w.alloc (.cells #[.bool b0, .slice A0 n0 c0, .slice B0 m0 d0] 27)).alloc (.cells #[.bool false, .slice none 0 0] 25)).heap.size := by simp <;> omega
  generalize (w.alloc (.cells #[.bool b0, .slice A0 n0 c0, .slice B0 m0 d0] 27)).alloc (.cells #[.bool false, .slice none 0 0] 25) = v1 at *
  refine (CF hx).mono ?_
  rintro e w2 ⟨bl, Al, nl, cl, rfl, zl, b⟩
  replace f0 := fK b f0 gl
  replace f1 := fK b f1 gl
  replace hx := hx.on b
  replace k0 := cK b k0 kl
  replace k1 := cK b k1 kl
  replace k2 := cK b k2 kl
  replace kl := lK b kl
  replace g0 := cK b g0 gl
  replace g1 := cK b g1 gl
  replace gl := lK b gl
  replace cc := bK cc b
  clear b
  go_wp2_with fail
  have bA := below_one w2 (.cells #[.bool bl, .slice Al nl cl] 25)
  replace f0 := fK bA f0 gl
  replace f1 := fK bA f1 gl
  replace hx := hx.on bA
  replace zl := zl.on bA
  replace k0 := cK bA k0 kl
  replace k1 := cK bA k1 kl
  replace k2 := cK bA k2 kl
  replace kl := lK bA kl
  replace g0 := cK bA g0 gl
  replace g1 := cK bA g1 gl
  replace gl := lK bA gl
  replace cc := bK cc bA
  clear bA
  have ba0 : (w2.alloc (.cells #[.bool bl, .slice Al nl cl] 25)).cell? ⟨w2.heap.size, 0, none⟩ = some (.bool bl) := by simp [go_sem]
  have ba1 : (w2.alloc (.cells #[.bool bl, .slice Al nl cl] 25)).cell? ⟨w2.heap.size, 1, none⟩ = some (.slice Al nl cl) := by simp [go_sem]
  have bal : w2.heap.size < (w2.alloc (.cells #[.bool bl, .slice Al nl cl] 25)).heap.size := by simp
  generalize w2.alloc (.cells #[.bool bl, .slice Al nl cl] 25) = v3 at *
  refine (CC hx).mono ?_
  rintro e w4 ⟨bh, Ah, nh, ch, rfl, zh, b⟩
  replace f0 := fK b f0 gl
  replace f1 := fK b f1 gl
  replace hx := hx.on b
  replace zl := zl.on b
  replace k0 := cK b k0 kl
  replace k1 := cK b k1 kl
  replace k2 := cK b k2 kl
  replace kl := lK b kl
  replace g0 := cK b g0 gl
  replace g1 := cK b g1 gl
  replace gl := lK b gl
  replace ba0 := cK b ba0 bal
  replace ba1 := cK b ba1 bal
  replace bal := lK b bal
  replace cc := bK cc b
  clear b
  go_wp2_with fail
  have bA := below_one w4 (.cells #[.bool bh, .slice Ah nh ch] 25)
  replace f0 := fK bA f0 gl
  replace f1 := fK bA f1 gl
  replace hx := hx.on bA
  replace zl := zl.on bA
  replace zh := zh.on bA
  replace k0 := cK bA k0 kl
  replace k1 := cK bA k1 kl
  replace k2 := cK bA k2 kl
  replace kl := lK bA kl
  replace g0 := cK bA g0 gl
  replace g1 := cK bA g1 gl
  replace gl := lK bA gl
  replace ba0 := cK bA ba0 bal
  replace ba1 := cK bA ba1 bal
  replace bal := lK bA bal
  replace cc := bK cc bA
  clear bA
  have bb0 : (w4.alloc (.cells #[.bool bh, .slice Ah nh ch] 25)).cell? ⟨w4.heap.size, 0, none⟩ = some (.bool bh) := by simp [go_sem]
  have bb1 : (w4.alloc (.cells #[.bool bh, .slice Ah nh ch] 25)).cell? ⟨w4.heap.size, 1, none⟩ = some (.slice Ah nh ch) := by simp [go_sem]
  have bbl : w4.heap.size < (w4.alloc (.cells #[.bool bh, .slice Ah nh ch] 25)).heap.size := by simp
  generalize w4.alloc (.cells #[.bool bh, .slice Ah nh ch] 25) = v5 at *
  refine (CX zl).mono ?_
  rintro e w6 ⟨bx, Ax, nx, cx, Bx, mx, dx, rfl, rx, b⟩
  replace f0 := fK b f0 gl
  replace f1 := fK b f1 gl
  replace hx := hx.on b
  replace zl := zl.on b
  replace zh := zh.on b
  replace k0 := cK b k0 kl
  replace k1 := cK b k1 kl
  replace k2 := cK b k2 kl
  replace kl := lK b kl
  replace g0 := cK b g0 gl
  replace g1 := cK b g1 gl
  replace gl := lK b gl
  replace ba0 := cK b ba0 bal
  replace ba1 := cK b ba1 bal
  replace bal := lK b bal
  replace bb0 := cK b bb0 bbl
  replace bb1 := cK b bb1 bbl
  replace bbl := lK b bbl
  replace cc := bK cc b
  clear b
  go_wp2_with fail
  have bA := below_one w6 (.cells #[.bool bx, .slice Ax nx cx, .slice Bx mx dx] 27)
  replace f0 := fK bA f0 gl
  replace f1 := fK bA f1 gl
  replace hx := hx.on bA
  replace zl := zl.on bA
  replace zh := zh.on bA
  replace rx := rx.on bA
  replace k0 := cK bA k0 kl
  replace k1 := cK bA k1 kl
  replace k2 := cK bA k2 kl
  replace kl := lK bA kl
  replace g0 := cK bA g0 gl
  replace g1 := cK bA g1 gl
  replace gl := lK bA gl
  replace ba0 := cK bA ba0 bal
  replace ba1 := cK bA ba1 bal
  replace bal := lK bA bal
  replace bb0 := cK bA bb0 bbl
  replace bb1 := cK bA bb1 bbl
  replace bbl := lK bA bbl
  replace cc := bK cc bA
  clear bA
  have bc0 : (w6.alloc (.cells #[.bool bx, .slice Ax nx cx, .slice Bx mx dx] 27)).cell? ⟨w6.heap.size, 0, none⟩ = some (.bool bx) := by simp [go_sem]
  have bc1 : (w6.alloc (.cells #[.bool bx, .slice Ax nx cx, .slice Bx mx dx] 27)).cell? ⟨w6.heap.size, 1, none⟩ = some (.slice Ax nx cx) := by simp [go_sem]
  have bc2 : (w6.alloc (.cells #[.bool bx, .slice Ax nx cx, .slice Bx mx dx] 27)).cell? ⟨w6.heap.size, 2, none⟩ = some (.slice Bx mx dx) := by simp [go_sem]
  have bcl : w6.heap.size < (w6.alloc (.cells #[.bool bx, .slice Ax nx cx, .slice Bx mx dx] 27)).heap.size := by simp
  generalize w6.alloc (.cells #[.bool bx, .slice Ax nx cx, .slice Bx mx dx] 27) = v7 at *
  refine (CY zh).mono ?_
  rintro e w8 ⟨bY, Ay, ny, cy, By, my, dy, rfl, ry, b⟩
  replace f0 := fK b f0 gl
  replace f1 := fK b f1 gl
  replace hx := hx.on b
  replace zl := zl.on b
  replace zh := zh.on b
  replace rx := rx.on b
  replace k0 := cK b k0 kl
  replace k1 := cK b k1 kl
  replace k2 := cK b k2 kl
  replace kl := lK b kl
  replace g0 := cK b g0 gl
  replace g1 := cK b g1 gl
  replace gl := lK b gl
  replace ba0 := cK b ba0 bal
  replace ba1 := cK b ba1 bal
  replace bal := lK b bal
  replace bb0 := cK b bb0 bbl
  replace bb1 := cK b bb1 bbl
  replace bbl := lK b bbl
  replace bc0 := cK b bc0 bcl
  replace bc1 := cK b bc1 bcl
  replace bc2 := cK b bc2 bcl
  replace bcl := lK b bcl
  replace cc := bK cc b
  clear b
  go_wp2_with fail
  have bA := below_one w8 (.cells #[.bool bY, .slice Ay ny cy, .slice By my dy] 27)
  replace f0 := fK bA f0 gl
  replace f1 := fK bA f1 gl
  replace hx := hx.on bA
  replace zl := zl.on bA
  replace zh := zh.on bA
  replace rx := rx.on bA
  replace ry := ry.on bA
  replace k0 := cK bA k0 kl
  replace k1 := cK bA k1 kl
  replace k2 := cK bA k2 kl
  replace kl := lK bA kl
  replace g0 := cK bA g0 gl
  replace g1 := cK bA g1 gl
  replace gl := lK bA gl
  replace ba0 := cK bA ba0 bal
  replace ba1 := cK bA ba1 bal
  replace bal := lK bA bal
  replace bb0 := cK bA bb0 bbl
  replace bb1 := cK bA bb1 bbl
  replace bbl := lK bA bbl
  replace bc0 := cK bA bc0 bcl
  replace bc1 := cK bA bc1 bcl
  replace bc2 := cK bA bc2 bcl
  replace bcl := lK bA bcl
  replace cc := bK cc bA
  clear bA
  have bd0 : (w8.alloc (.cells #[.bool bY, .slice Ay ny cy, .slice By my dy] 27)).cell? ⟨w8.heap.size, 0, none⟩ = some (.bool bY) := by simp [go_sem]
  have bd1 : (w8.alloc (.cells #[.bool bY, .slice Ay ny cy, .slice By my dy] 27)).cell? ⟨w8.heap.size, 1, none⟩ = some (.slice Ay ny cy) := by simp [go_sem]
  have bd2 : (w8.alloc (.cells #[.bool bY, .slice Ay ny cy, .slice By my dy] 27)).cell? ⟨w8.heap.size, 2, none⟩ = some (.slice By my dy) := by simp [go_sem]
  have bdl : w8.heap.size < (w8.alloc (.cells #[.bool bY, .slice Ay ny cy, .slice By my dy] 27)).heap.size := by simp
  generalize w8.alloc (.cells #[.bool bY, .slice Ay ny cy, .slice By my dy] 27) = v9 at *
  refine (rtsub_N hx (s0.le (by omega)) rx (sl.le (by omega))).mono ?_
  rintro e w10 ⟨bu, Au, nu, cu, Bu, mu, du, rfl, ru, b⟩
  replace f0 := fK b f0 gl
  replace f1 := fK b f1 gl
  replace hx := hx.on b
  replace zl := zl.on b
  replace zh := zh.on b
  replace rx := rx.on b
  replace ry := ry.on b
  replace k0 := cK b k0 kl
  replace k1 := cK b k1 kl
  replace k2 := cK b k2 kl
  replace kl := lK b kl
  replace g0 := cK b g0 gl
  replace g1 := cK b g1 gl
  replace gl := lK b gl
  replace ba0 := cK b ba0 bal
  replace ba1 := cK b ba1 bal
  replace bal := lK b bal
  replace bb0 := cK b bb0 bbl
  replace bb1 := cK b bb1 bbl
  replace bbl := lK b bbl
  replace bc0 := cK b bc0 bcl
  replace bc1 := cK b bc1 bcl
  replace bc2 := cK b bc2 bcl
  replace bcl := lK b bcl
  replace bd0 := cK b bd0 bdl
  replace bd1 := cK b bd1 bdl
  replace bd2 := cK b bd2 bdl
  replace bdl := lK b bdl
  replace cc := bK cc b
  clear b
  go_wp2_with fail
  have bA := below_one w10 (.cells #[.bool bu, .slice Au nu cu, .slice Bu mu du] 27)
  replace f0 := fK bA f0 gl
  replace f1 := fK bA f1 gl
  replace hx := hx.on bA
  replace zl := zl.on bA
  replace zh := zh.on bA
  replace rx := rx.on bA
  replace ry := ry.on bA
  replace ru := ru.on bA
  replace k0 := cK bA k0 kl
  replace k1 := cK bA k1 kl
  replace k2 := cK bA k2 kl
  replace kl := lK bA kl
  replace g0 := cK bA g0 gl
  replace g1 := cK bA g1 gl
  replace gl := lK bA gl
  replace ba0 := cK bA ba0 bal
  replace ba1 := cK bA ba1 bal
  replace bal := lK bA bal
  replace bb0 := cK bA bb0 bbl
  replace bb1 := cK bA bb1 bbl
  replace bbl := lK bA bbl
  replace bc0 := cK bA bc0 bcl
  replace bc1 := cK bA bc1 bcl
  replace bc2 := cK bA bc2 bcl
  replace bcl := lK bA bcl
  replace bd0 := cK bA bd0 bdl
  replace bd1 := cK bA bd1 bdl
  replace bd2 := cK bA bd2 bdl
  replace bdl := lK bA bdl
  replace cc := bK cc bA
  clear bA
  have be0 : (w10.alloc (.cells #[.bool bu, .slice Au nu cu, .slice Bu mu du] 27)).cell? ⟨w10.heap.size, 0, none⟩ = some (.bool bu) := by simp [go_sem]
  have be1 : (w10.alloc (.cells #[.bool bu, .slice Au nu cu, .slice Bu mu du] 27)).cell? ⟨w10.heap.size, 1, none⟩ = some (.slice Au nu cu) := by simp [go_sem]
  have be2 : (w10.alloc (.cells #[.bool bu, .slice Au nu cu, .slice Bu mu du] 27)).cell? ⟨w10.heap.size, 2, none⟩ = some (.slice Bu mu du) := by simp [go_sem]
  have bel : w10.heap.size < (w10.alloc (.cells #[.bool bu, .slice Au nu cu, .slice Bu mu du] 27)).heap.size := by simp
  generalize w10.alloc (.cells #[.bool bu, .slice Au nu cu, .slice Bu mu du] 27) = v11 at *
  refine (rtsub_N ry (sh.le (by omega)) hx (s0.le (by omega))).mono ?_
  rintro e w12 ⟨bv, Av, nv, cv, Bv, mv, dv, rfl, rv, b⟩
  replace f0 := fK b f0 gl
  replace f1 := fK b f1 gl
  replace hx := hx.on b
  replace zl := zl.on b
  replace zh := zh.on b
  replace rx := rx.on b
  replace ry := ry.on b
  replace ru := ru.on b
  replace k0 := cK b k0 kl
  replace k1 := cK b k1 kl
  replace k2 := cK b k2 kl
  replace kl := lK b kl
  replace g0 := cK b g0 gl
  replace g1 := cK b g1 gl
  replace gl := lK b gl
  replace ba0 := cK b ba0 bal
  replace ba1 := cK b ba1 bal
  replace bal := lK b bal
  replace bb0 := cK b bb0 bbl
  replace bb1 := cK b bb1 bbl
  replace bbl := lK b bbl
  replace bc0 := cK b bc0 bcl
  replace bc1 := cK b bc1 bcl
  replace bc2 := cK b bc2 bcl
  replace bcl := lK b bcl
  replace bd0 := cK b bd0 bdl
  replace bd1 := cK b bd1 bdl
  replace bd2 := cK b bd2 bdl
  replace bdl := lK b bdl
  replace be0 := cK b be0 bel
  replace be1 := cK b be1 bel
  replace be2 := cK b be2 bel
  replace bel := lK b bel
  replace cc := bK cc b
  clear b
  go_wp2_with fail
  have bA := below_one w12 (.cells #[.bool bv, .slice Av nv cv, .slice Bv mv dv] 27)
  replace f0 := fK bA f0 gl
  replace f1 := fK bA f1 gl
  replace hx := hx.on bA
  replace zl := zl.on bA
  replace zh := zh.on bA
  replace rx := rx.on bA
  replace ry := ry.on bA
  replace ru := ru.on bA
  replace rv := rv.on bA
  replace k0 := cK bA k0 kl
  replace k1 := cK bA k1 kl
  replace k2 := cK bA k2 kl
  replace kl := lK bA kl
  replace g0 := cK bA g0 gl
  replace g1 := cK bA g1 gl
  replace gl := lK bA gl
  replace ba0 := cK bA ba0 bal
  replace ba1 := cK bA ba1 bal
  replace bal := lK bA bal
  replace bb0 := cK bA bb0 bbl
  replace bb1 := cK bA bb1 bbl
  replace bbl := lK bA bbl
  replace bc0 := cK bA bc0 bcl
  replace bc1 := cK bA bc1 bcl
  replace bc2 := cK bA bc2 bcl
  replace bcl := lK bA bcl
  replace bd0 := cK bA bd0 bdl
  replace bd1 := cK bA bd1 bdl
  replace bd2 := cK bA bd2 bdl
  replace bdl := lK bA bdl
  replace be0 := cK bA be0 bel
  replace be1 := cK bA be1 bel
  replace be2 := cK bA be2 bel
  replace bel := lK bA bel
  replace cc := bK cc bA
  clear bA
  have bf0 : (w12.alloc (.cells #[.bool bv, .slice Av nv cv, .slice Bv mv dv] 27)).cell? ⟨w12.heap.size, 0, none⟩ = some (.bool bv) := by simp [go_sem]
  have bf1 : (w12.alloc (.cells #[.bool bv, .slice Av nv cv, .slice Bv mv dv] 27)).cell? ⟨w12.heap.size, 1, none⟩ = some (.slice Av nv cv) := by simp [go_sem]
  have bf2 : (w12.alloc (.cells #[.bool bv, .slice Av nv cv, .slice Bv mv dv] 27)).cell? ⟨w12.heap.size, 2, none⟩ = some (.slice Bv mv dv) := by simp [go_sem]
  have bfl : w12.heap.size < (w12.alloc (.cells #[.bool bv, .slice Av nv cv, .slice Bv mv dv] 27)).heap.size := by simp
  generalize w12.alloc (.cells #[.bool bv, .slice Av nv cv, .slice Bv mv dv] 27) = v13 at *
  refine (rtcmp_v cn ru (su.le (by omega)) rv (sv.le (by omega)) HC.out).mono ?_
  rintro e w14 ⟨rfl, b⟩
  replace f0 := fK b f0 gl
  replace f1 := fK b f1 gl
  replace hx := hx.on b
  replace zl := zl.on b
  replace zh := zh.on b
  replace rx := rx.on b
  replace ry := ry.on b
  replace ru := ru.on b
  replace rv := rv.on b
  replace k0 := cK b k0 kl
  replace k1 := cK b k1 kl
  replace k2 := cK b k2 kl
  replace kl := lK b kl
  replace g0 := cK b g0 gl
  replace g1 := cK b g1 gl
  replace gl := lK b gl
  replace ba0 := cK b ba0 bal
  replace ba1 := cK b ba1 bal
  replace bal := lK b bal
  replace bb0 := cK b bb0 bbl
  replace bb1 := cK b bb1 bbl
  replace bbl := lK b bbl
  replace bc0 := cK b bc0 bcl
  replace bc1 := cK b bc1 bcl
  replace bc2 := cK b bc2 bcl
  replace bcl := lK b bcl
  replace bd0 := cK b bd0 bdl
  replace bd1 := cK b bd1 bdl
  replace bd2 := cK b bd2 bdl
  replace bdl := lK b bdl
  replace be0 := cK b be0 bel
  replace be1 := cK b be1 bel
  replace be2 := cK b be2 bel
  replace bel := lK b bel
  replace bf0 := cK b bf0 bfl
  replace bf1 := cK b bf1 bfl
  replace bf2 := cK b bf2 bfl
  replace bfl := lK b bfl
  replace cc := bK cc b
  clear b
  go_wp2_with fail
  refine (rodd_N false zl HO.out).mono ?_
  rintro e w15 ⟨rfl, b⟩
  replace f0 := fK b f0 gl
  replace f1 := fK b f1 gl
  replace hx := hx.on b
  replace zl := zl.on b
  replace zh := zh.on b
  replace rx := rx.on b
  replace ry := ry.on b
  replace ru := ru.on b
  replace rv := rv.on b
  replace k0 := cK b k0 kl
  replace k1 := cK b k1 kl
  replace k2 := cK b k2 kl
  replace kl := lK b kl
  replace g0 := cK b g0 gl
  replace g1 := cK b g1 gl
  replace gl := lK b gl
  replace ba0 := cK b ba0 bal
  replace ba1 := cK b ba1 bal
  replace bal := lK b bal
  replace bb0 := cK b bb0 bbl
  replace bb1 := cK b bb1 bbl
  replace bbl := lK b bbl
  replace bc0 := cK b bc0 bcl
  replace bc1 := cK b bc1 bcl
  replace bc2 := cK b bc2 bcl
  replace bcl := lK b bcl
  replace bd0 := cK b bd0 bdl
  replace bd1 := cK b bd1 bdl
  replace bd2 := cK b bd2 bdl
  replace bdl := lK b bdl
  replace be0 := cK b be0 bel
  replace be1 := cK b be1 bel
  replace be2 := cK b be2 bel
  replace bel := lK b bel
  replace bf0 := cK b bf0 bfl
  replace bf1 := cK b bf1 bfl
  replace bf2 := cK b bf2 bfl
  replace bfl := lK b bfl
  replace cc := bK cc b
  clear b
  have hn : Zn w15 bl Al nl cl (nea x0 j.toNat) := by rw [HN.out]; exact zl
  have eb : Box w15 (w.heap.size + 1) false none 0 0 := ⟨g0, g1⟩
  have HZ : Hid (Zn ((w15.setCell ⟨w.heap.size + 1, 0, none⟩ (.bool bl)).setCell ⟨w.heap.size + 1, 1, none⟩ (.slice Al nl cl)) bl Al nl cl (nea x0 j.toNat)) := Lib.hid (hn.put eb _ _)
  clear hn
  go_wp2_with fail
  refine bodyPost_ret (v := .tuple #[.agg #[.bool bl, .slice Al nl cl], .int .i64 0]) (by simp [results, Try.results17, go_sem, g0, g1]) rfl ⟨_, _, _, _, rfl, HZ.out, below_put cc (by omega) _ _⟩

set_option maxRecDepth 100000 in
set_option maxHeartbeats 8000000 in
theorem rnear_odd {w : World} {b0 : Bool} {A0 B0 : Option Addr} {n0 c0 m0 d0 : Nat} {x0 : Rat} (hx : Rt w b0 A0 n0 c0 B0 m0 d0 x0) (s0 : Sz x0 15) {j : Int} (h0 : 0 ≤ j) (h1 : j ≤ 500) (hc : cmpQ (x0 - bak (flo x0 j.toNat) j.toNat) (bak (cei x0 j.toNat) j.toNat - x0) = 0) (he : ¬ flo x0 j.toNat % 2 = 0) :
    Calls Try.prog 17 #[.agg #[.bool b0, .slice A0 n0 c0, .slice B0 m0 d0], .int .i64 j] w (GotZp w (nea x0 j.toNat) 0) := by
  have jl : j.toNat ≤ 500 := by omega
  have ll := flo_len s0 jl
  have lh := cei_len s0 jl
  have hn : nea x0 j.toNat = cei x0 j.toNat := by rw [nea_by]; rw [if_neg (fun h => h.elim (fun a => by omega) (fun a => he a.2))]
  have CF : ∀ {W : World} {b : Bool} {A B : Option Addr} {n c m d : Nat}, Rt W b A n c B m d x0 → Calls Try.prog 13 #[.agg #[.bool b, .slice A n c, .slice B m d], .int .i64 j] W (GotZp W (flo x0 j.toNat) 0) := fun hh => rfloor_N hh (s0.le (by omega)) h0 h1
  have CC : ∀ {W : World} {b : Bool} {A B : Option Addr} {n c m d : Nat}, Rt W b A n c B m d x0 → Calls Try.prog 15 #[.agg #[.bool b, .slice A n c, .slice B m d], .int .i64 j] W (GotZp W (cei x0 j.toNat) 0) := fun hh => rceil_N hh (s0.le (by omega)) h0 h1
  obtain ⟨lo, hlo⟩ : ∃ lo, flo x0 j.toNat = lo := ⟨_, rfl⟩
  obtain ⟨hi, hhi⟩ : ∃ hi, cei x0 j.toNat = hi := ⟨_, rfl⟩
  rw [hlo] at CF ll
  rw [hhi] at CC lh
  rw [hlo, hhi] at hc
  rw [hlo] at he
  rw [hhi] at hn
  have CB : ∀ {W : World} {z : Int} {b : Bool} {A : Option Addr} {n c : Nat}, Zn W b A n c z → (limbs z.natAbs).length ≤ 24 → Calls Try.prog 19 #[.agg #[.bool b, .slice A n c], .int .i64 j] W (GotRp W (bak z j.toNat) 0) := fun hh hl => rback_N hh (by omega) h0 h1
  have sl : Sz (bak lo j.toNat) 24 := bak_sz ll (by omega) jl
  have sh : Sz (bak hi j.toNat) 24 := bak_sz lh (by omega) jl
  obtain ⟨x, hxx⟩ : ∃ x, bak lo j.toNat = x := ⟨_, rfl⟩
  obtain ⟨y, hyy⟩ : ∃ y, bak hi j.toNat = y := ⟨_, rfl⟩
  have CX : ∀ {W : World} {b : Bool} {A : Option Addr} {n c : Nat}, Zn W b A n c lo → Calls Try.prog 19 #[.agg #[.bool b, .slice A n c], .int .i64 j] W (GotRp W x 0) := fun hh => by rw [← hxx]; exact CB hh ll
  have CY : ∀ {W : World} {b : Bool} {A : Option Addr} {n c : Nat}, Zn W b A n c hi → Calls Try.prog 19 #[.agg #[.bool b, .slice A n c], .int .i64 j] W (GotRp W y 0) := fun hh => by rw [← hyy]; exact CB hh lh
  rw [hxx] at sl
  rw [hyy] at sh
  rw [hxx, hyy] at hc
  skip
  obtain ⟨cn, hcn⟩ : ∃ cn, cmpQ (x0 - x) (y - x0) = cn := ⟨_, rfl⟩
  have HC := Lib.hid hcn
  rw [hcn] at hc
  skip
  have su := s0.sub sl
  have sv := sh.sub s0
  have HN := Lib.hid hn
  have t1 : decide (cn < 0) = false := decide_eq_false (by omega)
  have t2 : (cn == 0) = true := beq_iff_eq.2 hc
  have HO : Hid (decide (lo % 2 = 1) = true) := Lib.hid (decide_eq_true (by omega))
  clear CB hxx hyy hcn hlo hhi hn hc h0 h1 he
  have cc := Below.refl w.heap.size w
  go_enter Try.func17, Try.ntmps17
  go_wp2_with fail
  have f0 : ((w.alloc (.cells #[.bool b0, .slice A0 n0 c0, .slice B0 m0 d0] 27)).alloc (.cells #[.bool false, .slice none 0 0] 25)).frozen? ⟨w.heap.size + 1, 0, none⟩ = false := by simp [go_sem]
  have f1 : ((w.alloc (.cells #[.bool b0, .slice A0 n0 c0, .slice B0 m0 d0] 27)).alloc (.cells #[.bool false, .slice none 0 0] 25)).frozen? ⟨w.heap.size + 1, 1, none⟩ = false := by simp [go_sem]
  have bA : Below w.heap.size w ((w.alloc (.cells #[.bool b0, .slice A0 n0 c0, .slice B0 m0 d0] 27)).alloc (.cells #[.bool false, .slice none 0 0] 25)) := (((Below.refl _ w).alloc (by simp) _).alloc (by simp) _)
  replace hx := hx.on bA
  replace cc := bK cc bA
  clear bA
  have k0 : ((w.alloc (.cells #[.bool b0, .slice A0 n0 c0, .slice B0 m0 d0] 27)).alloc (.cells #[.bool false, .slice none 0 0] 25)).cell? ⟨w.heap.size, 0, none⟩ = some (.bool b0) := by simp [go_sem]
  have k1 : ((w.alloc (.cells #[.bool b0, .slice A0 n0 c0, .slice B0 m0 d0] 27)).alloc (.cells #[.bool false, .slice none 0 0] 25)).cell? ⟨w.heap.size, 1, none⟩ = some (.slice A0 n0 c0) := by simp [go_sem]
  have k2 : ((w.alloc (.cells #[.bool b0, .slice A0 n0 c0, .slice B0 m0 d0] 27)).alloc (.cells #[.bool false, .slice none 0 0] 25)).cell? ⟨w.heap.size, 2, none⟩ = some (.slice B0 m0 d0) := by simp [go_sem]
  have kl : w.heap.size < ((w.alloc (.cells #[.bool b0, .slice A0 n0 c0, .slice B0 m0 d0] 27)).alloc (.cells #[.bool false, .slice none 0 0] 25)).heap.size := by simp <;> omega
  have g0 : ((w.alloc (.cells #[.bool b0, .slice A0 n0 c0, .slice B0 m0 d0] 27)).alloc (.cells #[.bool false, .slice none 0 0] 25)).cell? ⟨w.heap.size + 1, 0, none⟩ = some (.bool false) := by simp [go_sem]
  have g1 : ((w.alloc (.cells #[.bool b0, .slice A0 n0 c0, .slice B0 m0 d0] 27)).alloc (.cells #[.bool false, .slice none 0 0] 25)).cell? ⟨w.heap.size + 1, 1, none⟩ = some (.slice none 0 0) := by simp [go_sem]
  have gl : w.heap.size + 1 < ((w.alloc (.cells #[.bool b0, .slice A0 n0 c0, .slice B0 m0 d0] 27)).alloc (.cells #[.bool false, .slice none 0 0] 25)).heap.size := by simp <;> omega
  generalize (w.alloc (.cells #[.bool b0, .slice A0 n0 c0, .slice B0 m0 d0] 27)).alloc (.cells #[.bool false, .slice none 0 0] 25) = v1 at *
  refine (CF hx).mono ?_
  rintro e w2 ⟨bl, Al, nl, cl, rfl, zl, b⟩
  replace f0 := fK b f0 gl
  replace f1 := fK b f1 gl
  replace hx := hx.on b
  replace k0 := cK b k0 kl
  replace k1 := cK b k1 kl
  replace k2 := cK b k2 kl
  replace kl := lK b kl
  replace g0 := cK b g0 gl
  replace g1 := cK b g1 gl
  replace gl := lK b gl
  replace cc := bK cc b
  clear b
  go_wp2_with fail
  have bA := below_one w2 (.cells #[.bool bl, .slice Al nl cl] 25)
  replace f0 := fK bA f0 gl
  replace f1 := fK bA f1 gl
  replace hx := hx.on bA
  replace zl := zl.on bA
  replace k0 := cK bA k0 kl
  replace k1 := cK bA k1 kl
  replace k2 := cK bA k2 kl
  replace kl := lK bA kl
  replace g0 := cK bA g0 gl
  replace g1 := cK bA g1 gl
  replace gl := lK bA gl
  replace cc := bK cc bA
  clear bA
  have ba0 : (w2.alloc (.cells #[.bool bl, .slice Al nl cl] 25)).cell? ⟨w2.heap.size, 0, none⟩ = some (.bool bl) := by simp [go_sem]
  have ba1 : (w2.alloc (.cells #[.bool bl, .slice Al nl cl] 25)).cell? ⟨w2.heap.size, 1, none⟩ = some (.slice Al nl cl) := by simp [go_sem]
  have bal : w2.heap.size < (w2.alloc (.cells #[.bool bl, .slice Al nl cl] 25)).heap.size := by simp
  generalize w2.alloc (.cells #[.bool bl, .slice Al nl cl] 25) = v3 at *
  refine (CC hx).mono ?_
  rintro e w4 ⟨bh, Ah, nh, ch, rfl, zh, b⟩
  replace f0 := fK b f0 gl
  replace f1 := fK b f1 gl
  replace hx := hx.on b
  replace zl := zl.on b
  replace k0 := cK b k0 kl
  replace k1 := cK b k1 kl
  replace k2 := cK b k2 kl
  replace kl := lK b kl
  replace g0 := cK b g0 gl
  replace g1 := cK b g1 gl
  replace gl := lK b gl
  replace ba0 := cK b ba0 bal
  replace ba1 := cK b ba1 bal
  replace bal := lK b bal
  replace cc := bK cc b
  clear b
  go_wp2_with fail
  have bA := below_one w4 (.cells #[.bool bh, .slice Ah nh ch] 25)
  replace f0 := fK bA f0 gl
  replace f1 := fK bA f1 gl
  replace hx := hx.on bA
  replace zl := zl.on bA
  replace zh := zh.on bA
  replace k0 := cK bA k0 kl
  replace k1 := cK bA k1 kl
  replace k2 := cK bA k2 kl
  replace kl := lK bA kl
  replace g0 := cK bA g0 gl
  replace g1 := cK bA g1 gl
  replace gl := lK bA gl
  replace ba0 := cK bA ba0 bal
  replace ba1 := cK bA ba1 bal
  replace bal := lK bA bal
  replace cc := bK cc bA
  clear bA
  have bb0 : (w4.alloc (.cells #[.bool bh, .slice Ah nh ch] 25)).cell? ⟨w4.heap.size, 0, none⟩ = some (.bool bh) := by simp [go_sem]
  have bb1 : (w4.alloc (.cells #[.bool bh, .slice Ah nh ch] 25)).cell? ⟨w4.heap.size, 1, none⟩ = some (.slice Ah nh ch) := by simp [go_sem]
  have bbl : w4.heap.size < (w4.alloc (.cells #[.bool bh, .slice Ah nh ch] 25)).heap.size := by simp
  generalize w4.alloc (.cells #[.bool bh, .slice Ah nh ch] 25) = v5 at *
  refine (CX zl).mono ?_
  rintro e w6 ⟨bx, Ax, nx, cx, Bx, mx, dx, rfl, rx, b⟩
  replace f0 := fK b f0 gl
  replace f1 := fK b f1 gl
  replace hx := hx.on b
  replace zl := zl.on b
  replace zh := zh.on b
  replace k0 := cK b k0 kl
  replace k1 := cK b k1 kl
  replace k2 := cK b k2 kl
  replace kl := lK b kl
  replace g0 := cK b g0 gl
  replace g1 := cK b g1 gl
  replace gl := lK b gl
  replace ba0 := cK b ba0 bal
  replace ba1 := cK b ba1 bal
  replace bal := lK b bal
  replace bb0 := cK b bb0 bbl
  replace bb1 := cK b bb1 bbl
  replace bbl := lK b bbl
  replace cc := bK cc b
  clear b
  go_wp2_with fail
  have bA := below_one w6 (.cells #[.bool bx, .slice Ax nx cx, .slice Bx mx dx] 27)
  replace f0 := fK bA f0 gl
  replace f1 := fK bA f1 gl
  replace hx := hx.on bA
  replace zl := zl.on bA
  replace zh := zh.on bA
  replace rx := rx.on bA
  replace k0 := cK bA k0 kl
  replace k1 := cK bA k1 kl
  replace k2 := cK bA k2 kl
  replace kl := lK bA kl
  replace g0 := cK bA g0 gl
  replace g1 := cK bA g1 gl
  replace gl := lK bA gl
  replace ba0 := cK bA ba0 bal
  replace ba1 := cK bA ba1 bal
  replace bal := lK bA bal
  replace bb0 := cK bA bb0 bbl
  replace bb1 := cK bA bb1 bbl
  replace bbl := lK bA bbl
  replace cc := bK cc bA
  clear bA
  have bc0 : (w6.alloc (.cells #[.bool bx, .slice Ax nx cx, .slice Bx mx dx] 27)).cell? ⟨w6.heap.size, 0, none⟩ = some (.bool bx) := by simp [go_sem]
  have bc1 : (w6.alloc (.cells #[.bool bx, .slice Ax nx cx, .slice Bx mx dx] 27)).cell? ⟨w6.heap.size, 1, none⟩ = some (.slice Ax nx cx) := by simp [go_sem]
  have bc2 : (w6.alloc (.cells #[.bool bx, .slice Ax nx cx, .slice Bx mx dx] 27)).cell? ⟨w6.heap.size, 2, none⟩ = some (.slice Bx mx dx) := by simp [go_sem]
  have bcl : w6.heap.size < (w6.alloc (.cells #[.bool bx, .slice Ax nx cx, .slice Bx mx dx] 27)).heap.size := by simp
  generalize w6.alloc (.cells #[.bool bx, .slice Ax nx cx, .slice Bx mx dx] 27) = v7 at *
  refine (CY zh).mono ?_
  rintro e w8 ⟨bY, Ay, ny, cy, By, my, dy, rfl, ry, b⟩
  replace f0 := fK b f0 gl
  replace f1 := fK b f1 gl
  replace hx := hx.on b
  replace zl := zl.on b
  replace zh := zh.on b
  replace rx := rx.on b
  replace k0 := cK b k0 kl
  replace k1 := cK b k1 kl
  replace k2 := cK b k2 kl
  replace kl := lK b kl
  replace g0 := cK b g0 gl
  replace g1 := cK b g1 gl
  replace gl := lK b gl
  replace ba0 := cK b ba0 bal
  replace ba1 := cK b ba1 bal
  replace bal := lK b bal
  replace bb0 := cK b bb0 bbl
  replace bb1 := cK b bb1 bbl
  replace bbl := lK b bbl
  replace bc0 := cK b bc0 bcl
  replace bc1 := cK b bc1 bcl
  replace bc2 := cK b bc2 bcl
  replace bcl := lK b bcl
  replace cc := bK cc b
  clear b
  go_wp2_with fail
  have bA := below_one w8 (.cells #[.bool bY, .slice Ay ny cy, .slice By my dy] 27)
  replace f0 := fK bA f0 gl
  replace f1 := fK bA f1 gl
  replace hx := hx.on bA
  replace zl := zl.on bA
  replace zh := zh.on bA
  replace rx := rx.on bA
  replace ry := ry.on bA
  replace k0 := cK bA k0 kl
  replace k1 := cK bA k1 kl
  replace k2 := cK bA k2 kl
  replace kl := lK bA kl
  replace g0 := cK bA g0 gl
  replace g1 := cK bA g1 gl
  replace gl := lK bA gl
  replace ba0 := cK bA ba0 bal
  replace ba1 := cK bA ba1 bal
  replace bal := lK bA bal
  replace bb0 := cK bA bb0 bbl
  replace bb1 := cK bA bb1 bbl
  replace bbl := lK bA bbl
  replace bc0 := cK bA bc0 bcl
  replace bc1 := cK bA bc1 bcl
  replace bc2 := cK bA bc2 bcl
  replace bcl := lK bA bcl
  replace cc := bK cc bA
  clear bA
  have bd0 : (w8.alloc (.cells #[.bool bY, .slice Ay ny cy, .slice By my dy] 27)).cell? ⟨w8.heap.size, 0, none⟩ = some (.bool bY) := by simp [go_sem]
  have bd1 : (w8.alloc (.cells #[.bool bY, .slice Ay ny cy, .slice By my dy] 27)).cell? ⟨w8.heap.size, 1, none⟩ = some (.slice Ay ny cy) := by simp [go_sem]
  have bd2 : (w8.alloc (.cells #[.bool bY, .slice Ay ny cy, .slice By my dy] 27)).cell? ⟨w8.heap.size, 2, none⟩ = some (.slice By my dy) := by simp [go_sem]
  have bdl : w8.heap.size < (w8.alloc (.cells #[.bool bY, .slice Ay ny cy, .slice By my dy] 27)).heap.size := by simp
  generalize w8.alloc (.cells #[.bool bY, .slice Ay ny cy, .slice By my dy] 27) = v9 at *
  refine (rtsub_N hx (s0.le (by omega)) rx (sl.le (by omega))).mono ?_
  rintro e w10 ⟨bu, Au, nu, cu, Bu, mu, du, rfl, ru, b⟩
  replace f0 := fK b f0 gl
  replace f1 := fK b f1 gl
  replace hx := hx.on b
  replace zl := zl.on b
  replace zh := zh.on b
  replace rx := rx.on b
  replace ry := ry.on b
  replace k0 := cK b k0 kl
  replace k1 := cK b k1 kl
  replace k2 := cK b k2 kl
  replace kl := lK b kl
  replace g0 := cK b g0 gl
  replace g1 := cK b g1 gl
  replace gl := lK b gl
  replace ba0 := cK b ba0 bal
  replace ba1 := cK b ba1 bal
  replace bal := lK b bal
  replace bb0 := cK b bb0 bbl
  replace bb1 := cK b bb1 bbl
  replace bbl := lK b bbl
  replace bc0 := cK b bc0 bcl
  replace bc1 := cK b bc1 bcl
  replace bc2 := cK b bc2 bcl
  replace bcl := lK b bcl
  replace bd0 := cK b bd0 bdl
  replace bd1 := cK b bd1 bdl
  replace bd2 := cK b bd2 bdl
  replace bdl := lK b bdl
  replace cc := bK cc b
  clear b
  go_wp2_with fail
  have bA := below_one w10 (.cells #[.bool bu, .slice Au nu cu, .slice Bu mu du] 27)
  replace f0 := fK bA f0 gl
  replace f1 := fK bA f1 gl
  replace hx := hx.on bA
  replace zl := zl.on bA
  replace zh := zh.on bA
  replace rx := rx.on bA
  replace ry := ry.on bA
  replace ru := ru.on bA
  replace k0 := cK bA k0 kl
  replace k1 := cK bA k1 kl
  replace k2 := cK bA k2 kl
  replace kl := lK bA kl
  replace g0 := cK bA g0 gl
  replace g1 := cK bA g1 gl
  replace gl := lK bA gl
  replace ba0 := cK bA ba0 bal
  replace ba1 := cK bA ba1 bal
  replace bal := lK bA bal
  replace bb0 := cK bA bb0 bbl
  replace bb1 := cK bA bb1 bbl
  replace bbl := lK bA bbl
  replace bc0 := cK bA bc0 bcl
  replace bc1 := cK bA bc1 bcl
  replace bc2 := cK bA bc2 bcl
  replace bcl := lK bA bcl
  replace bd0 := cK bA bd0 bdl
  replace bd1 := cK bA bd1 bdl
  replace bd2 := cK bA bd2 bdl
  replace bdl := lK bA bdl
  replace cc := bK cc bA
  clear bA
  have be0 : (w10.alloc (.cells #[.bool bu, .slice Au nu cu, .slice Bu mu du] 27)).cell? ⟨w10.heap.size, 0, none⟩ = some (.bool bu) := by simp [go_sem]
  have be1 : (w10.alloc (.cells #[.bool bu, .slice Au nu cu, .slice Bu mu du] 27)).cell? ⟨w10.heap.size, 1, none⟩ = some (.slice Au nu cu) := by simp [go_sem]
  have be2 : (w10.alloc (.cells #[.bool bu, .slice Au nu cu, .slice Bu mu du] 27)).cell? ⟨w10.heap.size, 2, none⟩ = some (.slice Bu mu du) := by simp [go_sem]
  have bel : w10.heap.size < (w10.alloc (.cells #[.bool bu, .slice Au nu cu, .slice Bu mu du] 27)).heap.size := by simp
  generalize w10.alloc (.cells #[.bool bu, .slice Au nu cu, .slice Bu mu du] 27) = v11 at *
  refine (rtsub_N ry (sh.le (by omega)) hx (s0.le (by omega))).mono ?_
  rintro e w12 ⟨bv, Av, nv, cv, Bv, mv, dv, rfl, rv, b⟩
  replace f0 := fK b f0 gl
  replace f1 := fK b f1 gl
  replace hx := hx.on b
  replace zl := zl.on b
  replace zh := zh.on b
  replace rx := rx.on b
  replace ry := ry.on b
  replace ru := ru.on b
  replace k0 := cK b k0 kl
  replace k1 := cK b k1 kl
  replace k2 := cK b k2 kl
  replace kl := lK b kl
  replace g0 := cK b g0 gl
  replace g1 := cK b g1 gl
  replace gl := lK b gl
  replace ba0 := cK b ba0 bal
  replace ba1 := cK b ba1 bal
  replace bal := lK b bal
  replace bb0 := cK b bb0 bbl
  replace bb1 := cK b bb1 bbl
  replace bbl := lK b bbl
  replace bc0 := cK b bc0 bcl
  replace bc1 := cK b bc1 bcl
  replace bc2 := cK b bc2 bcl
  replace bcl := lK b bcl
  replace bd0 := cK b bd0 bdl
  replace bd1 := cK b bd1 bdl
  replace bd2 := cK b bd2 bdl
  replace bdl := lK b bdl
  replace be0 := cK b be0 bel
  replace be1 := cK b be1 bel
  replace be2 := cK b be2 bel
  replace bel := lK b bel
  replace cc := bK cc b
  clear b
  go_wp2_with fail
  have bA := below_one w12 (.cells #[.bool bv, .slice Av nv cv, .slice Bv mv dv] 27)
  replace f0 := fK bA f0 gl
  replace f1 := fK bA f1 gl
  replace hx := hx.on bA
  replace zl := zl.on bA
  replace zh := zh.on bA
  replace rx := rx.on bA
  replace ry := ry.on bA
  replace ru := ru.on bA
  replace rv := rv.on bA
  replace k0 := cK bA k0 kl
  replace k1 := cK bA k1 kl
  replace k2 := cK bA k2 kl
  replace kl := lK bA kl
  replace g0 := cK bA g0 gl
  replace g1 := cK bA g1 gl
  replace gl := lK bA gl
  replace ba0 := cK bA ba0 bal
  replace ba1 := cK bA ba1 bal
  replace bal := lK bA bal
  replace bb0 := cK bA bb0 bbl
  replace bb1 := cK bA bb1 bbl
  replace bbl := lK bA bbl
  replace bc0 := cK bA bc0 bcl
  replace bc1 := cK bA bc1 bcl
  replace bc2 := cK bA bc2 bcl
  replace bcl := lK bA bcl
  replace bd0 := cK bA bd0 bdl
  replace bd1 := cK bA bd1 bdl
  replace bd2 := cK bA bd2 bdl
  replace bdl := lK bA bdl
  replace be0 := cK bA be0 bel
  replace be1 := cK bA be1 bel
  replace be2 := cK bA be2 bel
  replace bel := lK bA bel
  replace cc := bK cc bA
  clear bA
  have bf0 : (w12.alloc (.cells #[.bool bv, .slice Av nv cv, .slice Bv mv dv] 27)).cell? ⟨w12.heap.size, 0, none⟩ = some (.bool bv) := by simp [go_sem]
  have bf1 : (w12.alloc (.cells #[.bool bv, .slice Av nv cv, .slice Bv mv dv] 27)).cell? ⟨w12.heap.size, 1, none⟩ = some (.slice Av nv cv) := by simp [go_sem]
  have bf2 : (w12.alloc (.cells #[.bool bv, .slice Av nv cv, .slice Bv mv dv] 27)).cell? ⟨w12.heap.size, 2, none⟩ = some (.slice Bv mv dv) := by simp [go_sem]
  have bfl : w12.heap.size < (w12.alloc (.cells #[.bool bv, .slice Av nv cv, .slice Bv mv dv] 27)).heap.size := by simp
  generalize w12.alloc (.cells #[.bool bv, .slice Av nv cv, .slice Bv mv dv] 27) = v13 at *
  refine (rtcmp_v cn ru (su.le (by omega)) rv (sv.le (by omega)) HC.out).mono ?_
  rintro e w14 ⟨rfl, b⟩
  replace f0 := fK b f0 gl
  replace f1 := fK b f1 gl
  replace hx := hx.on b
  replace zl := zl.on b
  replace zh := zh.on b
  replace rx := rx.on b
  replace ry := ry.on b
  replace ru := ru.on b
  replace rv := rv.on b
  replace k0 := cK b k0 kl
  replace k1 := cK b k1 kl
  replace k2 := cK b k2 kl
  replace kl := lK b kl
  replace g0 := cK b g0 gl
  replace g1 := cK b g1 gl
  replace gl := lK b gl
  replace ba0 := cK b ba0 bal
  replace ba1 := cK b ba1 bal
  replace bal := lK b bal
  replace bb0 := cK b bb0 bbl
  replace bb1 := cK b bb1 bbl
  replace bbl := lK b bbl
  replace bc0 := cK b bc0 bcl
  replace bc1 := cK b bc1 bcl
  replace bc2 := cK b bc2 bcl
  replace bcl := lK b bcl
  replace bd0 := cK b bd0 bdl
  replace bd1 := cK b bd1 bdl
  replace bd2 := cK b bd2 bdl
  replace bdl := lK b bdl
  replace be0 := cK b be0 bel
  replace be1 := cK b be1 bel
  replace be2 := cK b be2 bel
  replace bel := lK b bel
  replace bf0 := cK b bf0 bfl
  replace bf1 := cK b bf1 bfl
  replace bf2 := cK b bf2 bfl
  replace bfl := lK b bfl
  replace cc := bK cc b
  clear b
  go_wp2_with fail
  refine (rodd_N true zl HO.out).mono ?_
  rintro e w15 ⟨rfl, b⟩
  replace f0 := fK b f0 gl
  replace f1 := fK b f1 gl
  replace hx := hx.on b
  replace zl := zl.on b
  replace zh := zh.on b
  replace rx := rx.on b
  replace ry := ry.on b
  replace ru := ru.on b
  replace rv := rv.on b
  replace k0 := cK b k0 kl
  replace k1 := cK b k1 kl
  replace k2 := cK b k2 kl
  replace kl := lK b kl
  replace g0 := cK b g0 gl
  replace g1 := cK b g1 gl
  replace gl := lK b gl
  replace ba0 := cK b ba0 bal
  replace ba1 := cK b ba1 bal
  replace bal := lK b bal
  replace bb0 := cK b bb0 bbl
  replace bb1 := cK b bb1 bbl
  replace bbl := lK b bbl
  replace bc0 := cK b bc0 bcl
  replace bc1 := cK b bc1 bcl
  replace bc2 := cK b bc2 bcl
  replace bcl := lK b bcl
  replace bd0 := cK b bd0 bdl
  replace bd1 := cK b bd1 bdl
  replace bd2 := cK b bd2 bdl
  replace bdl := lK b bdl
  replace be0 := cK b be0 bel
  replace be1 := cK b be1 bel
  replace be2 := cK b be2 bel
  replace bel := lK b bel
  replace bf0 := cK b bf0 bfl
  replace bf1 := cK b bf1 bfl
  replace bf2 := cK b bf2 bfl
  replace bfl := lK b bfl
  replace cc := bK cc b
  clear b
  have hn : Zn w15 bh Ah nh ch (nea x0 j.toNat) := by rw [HN.out]; exact zh
  have eb : Box w15 (w.heap.size + 1) false none 0 0 := ⟨g0, g1⟩
  have HZ : Hid (Zn ((w15.setCell ⟨w.heap.size + 1, 0, none⟩ (.bool bh)).setCell ⟨w.heap.size + 1, 1, none⟩ (.slice Ah nh ch)) bh Ah nh ch (nea x0 j.toNat)) := Lib.hid (hn.put eb _ _)
  clear hn
  go_wp2_with fail
  refine bodyPost_ret (v := .tuple #[.agg #[.bool bh, .slice Ah nh ch], .int .i64 0]) (by simp [results, Try.results17, go_sem, g0, g1]) rfl ⟨_, _, _, _, rfl, HZ.out, below_put cc (by omega) _ _⟩

set_option maxRecDepth 100000 in
set_option maxHeartbeats 8000000 in
theorem rnear_gt {w : World} {b0 : Bool} {A0 B0 : Option Addr} {n0 c0 m0 d0 : Nat} {x0 : Rat} (hx : Rt w b0 A0 n0 c0 B0 m0 d0 x0) (s0 : Sz x0 15) {j : Int} (h0 : 0 ≤ j) (h1 : j ≤ 500) (hc : ¬ cmpQ (x0 - bak (flo x0 j.toNat) j.toNat) (bak (cei x0 j.toNat) j.toNat - x0) < 0) (he : ¬ cmpQ (x0 - bak (flo x0 j.toNat) j.toNat) (bak (cei x0 j.toNat) j.toNat - x0) = 0) :
    Calls Try.prog 17 #[.agg #[.bool b0, .slice A0 n0 c0, .slice B0 m0 d0], .int .i64 j] w (GotZp w (nea x0 j.toNat) 0) := by
  have jl : j.toNat ≤ 500 := by omega
  have ll := flo_len s0 jl
  have lh := cei_len s0 jl
  have hn : nea x0 j.toNat = cei x0 j.toNat := by rw [nea_by]; rw [if_neg (fun h => h.elim (fun a => hc a) (fun a => he a.1))]
  have CF : ∀ {W : World} {b : Bool} {A B : Option Addr} {n c m d : Nat}, Rt W b A n c B m d x0 → Calls Try.prog 13 #[.agg #[.bool b, .slice A n c, .slice B m d], .int .i64 j] W (GotZp W (flo x0 j.toNat) 0) := fun hh => rfloor_N hh (s0.le (by omega)) h0 h1
  have CC : ∀ {W : World} {b : Bool} {A B : Option Addr} {n c m d : Nat}, Rt W b A n c B m d x0 → Calls Try.prog 15 #[.agg #[.bool b, .slice A n c, .slice B m d], .int .i64 j] W (GotZp W (cei x0 j.toNat) 0) := fun hh => rceil_N hh (s0.le (by omega)) h0 h1
  obtain ⟨lo, hlo⟩ : ∃ lo, flo x0 j.toNat = lo := ⟨_, rfl⟩
  obtain ⟨hi, hhi⟩ : ∃ hi, cei x0 j.toNat = hi := ⟨_, rfl⟩
  rw [hlo] at CF ll
  rw [hhi] at CC lh
  rw [hlo, hhi] at hc
  rw [hlo, hhi] at he
  rw [hhi] at hn
  have CB : ∀ {W : World} {z : Int} {b : Bool} {A : Option Addr} {n c : Nat}, Zn W b A n c z → (limbs z.natAbs).length ≤ 24 → Calls Try.prog 19 #[.agg #[.bool b, .slice A n c], .int .i64 j] W (GotRp W (bak z j.toNat) 0) := fun hh hl => rback_N hh (by omega) h0 h1
  have sl : Sz (bak lo j.toNat) 24 := bak_sz ll (by omega) jl
  have sh : Sz (bak hi j.toNat) 24 := bak_sz lh (by omega) jl
  obtain ⟨x, hxx⟩ : ∃ x, bak lo j.toNat = x := ⟨_, rfl⟩
  obtain ⟨y, hyy⟩ : ∃ y, bak hi j.toNat = y := ⟨_, rfl⟩
  have CX : ∀ {W : World} {b : Bool} {A : Option Addr} {n c : Nat}, Zn W b A n c lo → Calls Try.prog 19 #[.agg #[.bool b, .slice A n c], .int .i64 j] W (GotRp W x 0) := fun hh => by rw [← hxx]; exact CB hh ll
  have CY : ∀ {W : World} {b : Bool} {A : Option Addr} {n c : Nat}, Zn W b A n c hi → Calls Try.prog 19 #[.agg #[.bool b, .slice A n c], .int .i64 j] W (GotRp W y 0) := fun hh => by rw [← hyy]; exact CB hh lh
  rw [hxx] at sl
  rw [hyy] at sh
  rw [hxx, hyy] at hc
  rw [hxx, hyy] at he
  obtain ⟨cn, hcn⟩ : ∃ cn, cmpQ (x0 - x) (y - x0) = cn := ⟨_, rfl⟩
  have HC := Lib.hid hcn
  rw [hcn] at hc
  rw [hcn] at he
  have su := s0.sub sl
  have sv := sh.sub s0
  have HN := Lib.hid hn
  have t1 : decide (cn < 0) = false := decide_eq_false (by omega)
  have t2 : (cn == 0) = false := beq_eq_false_iff_ne.2 he
  clear CB hxx hyy hcn hlo hhi hn hc h0 h1 he
  have cc := Below.refl w.heap.size w
  go_enter Try.func17, Try.ntmps17
  go_wp2_with fail
  have f0 : ((w.alloc (.cells #[.bool b0, .slice A0 n0 c0, .slice B0 m0 d0] 27)).alloc (.cells #[.bool false, .slice none 0 0] 25)).frozen? ⟨w.heap.size + 1, 0, none⟩ = false := by simp [go_sem]
  have f1 : ((w.alloc (.cells #[.bool b0, .slice A0 n0 c0, .slice B0 m0 d0] 27)).alloc (.cells #[.bool false, .slice none 0 0] 25)).frozen? ⟨w.heap.size + 1, 1, none⟩ = false := by simp [go_sem]
  have bA : Below w.heap.size w ((w.alloc (.cells #[.bool b0, .slice A0 n0 c0, .slice B0 m0 d0] 27)).alloc (.cells #[.bool false, .slice none 0 0] 25)) := (((Below.refl _ w).alloc (by simp) _).alloc (by simp) _)
  replace hx := hx.on bA
  replace cc := bK cc bA
  clear bA
  have k0 : ((w.alloc (.cells #[.bool b0, .slice A0 n0 c0, .slice B0 m0 d0] 27)).alloc (.cells #[.bool false, .slice none 0 0] 25)).cell? ⟨w.heap.size, 0, none⟩ = some (.bool b0) := by simp [go_sem]
  have k1 : ((w.alloc (.cells #[.bool b0, .slice A0 n0 c0, .slice B0 m0 d0] 27)).alloc (.cells #[.bool false, .slice none 0 0] 25)).cell? ⟨w.heap.size, 1, none⟩ = some (.slice A0 n0 c0) := by simp [go_sem]
  have k2 : ((w.alloc (.cells #[.bool b0, .slice A0 n0 c0, .slice B0 m0 d0] 27)).alloc (.cells #[.bool false, .slice none 0 0] 25)).cell? ⟨w.heap.size, 2, none⟩ = some (.slice B0 m0 d0) := by simp [go_sem]
  have kl : w.heap.size < ((w.alloc (.cells #[.bool b0, .slice A0 n0 c0, .slice B0 m0 d0] 27)).alloc (.cells #[.bool false, .slice none 0 0] 25)).heap.size := by simp <;> omega
  have g0 : ((w.alloc (.cells #[.bool b0, .slice A0 n0 c0, .slice B0 m0 d0] 27)).alloc (.cells #[.bool false, .slice none 0 0] 25)).cell? ⟨w.heap.size + 1, 0, none⟩ = some (.bool false) := by simp [go_sem]
  have g1 : ((w.alloc (.cells #[.bool b0, .slice A0 n0 c0, .slice B0 m0 d0] 27)).alloc (.cells #[.bool false, .slice none 0 0] 25)).cell? ⟨w.heap.size + 1, 1, none⟩ = some (.slice none 0 0) := by simp [go_sem]
  have gl : w.heap.size + 1 < ((w.alloc (.cells #[.bool b0, .slice A0 n0 c0, .slice B0 m0 d0] 27)).alloc (.cells #[.bool false, .slice none 0 0] 25)).heap.size := by simp <;> omega
  generalize (w.alloc (.cells #[.bool b0, .slice A0 n0 c0, .slice B0 m0 d0] 27)).alloc (.cells #[.bool false, .slice none 0 0] 25) = v1 at *
  refine (CF hx).mono ?_
  rintro e w2 ⟨bl, Al, nl, cl, rfl, zl, b⟩
  replace f0 := fK b f0 gl
  replace f1 := fK b f1 gl
  replace hx := hx.on b
  replace k0 := cK b k0 kl
  replace k1 := cK b k1 kl
  replace k2 := cK b k2 kl
  replace kl := lK b kl
  replace g0 := cK b g0 gl
  replace g1 := cK b g1 gl
  replace gl := lK b gl
  replace cc := bK cc b
  clear b
  go_wp2_with fail
  have bA := below_one w2 (.cells #[.bool bl, .slice Al nl cl] 25)
  replace f0 := fK bA f0 gl
  replace f1 := fK bA f1 gl
  replace hx := hx.on bA
  replace zl := zl.on bA
  replace k0 := cK bA k0 kl
  replace k1 := cK bA k1 kl
  replace k2 := cK bA k2 kl
  replace kl := lK bA kl
  replace g0 := cK bA g0 gl
  replace g1 := cK bA g1 gl
  replace gl := lK bA gl
  replace cc := bK cc bA
  clear bA
  have ba0 : (w2.alloc (.cells #[.bool bl, .slice Al nl cl] 25)).cell? ⟨w2.heap.size, 0, none⟩ = some (.bool bl) := by simp [go_sem]
  have ba1 : (w2.alloc (.cells #[.bool bl, .slice Al nl cl] 25)).cell? ⟨w2.heap.size, 1, none⟩ = some (.slice Al nl cl) := by simp [go_sem]
  have bal : w2.heap.size < (w2.alloc (.cells #[.bool bl, .slice Al nl cl] 25)).heap.size := by simp
  generalize w2.alloc (.cells #[.bool bl, .slice Al nl cl] 25) = v3 at *
  refine (CC hx).mono ?_
  rintro e w4 ⟨bh, Ah, nh, ch, rfl, zh, b⟩
  replace f0 := fK b f0 gl
  replace f1 := fK b f1 gl
  replace hx := hx.on b
  replace zl := zl.on b
  replace k0 := cK b k0 kl
  replace k1 := cK b k1 kl
  replace k2 := cK b k2 kl
  replace kl := lK b kl
  replace g0 := cK b g0 gl
  replace g1 := cK b g1 gl
  replace gl := lK b gl
  replace ba0 := cK b ba0 bal
  replace ba1 := cK b ba1 bal
  replace bal := lK b bal
  replace cc := bK cc b
  clear b
  go_wp2_with fail
  have bA := below_one w4 (.cells #[.bool bh, .slice Ah nh ch] 25)
  replace f0 := fK bA f0 gl
  replace f1 := fK bA f1 gl
  replace hx := hx.on bA
  replace zl := zl.on bA
  replace zh := zh.on bA
  replace k0 := cK bA k0 kl
  replace k1 := cK bA k1 kl
  replace k2 := cK bA k2 kl
  replace kl := lK bA kl
  replace g0 := cK bA g0 gl
  replace g1 := cK bA g1 gl
  replace gl := lK bA gl
  replace ba0 := cK bA ba0 bal
  replace ba1 := cK bA ba1 bal
  replace bal := lK bA bal
  replace cc := bK cc bA
  clear bA
  have bb0 : (w4.alloc (.cells #[.bool bh, .slice Ah nh ch] 25)).cell? ⟨w4.heap.size, 0, none⟩ = some (.bool bh) := by simp [go_sem]
  have bb1 : (w4.alloc (.cells #[.bool bh, .slice Ah nh ch] 25)).cell? ⟨w4.heap.size, 1, none⟩ = some (.slice Ah nh ch) := by simp [go_sem]
  have bbl : w4.heap.size < (w4.alloc (.cells #[.bool bh, .slice Ah nh ch] 25)).heap.size := by simp
  generalize w4.alloc (.cells #[.bool bh, .slice Ah nh ch] 25) = v5 at *
  refine (CX zl).mono ?_
  rintro e w6 ⟨bx, Ax, nx, cx, Bx, mx, dx, rfl, rx, b⟩
  replace f0 := fK b f0 gl
  replace f1 := fK b f1 gl
  replace hx := hx.on b
  replace zl := zl.on b
  replace zh := zh.on b
  replace k0 := cK b k0 kl
  replace k1 := cK b k1 kl
  replace k2 := cK b k2 kl
  replace kl := lK b kl
  replace g0 := cK b g0 gl
  replace g1 := cK b g1 gl
  replace gl := lK b gl
  replace ba0 := cK b ba0 bal
  replace ba1 := cK b ba1 bal
  replace bal := lK b bal
  replace bb0 := cK b bb0 bbl
  replace bb1 := cK b bb1 bbl
  replace bbl := lK b bbl
  replace cc := bK cc b
  clear b
  go_wp2_with fail
  have bA := below_one w6 (.cells #[.bool bx, .slice Ax nx cx, .slice Bx mx dx] 27)
  replace f0 := fK bA f0 gl
  replace f1 := fK bA f1 gl
  replace hx := hx.on bA
  replace zl := zl.on bA
  replace zh := zh.on bA
  replace rx := rx.on bA
  replace k0 := cK bA k0 kl
  replace k1 := cK bA k1 kl
  replace k2 := cK bA k2 kl
  replace kl := lK bA kl
  replace g0 := cK bA g0 gl
  replace g1 := cK bA g1 gl
  replace gl := lK bA gl
  replace ba0 := cK bA ba0 bal
  replace ba1 := cK bA ba1 bal
  replace bal := lK bA bal
  replace bb0 := cK bA bb0 bbl
  replace bb1 := cK bA bb1 bbl
  replace bbl := lK bA bbl
  replace cc := bK cc bA
  clear bA
  have bc0 : (w6.alloc (.cells #[.bool bx, .slice Ax nx cx, .slice Bx mx dx] 27)).cell? ⟨w6.heap.size, 0, none⟩ = some (.bool bx) := by simp [go_sem]
  have bc1 : (w6.alloc (.cells #[.bool bx, .slice Ax nx cx, .slice Bx mx dx] 27)).cell? ⟨w6.heap.size, 1, none⟩ = some (.slice Ax nx cx) := by simp [go_sem]
  have bc2 : (w6.alloc (.cells #[.bool bx, .slice Ax nx cx, .slice Bx mx dx] 27)).cell? ⟨w6.heap.size, 2, none⟩ = some (.slice Bx mx dx) := by simp [go_sem]
  have bcl : w6.heap.size < (w6.alloc (.cells #[.bool bx, .slice Ax nx cx, .slice Bx mx dx] 27)).heap.size := by simp
  generalize w6.alloc (.cells #[.bool bx, .slice Ax nx cx, .slice Bx mx dx] 27) = v7 at *
  refine (CY zh).mono ?_
  rintro e w8 ⟨bY, Ay, ny, cy, By, my, dy, rfl, ry, b⟩
  replace f0 := fK b f0 gl
  replace f1 := fK b f1 gl
  replace hx := hx.on b
  replace zl := zl.on b
  replace zh := zh.on b
  replace rx := rx.on b
  replace k0 := cK b k0 kl
  replace k1 := cK b k1 kl
  replace k2 := cK b k2 kl
  replace kl := lK b kl
  replace g0 := cK b g0 gl
  replace g1 := cK b g1 gl
  replace gl := lK b gl
  replace ba0 := cK b ba0 bal
  replace ba1 := cK b ba1 bal
  replace bal := lK b bal
  replace bb0 := cK b bb0 bbl
  replace bb1 := cK b bb1 bbl
  replace bbl := lK b bbl
  replace bc0 := cK b bc0 bcl
  replace bc1 := cK b bc1 bcl
  replace bc2 := cK b bc2 bcl
  replace bcl := lK b bcl
  replace cc := bK cc b
  clear b
  go_wp2_with fail
  have bA := below_one w8 (.cells #[.bool bY, .slice Ay ny cy, .slice By my dy] 27)
  replace f0 := fK bA f0 gl
  replace f1 := fK bA f1 gl
  replace hx := hx.on bA
  replace zl := zl.on bA
  replace zh := zh.on bA
  replace rx := rx.on bA
  replace ry := ry.on bA
  replace k0 := cK bA k0 kl
  replace k1 := cK bA k1 kl
  replace k2 := cK bA k2 kl
  replace kl := lK bA kl
  replace g0 := cK bA g0 gl
  replace g1 := cK bA g1 gl
  replace gl := lK bA gl
  replace ba0 := cK bA ba0 bal
  replace ba1 := cK bA ba1 bal
  replace bal := lK bA bal
  replace bb0 := cK bA bb0 bbl
  replace bb1 := cK bA bb1 bbl
  replace bbl := lK bA bbl
  replace bc0 := cK bA bc0 bcl
  replace bc1 := cK bA bc1 bcl
  replace bc2 := cK bA bc2 bcl
  replace bcl := lK bA bcl
  replace cc := bK cc bA
  clear bA
  have bd0 : (w8.alloc (.cells #[.bool bY, .slice Ay ny cy, .slice By my dy] 27)).cell? ⟨w8.heap.size, 0, none⟩ = some (.bool bY) := by simp [go_sem]
  have bd1 : (w8.alloc (.cells #[.bool bY, .slice Ay ny cy, .slice By my dy] 27)).cell? ⟨w8.heap.size, 1, none⟩ = some (.slice Ay ny cy) := by simp [go_sem]
  have bd2 : (w8.alloc (.cells #[.bool bY, .slice Ay ny cy, .slice By my dy] 27)).cell? ⟨w8.heap.size, 2, none⟩ = some (.slice By my dy) := by simp [go_sem]
  have bdl : w8.heap.size < (w8.alloc (.cells #[.bool bY, .slice Ay ny cy, .slice By my dy] 27)).heap.size := by simp
  generalize w8.alloc (.cells #[.bool bY, .slice Ay ny cy, .slice By my dy] 27) = v9 at *
  refine (rtsub_N hx (s0.le (by omega)) rx (sl.le (by omega))).mono ?_
  rintro e w10 ⟨bu, Au, nu, cu, Bu, mu, du, rfl, ru, b⟩
  replace f0 := fK b f0 gl
  replace f1 := fK b f1 gl
  replace hx := hx.on b
  replace zl := zl.on b
  replace zh := zh.on b
  replace rx := rx.on b
  replace ry := ry.on b
  replace k0 := cK b k0 kl
  replace k1 := cK b k1 kl
  replace k2 := cK b k2 kl
  replace kl := lK b kl
  replace g0 := cK b g0 gl
  replace g1 := cK b g1 gl
  replace gl := lK b gl
  replace ba0 := cK b ba0 bal
  replace ba1 := cK b ba1 bal
  replace bal := lK b bal
  replace bb0 := cK b bb0 bbl
  replace bb1 := cK b bb1 bbl
  replace bbl := lK b bbl
  replace bc0 := cK b bc0 bcl
  replace bc1 := cK b bc1 bcl
  replace bc2 := cK b bc2 bcl
  replace bcl := lK b bcl
  replace bd0 := cK b bd0 bdl
  replace bd1 := cK b bd1 bdl
  replace bd2 := cK b bd2 bdl
  replace bdl := lK b bdl
  replace cc := bK cc b
  clear b
  go_wp2_with fail
  have bA := below_one w10 (.cells #[.bool bu, .slice Au nu cu, .slice Bu mu du] 27)
  replace f0 := fK bA f0 gl
  replace f1 := fK bA f1 gl
  replace hx := hx.on bA
  replace zl := zl.on bA
  replace zh := zh.on bA
  replace rx := rx.on bA
  replace ry := ry.on bA
  replace ru := ru.on bA
  replace k0 := cK bA k0 kl
  replace k1 := cK bA k1 kl
  replace k2 := cK bA k2 kl
  replace kl := lK bA kl
  replace g0 := cK bA g0 gl
  replace g1 := cK bA g1 gl
  replace gl := lK bA gl
  replace ba0 := cK bA ba0 bal
  replace ba1 := cK bA ba1 bal
  replace bal := lK bA bal
  replace bb0 := cK bA bb0 bbl
  replace bb1 := cK bA bb1 bbl
  replace bbl := lK bA bbl
  replace bc0 := cK bA bc0 bcl
  replace bc1 := cK bA bc1 bcl
  replace bc2 := cK bA bc2 bcl
  replace bcl := lK bA bcl
  replace bd0 := cK bA bd0 bdl
  replace bd1 := cK bA bd1 bdl
  replace bd2 := cK bA bd2 bdl
  replace bdl := lK bA bdl
  replace cc := bK cc bA
  clear bA
  have be0 : (w10.alloc (.cells #[.bool bu, .slice Au nu cu, .slice Bu mu du] 27)).cell? ⟨w10.heap.size, 0, none⟩ = some (.bool bu) := by simp [go_sem]
  have be1 : (w10.alloc (.cells #[.bool bu, .slice Au nu cu, .slice Bu mu du] 27)).cell? ⟨w10.heap.size, 1, none⟩ = some (.slice Au nu cu) := by simp [go_sem]
  have be2 : (w10.alloc (.cells #[.bool bu, .slice Au nu cu, .slice Bu mu du] 27)).cell? ⟨w10.heap.size, 2, none⟩ = some (.slice Bu mu du) := by simp [go_sem]
  have bel : w10.heap.size < (w10.alloc (.cells #[.bool bu, .slice Au nu cu, .slice Bu mu du] 27)).heap.size := by simp
  generalize w10.alloc (.cells #[.bool bu, .slice Au nu cu, .slice Bu mu du] 27) = v11 at *
  refine (rtsub_N ry (sh.le (by omega)) hx (s0.le (by omega))).mono ?_
  rintro e w12 ⟨bv, Av, nv, cv, Bv, mv, dv, rfl, rv, b⟩
  replace f0 := fK b f0 gl
  replace f1 := fK b f1 gl
  replace hx := hx.on b
  replace zl := zl.on b
  replace zh := zh.on b
  replace rx := rx.on b
  replace ry := ry.on b
  replace ru := ru.on b
  replace k0 := cK b k0 kl
  replace k1 := cK b k1 kl
  replace k2 := cK b k2 kl
  replace kl := lK b kl
  replace g0 := cK b g0 gl
  replace g1 := cK b g1 gl
  replace gl := lK b gl
  replace ba0 := cK b ba0 bal
  replace ba1 := cK b ba1 bal
  replace bal := lK b bal
  replace bb0 := cK b bb0 bbl
  replace bb1 := cK b bb1 bbl
  replace bbl := lK b bbl
  replace bc0 := cK b bc0 bcl
  replace bc1 := cK b bc1 bcl
  replace bc2 := cK b bc2 bcl
  replace bcl := lK b bcl
  replace bd0 := cK b bd0 bdl
  replace bd1 := cK b bd1 bdl
  replace bd2 := cK b bd2 bdl
  replace bdl := lK b bdl
  replace be0 := cK b be0 bel
  replace be1 := cK b be1 bel
  replace be2 := cK b be2 bel
  replace bel := lK b bel
  replace cc := bK cc b
  clear b
  go_wp2_with fail
  have bA := below_one w12 (.cells #[.bool bv, .slice Av nv cv, .slice Bv mv dv] 27)
  replace f0 := fK bA f0 gl
  replace f1 := fK bA f1 gl
  replace hx := hx.on bA
  replace zl := zl.on bA
  replace zh := zh.on bA
  replace rx := rx.on bA
  replace ry := ry.on bA
  replace ru := ru.on bA
  replace rv := rv.on bA
  replace k0 := cK bA k0 kl
  replace k1 := cK bA k1 kl
  replace k2 := cK bA k2 kl
  replace kl := lK bA kl
  replace g0 := cK bA g0 gl
  replace g1 := cK bA g1 gl
  replace gl := lK bA gl
  replace ba0 := cK bA ba0 bal
  replace ba1 := cK bA ba1 bal
  replace bal := lK bA bal
  replace bb0 := cK bA bb0 bbl
  replace bb1 := cK bA bb1 bbl
  replace bbl := lK bA bbl
  replace bc0 := cK bA bc0 bcl
  replace bc1 := cK bA bc1 bcl
  replace bc2 := cK bA bc2 bcl
  replace bcl := lK bA bcl
  replace bd0 := cK bA bd0 bdl
  replace bd1 := cK bA bd1 bdl
  replace bd2 := cK bA bd2 bdl
  replace bdl := lK bA bdl
  replace be0 := cK bA be0 bel
  replace be1 := cK bA be1 bel
  replace be2 := cK bA be2 bel
  replace bel := lK bA bel
  replace cc := bK cc bA
  clear bA
  have bf0 : (w12.alloc (.cells #[.bool bv, .slice Av nv cv, .slice Bv mv dv] 27)).cell? ⟨w12.heap.size, 0, none⟩ = some (.bool bv) := by simp [go_sem]
  have bf1 : (w12.alloc (.cells #[.bool bv, .slice Av nv cv, .slice Bv mv dv] 27)).cell? ⟨w12.heap.size, 1, none⟩ = some (.slice Av nv cv) := by simp [go_sem]
  have bf2 : (w12.alloc (.cells #[.bool bv, .slice Av nv cv, .slice Bv mv dv] 27)).cell? ⟨w12.heap.size, 2, none⟩ = some (.slice Bv mv dv) := by simp [go_sem]
  have bfl : w12.heap.size < (w12.alloc (.cells #[.bool bv, .slice Av nv cv, .slice Bv mv dv] 27)).heap.size := by simp
  generalize w12.alloc (.cells #[.bool bv, .slice Av nv cv, .slice Bv mv dv] 27) = v13 at *
  refine (rtcmp_v cn ru (su.le (by omega)) rv (sv.le (by omega)) HC.out).mono ?_
  rintro e w14 ⟨rfl, b⟩
  replace f0 := fK b f0 gl
  replace f1 := fK b f1 gl
  replace hx := hx.on b
  replace zl := zl.on b
  replace zh := zh.on b
  replace rx := rx.on b
  replace ry := ry.on b
  replace ru := ru.on b
  replace rv := rv.on b
  replace k0 := cK b k0 kl
  replace k1 := cK b k1 kl
  replace k2 := cK b k2 kl
  replace kl := lK b kl
  replace g0 := cK b g0 gl
  replace g1 := cK b g1 gl
  replace gl := lK b gl
  replace ba0 := cK b ba0 bal
  replace ba1 := cK b ba1 bal
  replace bal := lK b bal
  replace bb0 := cK b bb0 bbl
  replace bb1 := cK b bb1 bbl
  replace bbl := lK b bbl
  replace bc0 := cK b bc0 bcl
  replace bc1 := cK b bc1 bcl
  replace bc2 := cK b bc2 bcl
  replace bcl := lK b bcl
  replace bd0 := cK b bd0 bdl
  replace bd1 := cK b bd1 bdl
  replace bd2 := cK b bd2 bdl
  replace bdl := lK b bdl
  replace be0 := cK b be0 bel
  replace be1 := cK b be1 bel
  replace be2 := cK b be2 bel
  replace bel := lK b bel
  replace bf0 := cK b bf0 bfl
  replace bf1 := cK b bf1 bfl
  replace bf2 := cK b bf2 bfl
  replace bfl := lK b bfl
  replace cc := bK cc b
  clear b
  have hn : Zn w14 bh Ah nh ch (nea x0 j.toNat) := by rw [HN.out]; exact zh
  have eb : Box w14 (w.heap.size + 1) false none 0 0 := ⟨g0, g1⟩
  have HZ : Hid (Zn ((w14.setCell ⟨w.heap.size + 1, 0, none⟩ (.bool bh)).setCell ⟨w.heap.size + 1, 1, none⟩ (.slice Ah nh ch)) bh Ah nh ch (nea x0 j.toNat)) := Lib.hid (hn.put eb _ _)
  clear hn
  go_wp2_with fail
  refine bodyPost_ret (v := .tuple #[.agg #[.bool bh, .slice Ah nh ch], .int .i64 0]) (by simp [results, Try.results17, go_sem, g0, g1]) rfl ⟨_, _, _, _, rfl, HZ.out, below_put cc (by omega) _ _⟩

set_option maxRecDepth 100000 in
set_option maxHeartbeats 8000000 in
theorem rnear_N {w : World} {b0 : Bool} {A0 B0 : Option Addr} {n0 c0 m0 d0 : Nat} {x0 : Rat} (hx : Rt w b0 A0 n0 c0 B0 m0 d0 x0) (s0 : Sz x0 15) {j : Int} (h0 : 0 ≤ j) (h1 : j ≤ 500) :
    Calls Try.prog 17 #[.agg #[.bool b0, .slice A0 n0 c0, .slice B0 m0 d0], .int .i64 j] w (GotZp w (nea x0 j.toNat) 0) := by
  by_cases hc : cmpQ (x0 - bak (flo x0 j.toNat) j.toNat) (bak (cei x0 j.toNat) j.toNat - x0) < 0
  · exact rnear_lt hx s0 h0 h1 hc
  · by_cases he : cmpQ (x0 - bak (flo x0 j.toNat) j.toNat) (bak (cei x0 j.toNat) j.toNat - x0) = 0
    · by_cases h2 : flo x0 j.toNat % 2 = 0
      · exact rnear_even hx s0 h0 h1 he h2
      · exact rnear_odd hx s0 h0 h1 he h2
    · exact rnear_gt hx s0 h0 h1 hc he

set_option maxRecDepth 100000 in
set_option maxHeartbeats 8000000 in
theorem rnear_no {w : World} {b0 : Bool} {A0 B0 : Option Addr} {n0 c0 m0 d0 : Nat} {x0 : Rat} (hx : Rt w b0 A0 n0 c0 B0 m0 d0 x0) (s0 : Sz x0 15)  {j : Int} (h : j < 0 ∨ 2000 < j) :
    Calls Try.prog 17 #[.agg #[.bool b0, .slice A0 n0 c0, .slice B0 m0 d0], .int .i64 j] w (GotZp w 0 1) := by
  have cc := Below.refl w.heap.size w
  go_enter Try.func17, Try.ntmps17
  go_wp2_with fail
  have f0 : ((w.alloc (.cells #[.bool b0, .slice A0 n0 c0, .slice B0 m0 d0] 27)).alloc (.cells #[.bool false, .slice none 0 0] 25)).frozen? ⟨w.heap.size + 1, 0, none⟩ = false := by simp [go_sem]
  have f1 : ((w.alloc (.cells #[.bool b0, .slice A0 n0 c0, .slice B0 m0 d0] 27)).alloc (.cells #[.bool false, .slice none 0 0] 25)).frozen? ⟨w.heap.size + 1, 1, none⟩ = false := by simp [go_sem]
  have bA : Below w.heap.size w ((w.alloc (.cells #[.bool b0, .slice A0 n0 c0, .slice B0 m0 d0] 27)).alloc (.cells #[.bool false, .slice none 0 0] 25)) := (((Below.refl _ w).alloc (by simp) _).alloc (by simp) _)
  replace hx := hx.on bA
  replace cc := bK cc bA
  clear bA
  have k0 : ((w.alloc (.cells #[.bool b0, .slice A0 n0 c0, .slice B0 m0 d0] 27)).alloc (.cells #[.bool false, .slice none 0 0] 25)).cell? ⟨w.heap.size, 0, none⟩ = some (.bool b0) := by simp [go_sem]
  have k1 : ((w.alloc (.cells #[.bool b0, .slice A0 n0 c0, .slice B0 m0 d0] 27)).alloc (.cells #[.bool false, .slice none 0 0] 25)).cell? ⟨w.heap.size, 1, none⟩ = some (.slice A0 n0 c0) := by simp [go_sem]
  have k2 : ((w.alloc (.cells #[.bool b0, .slice A0 n0 c0, .slice B0 m0 d0] 27)).alloc (.cells #[.bool false, .slice none 0 0] 25)).cell? ⟨w.heap.size, 2, none⟩ = some (.slice B0 m0 d0) := by simp [go_sem]
  have kl : w.heap.size < ((w.alloc (.cells #[.bool b0, .slice A0 n0 c0, .slice B0 m0 d0] 27)).alloc (.cells #[.bool false, .slice none 0 0] 25)).heap.size := by simp <;> omega
  have g0 : ((w.alloc (.cells #[.bool b0, .slice A0 n0 c0, .slice B0 m0 d0] 27)).alloc (.cells #[.bool false, .slice none 0 0] 25)).cell? ⟨w.heap.size + 1, 0, none⟩ = some (.bool false) := by simp [go_sem]
  have g1 : ((w.alloc (.cells #[.bool b0, .slice A0 n0 c0, .slice B0 m0 d0] 27)).alloc (.cells #[.bool false, .slice none 0 0] 25)).cell? ⟨w.heap.size + 1, 1, none⟩ = some (.slice none 0 0) := by simp [go_sem]
  have gl : w.heap.size + 1 < ((w.alloc (.cells #[.bool b0, .slice A0 n0 c0, .slice B0 m0 d0] 27)).alloc (.cells #[.bool false, .slice none 0 0] 25)).heap.size := by simp <;> omega
  generalize (w.alloc (.cells #[.bool b0, .slice A0 n0 c0, .slice B0 m0 d0] 27)).alloc (.cells #[.bool false, .slice none 0 0] 25) = v1 at *
  refine (rfloor_no h).mono ?_
  rintro e w2 ⟨bl, Al, nl, cl, rfl, zl, b⟩
  replace f0 := fK b f0 gl
  replace f1 := fK b f1 gl
  replace hx := hx.on b
  replace k0 := cK b k0 kl
  replace k1 := cK b k1 kl
  replace k2 := cK b k2 kl
  replace kl := lK b kl
  replace g0 := cK b g0 gl
  replace g1 := cK b g1 gl
  replace gl := lK b gl
  replace cc := bK cc b
  clear b
  have eb : Box w2 (w.heap.size + 1) false none 0 0 := ⟨g0, g1⟩
  have HC := Lib.hid ((eb.put bl Al nl cl).alloc (.cells #[.bool bl, .slice Al nl cl] 25))
  have HZ := Lib.hid ((zl.put eb (.bool bl) (.slice Al nl cl)).alloc (.cells #[.bool bl, .slice Al nl cl] 25))
  have HB := Lib.hid ((below_put cc (show w.heap.size ≤ w.heap.size + 1 by omega) (.bool bl) (.slice Al nl cl)).alloc (by simp; omega) (.cells #[.bool bl, .slice Al nl cl] 25))
  go_wp2_with fail
  obtain ⟨e0, e1⟩ := HC.out
  refine bodyPost_ret (v := .tuple #[.agg #[.bool bl, .slice Al nl cl], .int .i64 1]) (by simp only [results, Try.results17]; simp [go_sem, e0, e1]) rfl ⟨_, _, _, _, rfl, HZ.out, HB.out⟩

end Go.Proofs.Ytchbhmcaalkfdaa
