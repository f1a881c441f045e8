/-
  Several texts in one: QT, L5, FrR, QL, Fr, FrA.
-/
import Derived.Test.YtgnhioffamfakaaA8
import Derived.Test.YtgnhioffamfakaaA7
import Derived.WalkKit
import Derived.ProofKit
import Derived.OpenShut
import Derived.ShutString
import Derived.ChangeOld
import Derived.Below
import Derived.Lib.SmallJoins
import Derived.Test.YtgnhioffamfakaaA2

/-
  The contracts of rat: Make, Of, Cmp, Div, Right.
-/
namespace Go.Proofs.Ytgnhioffamfakaa
open Go.RowKit
set_option linter.unusedVariables false

set_option maxRecDepth 100000 in
set_option maxHeartbeats 8000000 in
theorem qmake_N {w : World} {b : Bool} {A B : Option Addr} {n c m d q : Nat} {p : Int} (ha : Zn w b A n c p) (hb : Num w B m d q) (hq : q ≠ 0) (hx : (limbs p.natAbs).length ≤ 40) (hy : (limbs q).length ≤ 40) :
    Calls Try.prog 13 #[.agg #[.bool b, .slice A n c], .slice B m d] w (GotRp w (mkRat p q) 0) := by
  have cc := Below.refl w.heap.size w
  go_enter Try.func13, Try.ntmps13
  go_wp2_with fail
  have f0 : ((w.alloc (.cells #[.bool b, .slice A n c] 25)).alloc (.cells #[.bool false, .slice none 0 0, .slice none 0 0] 27)).frozen? ⟨w.heap.size + 1, 0, none⟩ = false := by simp [go_sem]
  have f1 : ((w.alloc (.cells #[.bool b, .slice A n c] 25)).alloc (.cells #[.bool false, .slice none 0 0, .slice none 0 0] 27)).frozen? ⟨w.heap.size + 1, 1, none⟩ = false := by simp [go_sem]
  have f2 : ((w.alloc (.cells #[.bool b, .slice A n c] 25)).alloc (.cells #[.bool false, .slice none 0 0, .slice none 0 0] 27)).frozen? ⟨w.heap.size + 1, 2, none⟩ = false := by simp [go_sem]
  have bA : Below w.heap.size w ((w.alloc (.cells #[.bool b, .slice A n c] 25)).alloc (.cells #[.bool false, .slice none 0 0, .slice none 0 0] 27)) := (((Below.refl _ w).alloc (by simp) _).alloc (by simp) _)
  replace ha := ha.on bA
  replace hb := hb.on bA
  replace cc := cc.trans (bA.mono cc.size)
  clear bA
  have k0 : ((w.alloc (.cells #[.bool b, .slice A n c] 25)).alloc (.cells #[.bool false, .slice none 0 0, .slice none 0 0] 27)).cell? ⟨w.heap.size, 0, none⟩ = some (.bool b) := by simp [go_sem]
  have k1 : ((w.alloc (.cells #[.bool b, .slice A n c] 25)).alloc (.cells #[.bool false, .slice none 0 0, .slice none 0 0] 27)).cell? ⟨w.heap.size, 1, none⟩ = some (.slice A n c) := by simp [go_sem]
  have kl : w.heap.size < ((w.alloc (.cells #[.bool b, .slice A n c] 25)).alloc (.cells #[.bool false, .slice none 0 0, .slice none 0 0] 27)).heap.size := by simp <;> omega
  have g0 : ((w.alloc (.cells #[.bool b, .slice A n c] 25)).alloc (.cells #[.bool false, .slice none 0 0, .slice none 0 0] 27)).cell? ⟨w.heap.size + 1, 0, none⟩ = some (.bool false) := by simp [go_sem]
  have g1 : ((w.alloc (.cells #[.bool b, .slice A n c] 25)).alloc (.cells #[.bool false, .slice none 0 0, .slice none 0 0] 27)).cell? ⟨w.heap.size + 1, 1, none⟩ = some (.slice none 0 0) := by simp [go_sem]
  have g2 : ((w.alloc (.cells #[.bool b, .slice A n c] 25)).alloc (.cells #[.bool false, .slice none 0 0, .slice none 0 0] 27)).cell? ⟨w.heap.size + 1, 2, none⟩ = some (.slice none 0 0) := by simp [go_sem]
  have gl : w.heap.size + 1 < ((w.alloc (.cells #[.bool b, .slice A n c] 25)).alloc (.cells #[.bool false, .slice none 0 0, .slice none 0 0] 27)).heap.size := by simp <;> omega
  generalize (w.alloc (.cells #[.bool b, .slice A n c] 25)).alloc (.cells #[.bool false, .slice none 0 0, .slice none 0 0] 27) = v1 at *
  refine (isn_N false hb (by omega) (decide_eq_false hq)).mono ?_
  rintro e w2 ⟨rfl, b⟩
  replace f0 := (b.frozen (p := ⟨w.heap.size + 1, 0, none⟩) gl).trans f0
  replace f1 := (b.frozen (p := ⟨w.heap.size + 1, 1, none⟩) gl).trans f1
  replace f2 := (b.frozen (p := ⟨w.heap.size + 1, 2, none⟩) gl).trans f2
  replace ha := ha.on b
  replace hb := hb.on b
  replace k0 := (b.cell (p := ⟨w.heap.size, 0, none⟩) kl).trans k0
  replace k1 := (b.cell (p := ⟨w.heap.size, 1, none⟩) kl).trans k1
  replace kl := Nat.lt_of_lt_of_le kl b.size
  replace g0 := (b.cell (p := ⟨w.heap.size + 1, 0, none⟩) gl).trans g0
  replace g1 := (b.cell (p := ⟨w.heap.size + 1, 1, none⟩) gl).trans g1
  replace g2 := (b.cell (p := ⟨w.heap.size + 1, 2, none⟩) gl).trans g2
  replace gl := Nat.lt_of_lt_of_le gl b.size
  replace cc := cc.trans (b.mono cc.size)
  clear b
  go_wp2_with fail
  refine (reduced_N ha hb hq (by omega) (by omega)).mono ?_
  rintro e w3 ⟨bm, Am, nm, cm, Bm, mm, dm, rfl, hm, b⟩
  replace f0 := (b.frozen (p := ⟨w.heap.size + 1, 0, none⟩) gl).trans f0
  replace f1 := (b.frozen (p := ⟨w.heap.size + 1, 1, none⟩) gl).trans f1
  replace f2 := (b.frozen (p := ⟨w.heap.size + 1, 2, none⟩) gl).trans f2
  replace ha := ha.on b
  replace hb := hb.on b
  replace k0 := (b.cell (p := ⟨w.heap.size, 0, none⟩) kl).trans k0
  replace k1 := (b.cell (p := ⟨w.heap.size, 1, none⟩) kl).trans k1
  replace kl := Nat.lt_of_lt_of_le kl b.size
  replace g0 := (b.cell (p := ⟨w.heap.size + 1, 0, none⟩) gl).trans g0
  replace g1 := (b.cell (p := ⟨w.heap.size + 1, 1, none⟩) gl).trans g1
  replace g2 := (b.cell (p := ⟨w.heap.size + 1, 2, none⟩) gl).trans g2
  replace gl := Nat.lt_of_lt_of_le gl b.size
  replace cc := cc.trans (b.mono cc.size)
  clear b
  have hn : Rt w3 bm Am nm cm Bm mm dm (mkRat p q) := hm
  have eb : BoxR w3 (w.heap.size + 1) false none 0 0 none 0 0 := ⟨g0, g1, g2⟩
  have HZ : Hid (Rt (putR w3 (w.heap.size + 1) (.bool bm) (.slice Am nm cm) (.slice Bm mm dm)) bm Am nm cm Bm mm dm (mkRat p q)) := Lib.hid (Rt.putR hn eb _ _ _)
  clear hn
  go_wp2_with fail
  refine bodyPost_ret (v := .tuple #[.agg #[.bool bm, .slice Am nm cm, .slice Bm mm dm], .int .i64 0]) (by simp [results, Try.results13, go_sem, g0, g1, g2]) rfl ⟨_, _, _, _, _, _, _, rfl, HZ.out, below_putR cc (by omega) _ _ _⟩

set_option maxRecDepth 100000 in
set_option maxHeartbeats 8000000 in
theorem qmake_zero {w : World} {b : Bool} {A B : Option Addr} {n c d : Nat} :
    Calls Try.prog 13 #[.agg #[.bool b, .slice A n c], .slice B 0 d] w (GotV w (.tuple #[.agg #[.bool false, .slice none 0 0, .slice none 0 0], .int .i64 4])) := by
  have cc := Below.refl w.heap.size w
  go_enter Try.func13, Try.ntmps13
  go_wp2_with fail
  have f0 : ((w.alloc (.cells #[.bool b, .slice A n c] 25)).alloc (.cells #[.bool false, .slice none 0 0, .slice none 0 0] 27)).frozen? ⟨w.heap.size + 1, 0, none⟩ = false := by simp [go_sem]
  have f1 : ((w.alloc (.cells #[.bool b, .slice A n c] 25)).alloc (.cells #[.bool false, .slice none 0 0, .slice none 0 0] 27)).frozen? ⟨w.heap.size + 1, 1, none⟩ = false := by simp [go_sem]
  have f2 : ((w.alloc (.cells #[.bool b, .slice A n c] 25)).alloc (.cells #[.bool false, .slice none 0 0, .slice none 0 0] 27)).frozen? ⟨w.heap.size + 1, 2, none⟩ = false := by simp [go_sem]
  have bA : Below w.heap.size w ((w.alloc (.cells #[.bool b, .slice A n c] 25)).alloc (.cells #[.bool false, .slice none 0 0, .slice none 0 0] 27)) := (((Below.refl _ w).alloc (by simp) _).alloc (by simp) _)
  replace cc := cc.trans (bA.mono cc.size)
  clear bA
  have k0 : ((w.alloc (.cells #[.bool b, .slice A n c] 25)).alloc (.cells #[.bool false, .slice none 0 0, .slice none 0 0] 27)).cell? ⟨w.heap.size, 0, none⟩ = some (.bool b) := by simp [go_sem]
  have k1 : ((w.alloc (.cells #[.bool b, .slice A n c] 25)).alloc (.cells #[.bool false, .slice none 0 0, .slice none 0 0] 27)).cell? ⟨w.heap.size, 1, none⟩ = some (.slice A n c) := by simp [go_sem]
  have kl : w.heap.size < ((w.alloc (.cells #[.bool b, .slice A n c] 25)).alloc (.cells #[.bool false, .slice none 0 0, .slice none 0 0] 27)).heap.size := by simp <;> omega
  have g0 : ((w.alloc (.cells #[.bool b, .slice A n c] 25)).alloc (.cells #[.bool false, .slice none 0 0, .slice none 0 0] 27)).cell? ⟨w.heap.size + 1, 0, none⟩ = some (.bool false) := by simp [go_sem]
  have g1 : ((w.alloc (.cells #[.bool b, .slice A n c] 25)).alloc (.cells #[.bool false, .slice none 0 0, .slice none 0 0] 27)).cell? ⟨w.heap.size + 1, 1, none⟩ = some (.slice none 0 0) := by simp [go_sem]
  have g2 : ((w.alloc (.cells #[.bool b, .slice A n c] 25)).alloc (.cells #[.bool false, .slice none 0 0, .slice none 0 0] 27)).cell? ⟨w.heap.size + 1, 2, none⟩ = some (.slice none 0 0) := by simp [go_sem]
  have gl : w.heap.size + 1 < ((w.alloc (.cells #[.bool b, .slice A n c] 25)).alloc (.cells #[.bool false, .slice none 0 0, .slice none 0 0] 27)).heap.size := by simp <;> omega
  generalize (w.alloc (.cells #[.bool b, .slice A n c] 25)).alloc (.cells #[.bool false, .slice none 0 0, .slice none 0 0] 27) = v1 at *
  refine (isn_N true (num_nil _ B d) len_nil (by simp)).mono ?_
  rintro e w2 ⟨rfl, b⟩
  replace f0 := (b.frozen (p := ⟨w.heap.size + 1, 0, none⟩) gl).trans f0
  replace f1 := (b.frozen (p := ⟨w.heap.size + 1, 1, none⟩) gl).trans f1
  replace f2 := (b.frozen (p := ⟨w.heap.size + 1, 2, none⟩) gl).trans f2
  replace k0 := (b.cell (p := ⟨w.heap.size, 0, none⟩) kl).trans k0
  replace k1 := (b.cell (p := ⟨w.heap.size, 1, none⟩) kl).trans k1
  replace kl := Nat.lt_of_lt_of_le kl b.size
  replace g0 := (b.cell (p := ⟨w.heap.size + 1, 0, none⟩) gl).trans g0
  replace g1 := (b.cell (p := ⟨w.heap.size + 1, 1, none⟩) gl).trans g1
  replace g2 := (b.cell (p := ⟨w.heap.size + 1, 2, none⟩) gl).trans g2
  replace gl := Nat.lt_of_lt_of_le gl b.size
  replace cc := cc.trans (b.mono cc.size)
  clear b
  go_wp2_with fail
  exact bodyPost_ret (v := .tuple #[.agg #[.bool false, .slice none 0 0, .slice none 0 0], .int .i64 4]) (by simp [results, Try.results13, go_sem, g0, g1, g2]) rfl ⟨rfl, below_putR cc (by omega) _ _ _⟩

set_option maxRecDepth 100000 in
set_option maxHeartbeats 8000000 in
theorem qof_N (w : World) (n : Int) (h : I64 n) :
    Calls Try.prog 19 #[.int .i64 n] w (GotRt w ((n : Int) : Rat)) := by
  have cc := Below.refl w.heap.size w
  go_enter Try.func19, Try.ntmps19
  go_wp2_with fail
  have f0 : (w.alloc (.cells #[.bool false, .slice none 0 0, .slice none 0 0] 27)).frozen? ⟨w.heap.size, 0, none⟩ = false := by simp [go_sem]
  have f1 : (w.alloc (.cells #[.bool false, .slice none 0 0, .slice none 0 0] 27)).frozen? ⟨w.heap.size, 1, none⟩ = false := by simp [go_sem]
  have f2 : (w.alloc (.cells #[.bool false, .slice none 0 0, .slice none 0 0] 27)).frozen? ⟨w.heap.size, 2, none⟩ = false := by simp [go_sem]
  have bA : Below w.heap.size w (w.alloc (.cells #[.bool false, .slice none 0 0, .slice none 0 0] 27)) := ((Below.refl _ w).alloc (by simp) _)
  replace cc := cc.trans (bA.mono cc.size)
  clear bA
  have g0 : (w.alloc (.cells #[.bool false, .slice none 0 0, .slice none 0 0] 27)).cell? ⟨w.heap.size, 0, none⟩ = some (.bool false) := by simp [go_sem]
  have g1 : (w.alloc (.cells #[.bool false, .slice none 0 0, .slice none 0 0] 27)).cell? ⟨w.heap.size, 1, none⟩ = some (.slice none 0 0) := by simp [go_sem]
  have g2 : (w.alloc (.cells #[.bool false, .slice none 0 0, .slice none 0 0] 27)).cell? ⟨w.heap.size, 2, none⟩ = some (.slice none 0 0) := by simp [go_sem]
  have gl : w.heap.size < (w.alloc (.cells #[.bool false, .slice none 0 0, .slice none 0 0] 27)).heap.size := by simp <;> omega
  generalize w.alloc (.cells #[.bool false, .slice none 0 0, .slice none 0 0] 27) = v1 at *
  refine (zof_N v1 n h).mono ?_
  rintro e w2 ⟨bm, Am, nm, cm, rfl, pm, b⟩
  replace f0 := (b.frozen (p := ⟨w.heap.size, 0, none⟩) gl).trans f0
  replace f1 := (b.frozen (p := ⟨w.heap.size, 1, none⟩) gl).trans f1
  replace f2 := (b.frozen (p := ⟨w.heap.size, 2, none⟩) gl).trans f2
  replace g0 := (b.cell (p := ⟨w.heap.size, 0, none⟩) gl).trans g0
  replace g1 := (b.cell (p := ⟨w.heap.size, 1, none⟩) gl).trans g1
  replace g2 := (b.cell (p := ⟨w.heap.size, 2, none⟩) gl).trans g2
  replace gl := Nat.lt_of_lt_of_le gl b.size
  replace cc := cc.trans (b.mono cc.size)
  clear b
  go_wp2_with fail
  refine (of_N w2 1 (by decide)).mono ?_
  rintro e w3 ⟨Bm, mm, dm, rfl, qm, b⟩
  replace f0 := (b.frozen (p := ⟨w.heap.size, 0, none⟩) gl).trans f0
  replace f1 := (b.frozen (p := ⟨w.heap.size, 1, none⟩) gl).trans f1
  replace f2 := (b.frozen (p := ⟨w.heap.size, 2, none⟩) gl).trans f2
  replace pm := pm.on b
  replace g0 := (b.cell (p := ⟨w.heap.size, 0, none⟩) gl).trans g0
  replace g1 := (b.cell (p := ⟨w.heap.size, 1, none⟩) gl).trans g1
  replace g2 := (b.cell (p := ⟨w.heap.size, 2, none⟩) gl).trans g2
  replace gl := Nat.lt_of_lt_of_le gl b.size
  replace cc := cc.trans (b.mono cc.size)
  clear b
  have hn : Rt w3 bm Am nm cm Bm mm dm (((n : Int) : Rat)) := ⟨pm, qm⟩
  have eb : BoxR w3 (w.heap.size) false none 0 0 none 0 0 := ⟨g0, g1, g2⟩
  have HZ : Hid (Rt (putR w3 (w.heap.size) (.bool bm) (.slice Am nm cm) (.slice Bm mm dm)) bm Am nm cm Bm mm dm (((n : Int) : Rat))) := Lib.hid (Rt.putR hn eb _ _ _)
  clear hn
  go_wp2_with fail
  refine bodyPost_ret (v := .agg #[.bool bm, .slice Am nm cm, .slice Bm mm dm]) (by simp [results, Try.results19, go_sem, g0, g1, g2]) rfl ⟨_, _, _, _, _, _, _, rfl, HZ.out, below_putR cc (by omega) _ _ _⟩

set_option maxRecDepth 100000 in
set_option maxHeartbeats 8000000 in
theorem qcmp_N {w : World} {b0 b1 : Bool} {A0 B0 A1 B1 : Option Addr} {n0 c0 m0 d0 n1 c1 m1 d1 : Nat} {x0 x1 : Rat} (h0 : Rt w b0 A0 n0 c0 B0 m0 d0 x0) (s0 : Sz x0 30) (h1 : Rt w b1 A1 n1 c1 B1 m1 d1 x1) (s1 : Sz x1 30) :
    Calls Try.prog 30 #[.agg #[.bool b0, .slice A0 n0 c0, .slice B0 m0 d0], .agg #[.bool b1, .slice A1 n1 c1, .slice B1 m1 d1]] w (GotV w (.int .i64 (cmpQ x0 x1))) := by
  have p0 := h0.1
  have q0 := h0.2
  have lp0 := s0.1
  have lq0 := s0.2
  have p1 := h1.1
  have q1 := h1.2
  have lp1 := s1.1
  have lq1 := s1.2
  clear h0
  clear h1
  have lA : (limbs (x0.num * (x1.den : Int)).natAbs).length ≤ 60 := by rw [natAbs_over]; exact limbs_length_mul lp0 lq1
  have lB : (limbs (x1.num * (x0.den : Int)).natAbs).length ≤ 60 := by rw [natAbs_over]; exact limbs_length_mul lp1 lq0
  have cc := Below.refl w.heap.size w
  go_enter Try.func30, Try.ntmps30
  go_wp2_with fail
  have bA : Below w.heap.size w ((w.alloc (.cells #[.bool b0, .slice A0 n0 c0, .slice B0 m0 d0] 27)).alloc (.cells #[.bool b1, .slice A1 n1 c1, .slice B1 m1 d1] 27)) := (((Below.refl _ w).alloc (by simp) _).alloc (by simp) _)
  replace p0 := p0.on bA
  replace q0 := q0.on bA
  replace p1 := p1.on bA
  replace q1 := q1.on bA
  replace cc := cc.trans (bA.mono cc.size)
  clear bA
  have k0 : ((w.alloc (.cells #[.bool b0, .slice A0 n0 c0, .slice B0 m0 d0] 27)).alloc (.cells #[.bool b1, .slice A1 n1 c1, .slice B1 m1 d1] 27)).cell? ⟨w.heap.size, 0, none⟩ = some (.bool b0) := by simp [go_sem]
  have k1 : ((w.alloc (.cells #[.bool b0, .slice A0 n0 c0, .slice B0 m0 d0] 27)).alloc (.cells #[.bool b1, .slice A1 n1 c1, .slice B1 m1 d1] 27)).cell? ⟨w.heap.size, 1, none⟩ = some (.slice A0 n0 c0) := by simp [go_sem]
  have k2 : ((w.alloc (.cells #[.bool b0, .slice A0 n0 c0, .slice B0 m0 d0] 27)).alloc (.cells #[.bool b1, .slice A1 n1 c1, .slice B1 m1 d1] 27)).cell? ⟨w.heap.size, 2, none⟩ = some (.slice B0 m0 d0) := by simp [go_sem]
  have kl : w.heap.size < ((w.alloc (.cells #[.bool b0, .slice A0 n0 c0, .slice B0 m0 d0] 27)).alloc (.cells #[.bool b1, .slice A1 n1 c1, .slice B1 m1 d1] 27)).heap.size := by simp <;> omega
  have r0 : ((w.alloc (.cells #[.bool b0, .slice A0 n0 c0, .slice B0 m0 d0] 27)).alloc (.cells #[.bool b1, .slice A1 n1 c1, .slice B1 m1 d1] 27)).cell? ⟨w.heap.size + 1, 0, none⟩ = some (.bool b1) := by simp [go_sem]
  have r1 : ((w.alloc (.cells #[.bool b0, .slice A0 n0 c0, .slice B0 m0 d0] 27)).alloc (.cells #[.bool b1, .slice A1 n1 c1, .slice B1 m1 d1] 27)).cell? ⟨w.heap.size + 1, 1, none⟩ = some (.slice A1 n1 c1) := by simp [go_sem]
  have r2 : ((w.alloc (.cells #[.bool b0, .slice A0 n0 c0, .slice B0 m0 d0] 27)).alloc (.cells #[.bool b1, .slice A1 n1 c1, .slice B1 m1 d1] 27)).cell? ⟨w.heap.size + 1, 2, none⟩ = some (.slice B1 m1 d1) := by simp [go_sem]
  have rl : w.heap.size + 1 < ((w.alloc (.cells #[.bool b0, .slice A0 n0 c0, .slice B0 m0 d0] 27)).alloc (.cells #[.bool b1, .slice A1 n1 c1, .slice B1 m1 d1] 27)).heap.size := by simp <;> omega
  generalize (w.alloc (.cells #[.bool b0, .slice A0 n0 c0, .slice B0 m0 d0] 27)).alloc (.cells #[.bool b1, .slice A1 n1 c1, .slice B1 m1 d1] 27) = v1 at *
  have qq : Below v1.heap.size v1 v1.drew := below_drewN (Below.refl _ v1) 1
  have p0' := p0.on qq
  have q0' := q0.on qq
  have p1' := p1.on qq
  have q1' := q1.on qq
  go_region_held3 (fun w' => w'.cell? ⟨w.heap.size, 0, none⟩ = some (.bool b0) ∧ w'.cell? ⟨w.heap.size, 1, none⟩ = some (.slice A0 n0 c0) ∧ w'.cell? ⟨w.heap.size, 2, none⟩ = some (.slice B0 m0 d0) ∧ w'.cell? ⟨w.heap.size + 1, 0, none⟩ = some (.bool b1) ∧ w'.cell? ⟨w.heap.size + 1, 1, none⟩ = some (.slice A1 n1 c1) ∧ w'.cell? ⟨w.heap.size + 1, 2, none⟩ = some (.slice B1 m1 d1))
    (first | with_reducible exact ⟨(qq.cell (p := ⟨w.heap.size, 0, none⟩) kl).trans k0, (qq.cell (p := ⟨w.heap.size, 1, none⟩) kl).trans k1, (qq.cell (p := ⟨w.heap.size, 2, none⟩) kl).trans k2, (qq.cell (p := ⟨w.heap.size + 1, 0, none⟩) rl).trans r0, (qq.cell (p := ⟨w.heap.size + 1, 1, none⟩) rl).trans r1, (qq.cell (p := ⟨w.heap.size + 1, 2, none⟩) rl).trans r2⟩ | go_keep)
    (first
      | (go_at_call 60; (with_reducible refine (times5_N p0' q1' (Nat.le_trans lp0 (by omega)) (Nat.le_trans lq1 (by omega))).mono ?_); rintro e wz ⟨bu, Au, nu, cu, rfl, u, q⟩; replace qq := qq.trans (q.mono qq.size); (try replace p0' := p0'.on q); (try replace q0' := q0'.on q); (try replace p1' := p1'.on q); (try replace q1' := q1'.on q); (try replace v := v.on q); clear q)
      | (go_at_call 60; (with_reducible refine (times5_N p1' q0' (Nat.le_trans lp1 (by omega)) (Nat.le_trans lq0 (by omega))).mono ?_); rintro e wz ⟨bv, Av, nv, cv, rfl, v, q⟩; replace qq := qq.trans (q.mono qq.size); (try replace p0' := p0'.on q); (try replace q0' := q0'.on q); (try replace p1' := p1'.on q); (try replace q1' := q1'.on q); (try replace u := u.on q); clear q)
      | (go_at_call 59; (with_reducible refine (zcmp_N u v (Nat.le_trans lA (by omega)) (Nat.le_trans lB (by omega))).mono ?_); rintro e wz ⟨rfl, q⟩; replace qq := qq.trans (q.mono qq.size); (try replace p0' := p0'.on q); (try replace q0' := q0'.on q); (try replace p1' := p1'.on q); (try replace q1' := q1'.on q); (try replace u := u.on q); (try replace v := v.on q); clear q))
  clear p0
  have p0 := p0'
  clear p0'
  clear q0
  have q0 := q0'
  clear q0'
  clear p1
  have p1 := p1'
  clear p1'
  clear q1
  have q1 := q1'
  clear q1'
  replace k0 := (qq.cell (p := ⟨w.heap.size, 0, none⟩) kl).trans k0
  replace k1 := (qq.cell (p := ⟨w.heap.size, 1, none⟩) kl).trans k1
  replace k2 := (qq.cell (p := ⟨w.heap.size, 2, none⟩) kl).trans k2
  replace kl := Nat.lt_of_lt_of_le kl qq.size
  replace r0 := (qq.cell (p := ⟨w.heap.size + 1, 0, none⟩) rl).trans r0
  replace r1 := (qq.cell (p := ⟨w.heap.size + 1, 1, none⟩) rl).trans r1
  replace r2 := (qq.cell (p := ⟨w.heap.size + 1, 2, none⟩) rl).trans r2
  replace rl := Nat.lt_of_lt_of_le rl qq.size
  replace cc := cc.trans (qq.mono cc.size)
  clear qq
  go_wp2_with fail
  go_ret
  refine ⟨?_, cc⟩
  rw [cmpQ_eq]
  rfl

theorem rt_inv {w : World} {b : Bool} {A B : Option Addr} {n c m d : Nat} {x : Rat} (h : Rt w b A n c B m d x) (hne : x.num ≠ 0) : Rt w b B m d A n c x⁻¹ := by
  refine ⟨?_, ?_⟩
  · rw [inv_num x hne]; exact zn_side h.1 h.2 x.den_nz
  · rw [inv_den x hne]; exact h.1.1

set_option maxRecDepth 100000 in
set_option maxHeartbeats 8000000 in
theorem qdiv_N {w : World} {b0 b1 : Bool} {A0 B0 A1 B1 : Option Addr} {n0 c0 m0 d0 n1 c1 m1 d1 : Nat} {x0 x1 : Rat} (h0 : Rt w b0 A0 n0 c0 B0 m0 d0 x0) (s0 : Sz x0 30) (h1 : Rt w b1 A1 n1 c1 B1 m1 d1 x1) (s1 : Sz x1 30) (hne : x1.num ≠ 0) :
    Calls Try.prog 22 #[.agg #[.bool b0, .slice A0 n0 c0, .slice B0 m0 d0], .agg #[.bool b1, .slice A1 n1 c1, .slice B1 m1 d1]] w (GotRp w (x0 / x1) 0) := by
  have hi := rt_inv h1 hne
  have hp := h1.1.1
  have si := s1.inv hne
  have lp := s1.1
  have cc := Below.refl w.heap.size w
  go_enter Try.func22, Try.ntmps22
  go_wp2_with fail
  have f0 : (((w.alloc (.cells #[.bool b0, .slice A0 n0 c0, .slice B0 m0 d0] 27)).alloc (.cells #[.bool b1, .slice A1 n1 c1, .slice B1 m1 d1] 27)).alloc (.cells #[.bool false, .slice none 0 0, .slice none 0 0] 27)).frozen? ⟨w.heap.size + 1 + 1, 0, none⟩ = false := by simp [go_sem]
  have f1 : (((w.alloc (.cells #[.bool b0, .slice A0 n0 c0, .slice B0 m0 d0] 27)).alloc (.cells #[.bool b1, .slice A1 n1 c1, .slice B1 m1 d1] 27)).alloc (.cells #[.bool false, .slice none 0 0, .slice none 0 0] 27)).frozen? ⟨w.heap.size + 1 + 1, 1, none⟩ = false := by simp [go_sem]
  have f2 : (((w.alloc (.cells #[.bool b0, .slice A0 n0 c0, .slice B0 m0 d0] 27)).alloc (.cells #[.bool b1, .slice A1 n1 c1, .slice B1 m1 d1] 27)).alloc (.cells #[.bool false, .slice none 0 0, .slice none 0 0] 27)).frozen? ⟨w.heap.size + 1 + 1, 2, none⟩ = false := by simp [go_sem]
  have bA : Below w.heap.size w (((w.alloc (.cells #[.bool b0, .slice A0 n0 c0, .slice B0 m0 d0] 27)).alloc (.cells #[.bool b1, .slice A1 n1 c1, .slice B1 m1 d1] 27)).alloc (.cells #[.bool false, .slice none 0 0, .slice none 0 0] 27)) := ((((Below.refl _ w).alloc (by simp) _).alloc (by simp) _).alloc (by simp <;> omega) _)
  replace h0 := h0.on bA
  replace h1 := h1.on bA
  replace hi := hi.on bA
  replace hp := hp.on bA
  replace cc := cc.trans (bA.mono cc.size)
  clear bA
  have k0 : (((w.alloc (.cells #[.bool b0, .slice A0 n0 c0, .slice B0 m0 d0] 27)).alloc (.cells #[.bool b1, .slice A1 n1 c1, .slice B1 m1 d1] 27)).alloc (.cells #[.bool false, .slice none 0 0, .slice none 0 0] 27)).cell? ⟨w.heap.size, 0, none⟩ = some (.bool b0) := by simp [go_sem]
  have k1 : (((w.alloc (.cells #[.bool b0, .slice A0 n0 c0, .slice B0 m0 d0] 27)).alloc (.cells #[.bool b1, .slice A1 n1 c1, .slice B1 m1 d1] 27)).alloc (.cells #[.bool false, .slice none 0 0, .slice none 0 0] 27)).cell? ⟨w.heap.size, 1, none⟩ = some (.slice A0 n0 c0) := by simp [go_sem]
  have k2 : (((w.alloc (.cells #[.bool b0, .slice A0 n0 c0, .slice B0 m0 d0] 27)).alloc (.cells #[.bool b1, .slice A1 n1 c1, .slice B1 m1 d1] 27)).alloc (.cells #[.bool false, .slice none 0 0, .slice none 0 0] 27)).cell? ⟨w.heap.size, 2, none⟩ = some (.slice B0 m0 d0) := by simp [go_sem]
  have kl : w.heap.size < (((w.alloc (.cells #[.bool b0, .slice A0 n0 c0, .slice B0 m0 d0] 27)).alloc (.cells #[.bool b1, .slice A1 n1 c1, .slice B1 m1 d1] 27)).alloc (.cells #[.bool false, .slice none 0 0, .slice none 0 0] 27)).heap.size := by simp <;> omega
  have r0 : (((w.alloc (.cells #[.bool b0, .slice A0 n0 c0, .slice B0 m0 d0] 27)).alloc (.cells #[.bool b1, .slice A1 n1 c1, .slice B1 m1 d1] 27)).alloc (.cells #[.bool false, .slice none 0 0, .slice none 0 0] 27)).cell? ⟨w.heap.size + 1, 0, none⟩ = some (.bool b1) := by simp [go_sem]
  have r1 : (((w.alloc (.cells #[.bool b0, .slice A0 n0 c0, .slice B0 m0 d0] 27)).alloc (.cells #[.bool b1, .slice A1 n1 c1, .slice B1 m1 d1] 27)).alloc (.cells #[.bool false, .slice none 0 0, .slice none 0 0] 27)).cell? ⟨w.heap.size + 1, 1, none⟩ = some (.slice A1 n1 c1) := by simp [go_sem]
  have r2 : (((w.alloc (.cells #[.bool b0, .slice A0 n0 c0, .slice B0 m0 d0] 27)).alloc (.cells #[.bool b1, .slice A1 n1 c1, .slice B1 m1 d1] 27)).alloc (.cells #[.bool false, .slice none 0 0, .slice none 0 0] 27)).cell? ⟨w.heap.size + 1, 2, none⟩ = some (.slice B1 m1 d1) := by simp [go_sem]
  have rl : w.heap.size + 1 < (((w.alloc (.cells #[.bool b0, .slice A0 n0 c0, .slice B0 m0 d0] 27)).alloc (.cells #[.bool b1, .slice A1 n1 c1, .slice B1 m1 d1] 27)).alloc (.cells #[.bool false, .slice none 0 0, .slice none 0 0] 27)).heap.size := by simp <;> omega
  have g0 : (((w.alloc (.cells #[.bool b0, .slice A0 n0 c0, .slice B0 m0 d0] 27)).alloc (.cells #[.bool b1, .slice A1 n1 c1, .slice B1 m1 d1] 27)).alloc (.cells #[.bool false, .slice none 0 0, .slice none 0 0] 27)).cell? ⟨w.heap.size + 1 + 1, 0, none⟩ = some (.bool false) := by simp [go_sem]
  have g1 : (((w.alloc (.cells #[.bool b0, .slice A0 n0 c0, .slice B0 m0 d0] 27)).alloc (.cells #[.bool b1, .slice A1 n1 c1, .slice B1 m1 d1] 27)).alloc (.cells #[.bool false, .slice none 0 0, .slice none 0 0] 27)).cell? ⟨w.heap.size + 1 + 1, 1, none⟩ = some (.slice none 0 0) := by simp [go_sem]
  have g2 : (((w.alloc (.cells #[.bool b0, .slice A0 n0 c0, .slice B0 m0 d0] 27)).alloc (.cells #[.bool b1, .slice A1 n1 c1, .slice B1 m1 d1] 27)).alloc (.cells #[.bool false, .slice none 0 0, .slice none 0 0] 27)).cell? ⟨w.heap.size + 1 + 1, 2, none⟩ = some (.slice none 0 0) := by simp [go_sem]
  have gl : w.heap.size + 1 + 1 < (((w.alloc (.cells #[.bool b0, .slice A0 n0 c0, .slice B0 m0 d0] 27)).alloc (.cells #[.bool b1, .slice A1 n1 c1, .slice B1 m1 d1] 27)).alloc (.cells #[.bool false, .slice none 0 0, .slice none 0 0] 27)).heap.size := by simp <;> omega
  generalize ((w.alloc (.cells #[.bool b0, .slice A0 n0 c0, .slice B0 m0 d0] 27)).alloc (.cells #[.bool b1, .slice A1 n1 c1, .slice B1 m1 d1] 27)).alloc (.cells #[.bool false, .slice none 0 0, .slice none 0 0] 27) = v1 at *
  refine (isn_N false hp (Nat.le_trans lp (by omega)) (decide_eq_false (by omega))).mono ?_
  rintro e w2 ⟨rfl, b⟩
  replace f0 := (b.frozen (p := ⟨w.heap.size + 1 + 1, 0, none⟩) gl).trans f0
  replace f1 := (b.frozen (p := ⟨w.heap.size + 1 + 1, 1, none⟩) gl).trans f1
  replace f2 := (b.frozen (p := ⟨w.heap.size + 1 + 1, 2, none⟩) gl).trans f2
  replace h0 := h0.on b
  replace h1 := h1.on b
  replace hi := hi.on b
  replace hp := hp.on b
  replace k0 := (b.cell (p := ⟨w.heap.size, 0, none⟩) kl).trans k0
  replace k1 := (b.cell (p := ⟨w.heap.size, 1, none⟩) kl).trans k1
  replace k2 := (b.cell (p := ⟨w.heap.size, 2, none⟩) kl).trans k2
  replace kl := Nat.lt_of_lt_of_le kl b.size
  replace r0 := (b.cell (p := ⟨w.heap.size + 1, 0, none⟩) rl).trans r0
  replace r1 := (b.cell (p := ⟨w.heap.size + 1, 1, none⟩) rl).trans r1
  replace r2 := (b.cell (p := ⟨w.heap.size + 1, 2, none⟩) rl).trans r2
  replace rl := Nat.lt_of_lt_of_le rl b.size
  replace g0 := (b.cell (p := ⟨w.heap.size + 1 + 1, 0, none⟩) gl).trans g0
  replace g1 := (b.cell (p := ⟨w.heap.size + 1 + 1, 1, none⟩) gl).trans g1
  replace g2 := (b.cell (p := ⟨w.heap.size + 1 + 1, 2, none⟩) gl).trans g2
  replace gl := Nat.lt_of_lt_of_le gl b.size
  replace cc := cc.trans (b.mono cc.size)
  clear b
  go_wp2_with fail
  have bA := below_one w2 (.cells #[.bool b1, .slice B1 m1 d1, .slice A1 n1 c1] 27)
  replace f0 := (bA.frozen (p := ⟨w.heap.size + 1 + 1, 0, none⟩) gl).trans f0
  replace f1 := (bA.frozen (p := ⟨w.heap.size + 1 + 1, 1, none⟩) gl).trans f1
  replace f2 := (bA.frozen (p := ⟨w.heap.size + 1 + 1, 2, none⟩) gl).trans f2
  replace h0 := h0.on bA
  replace h1 := h1.on bA
  replace hi := hi.on bA
  replace hp := hp.on bA
  replace k0 := (bA.cell (p := ⟨w.heap.size, 0, none⟩) kl).trans k0
  replace k1 := (bA.cell (p := ⟨w.heap.size, 1, none⟩) kl).trans k1
  replace k2 := (bA.cell (p := ⟨w.heap.size, 2, none⟩) kl).trans k2
  replace kl := Nat.lt_of_lt_of_le kl bA.size
  replace r0 := (bA.cell (p := ⟨w.heap.size + 1, 0, none⟩) rl).trans r0
  replace r1 := (bA.cell (p := ⟨w.heap.size + 1, 1, none⟩) rl).trans r1
  replace r2 := (bA.cell (p := ⟨w.heap.size + 1, 2, none⟩) rl).trans r2
  replace rl := Nat.lt_of_lt_of_le rl bA.size
  replace g0 := (bA.cell (p := ⟨w.heap.size + 1 + 1, 0, none⟩) gl).trans g0
  replace g1 := (bA.cell (p := ⟨w.heap.size + 1 + 1, 1, none⟩) gl).trans g1
  replace g2 := (bA.cell (p := ⟨w.heap.size + 1 + 1, 2, none⟩) gl).trans g2
  replace gl := Nat.lt_of_lt_of_le gl bA.size
  replace cc := cc.trans (bA.mono cc.size)
  clear bA
  have t0 : (w2.alloc (.cells #[.bool b1, .slice B1 m1 d1, .slice A1 n1 c1] 27)).cell? ⟨w2.heap.size, 0, none⟩ = some (.bool b1) := by simp [go_sem]
  have t1 : (w2.alloc (.cells #[.bool b1, .slice B1 m1 d1, .slice A1 n1 c1] 27)).cell? ⟨w2.heap.size, 1, none⟩ = some (.slice B1 m1 d1) := by simp [go_sem]
  have t2 : (w2.alloc (.cells #[.bool b1, .slice B1 m1 d1, .slice A1 n1 c1] 27)).cell? ⟨w2.heap.size, 2, none⟩ = some (.slice A1 n1 c1) := by simp [go_sem]
  have tl : w2.heap.size < (w2.alloc (.cells #[.bool b1, .slice B1 m1 d1, .slice A1 n1 c1] 27)).heap.size := by simp
  generalize w2.alloc (.cells #[.bool b1, .slice B1 m1 d1, .slice A1 n1 c1] 27) = v3 at *
  refine (qmul_N h0 s0 hi si).mono ?_
  rintro e w4 ⟨bm, Am, nm, cm, Bm, mm, dm, rfl, hm, b⟩
  replace f0 := (b.frozen (p := ⟨w.heap.size + 1 + 1, 0, none⟩) gl).trans f0
  replace f1 := (b.frozen (p := ⟨w.heap.size + 1 + 1, 1, none⟩) gl).trans f1
  replace f2 := (b.frozen (p := ⟨w.heap.size + 1 + 1, 2, none⟩) gl).trans f2
  replace h0 := h0.on b
  replace h1 := h1.on b
  replace hi := hi.on b
  replace hp := hp.on b
  replace k0 := (b.cell (p := ⟨w.heap.size, 0, none⟩) kl).trans k0
  replace k1 := (b.cell (p := ⟨w.heap.size, 1, none⟩) kl).trans k1
  replace k2 := (b.cell (p := ⟨w.heap.size, 2, none⟩) kl).trans k2
  replace kl := Nat.lt_of_lt_of_le kl b.size
  replace r0 := (b.cell (p := ⟨w.heap.size + 1, 0, none⟩) rl).trans r0
  replace r1 := (b.cell (p := ⟨w.heap.size + 1, 1, none⟩) rl).trans r1
  replace r2 := (b.cell (p := ⟨w.heap.size + 1, 2, none⟩) rl).trans r2
  replace rl := Nat.lt_of_lt_of_le rl b.size
  replace g0 := (b.cell (p := ⟨w.heap.size + 1 + 1, 0, none⟩) gl).trans g0
  replace g1 := (b.cell (p := ⟨w.heap.size + 1 + 1, 1, none⟩) gl).trans g1
  replace g2 := (b.cell (p := ⟨w.heap.size + 1 + 1, 2, none⟩) gl).trans g2
  replace gl := Nat.lt_of_lt_of_le gl b.size
  replace t0 := (b.cell (p := ⟨w2.heap.size, 0, none⟩) tl).trans t0
  replace t1 := (b.cell (p := ⟨w2.heap.size, 1, none⟩) tl).trans t1
  replace t2 := (b.cell (p := ⟨w2.heap.size, 2, none⟩) tl).trans t2
  replace tl := Nat.lt_of_lt_of_le tl b.size
  replace cc := cc.trans (b.mono cc.size)
  clear b
  have hn : Rt w4 bm Am nm cm Bm mm dm (x0 / x1) := by rw [Rat.div_def]; exact hm
  have eb : BoxR w4 (w.heap.size + 1 + 1) false none 0 0 none 0 0 := ⟨g0, g1, g2⟩
  have HZ : Hid (Rt (putR w4 (w.heap.size + 1 + 1) (.bool bm) (.slice Am nm cm) (.slice Bm mm dm)) bm Am nm cm Bm mm dm (x0 / x1)) := Lib.hid (Rt.putR hn eb _ _ _)
  clear hn
  go_wp2_with fail
  refine bodyPost_ret (v := .tuple #[.agg #[.bool bm, .slice Am nm cm, .slice Bm mm dm], .int .i64 0]) (by simp [results, Try.results22, go_sem, g0, g1, g2]) rfl ⟨_, _, _, _, _, _, _, rfl, HZ.out, below_putR cc (by omega) _ _ _⟩

set_option maxRecDepth 100000 in
set_option maxHeartbeats 8000000 in
theorem qdiv_zero {w : World} {b0 b1 : Bool} {A0 B0 A1 B1 : Option Addr} {n0 c0 m0 d0 c1 m1 d1 : Nat} :
    Calls Try.prog 22 #[.agg #[.bool b0, .slice A0 n0 c0, .slice B0 m0 d0], .agg #[.bool b1, .slice A1 0 c1, .slice B1 m1 d1]] w (GotV w (.tuple #[.agg #[.bool false, .slice none 0 0, .slice none 0 0], .int .i64 4])) := by
  have cc := Below.refl w.heap.size w
  go_enter Try.func22, Try.ntmps22
  go_wp2_with fail
  have f0 : (((w.alloc (.cells #[.bool b0, .slice A0 n0 c0, .slice B0 m0 d0] 27)).alloc (.cells #[.bool b1, .slice A1 0 c1, .slice B1 m1 d1] 27)).alloc (.cells #[.bool false, .slice none 0 0, .slice none 0 0] 27)).frozen? ⟨w.heap.size + 1 + 1, 0, none⟩ = false := by simp [go_sem]
  have f1 : (((w.alloc (.cells #[.bool b0, .slice A0 n0 c0, .slice B0 m0 d0] 27)).alloc (.cells #[.bool b1, .slice A1 0 c1, .slice B1 m1 d1] 27)).alloc (.cells #[.bool false, .slice none 0 0, .slice none 0 0] 27)).frozen? ⟨w.heap.size + 1 + 1, 1, none⟩ = false := by simp [go_sem]
  have f2 : (((w.alloc (.cells #[.bool b0, .slice A0 n0 c0, .slice B0 m0 d0] 27)).alloc (.cells #[.bool b1, .slice A1 0 c1, .slice B1 m1 d1] 27)).alloc (.cells #[.bool false, .slice none 0 0, .slice none 0 0] 27)).frozen? ⟨w.heap.size + 1 + 1, 2, none⟩ = false := by simp [go_sem]
  have bA : Below w.heap.size w (((w.alloc (.cells #[.bool b0, .slice A0 n0 c0, .slice B0 m0 d0] 27)).alloc (.cells #[.bool b1, .slice A1 0 c1, .slice B1 m1 d1] 27)).alloc (.cells #[.bool false, .slice none 0 0, .slice none 0 0] 27)) := ((((Below.refl _ w).alloc (by simp) _).alloc (by simp) _).alloc (by simp <;> omega) _)
  replace cc := cc.trans (bA.mono cc.size)
  clear bA
  have k0 : (((w.alloc (.cells #[.bool b0, .slice A0 n0 c0, .slice B0 m0 d0] 27)).alloc (.cells #[.bool b1, .slice A1 0 c1, .slice B1 m1 d1] 27)).alloc (.cells #[.bool false, .slice none 0 0, .slice none 0 0] 27)).cell? ⟨w.heap.size, 0, none⟩ = some (.bool b0) := by simp [go_sem]
  have k1 : (((w.alloc (.cells #[.bool b0, .slice A0 n0 c0, .slice B0 m0 d0] 27)).alloc (.cells #[.bool b1, .slice A1 0 c1, .slice B1 m1 d1] 27)).alloc (.cells #[.bool false, .slice none 0 0, .slice none 0 0] 27)).cell? ⟨w.heap.size, 1, none⟩ = some (.slice A0 n0 c0) := by simp [go_sem]
  have k2 : (((w.alloc (.cells #[.bool b0, .slice A0 n0 c0, .slice B0 m0 d0] 27)).alloc (.cells #[.bool b1, .slice A1 0 c1, .slice B1 m1 d1] 27)).alloc (.cells #[.bool false, .slice none 0 0, .slice none 0 0] 27)).cell? ⟨w.heap.size, 2, none⟩ = some (.slice B0 m0 d0) := by simp [go_sem]
  have kl : w.heap.size < (((w.alloc (.cells #[.bool b0, .slice A0 n0 c0, .slice B0 m0 d0] 27)).alloc (.cells #[.bool b1, .slice A1 0 c1, .slice B1 m1 d1] 27)).alloc (.cells #[.bool false, .slice none 0 0, .slice none 0 0] 27)).heap.size := by simp <;> omega
  have r0 : (((w.alloc (.cells #[.bool b0, .slice A0 n0 c0, .slice B0 m0 d0] 27)).alloc (.cells #[.bool b1, .slice A1 0 c1, .slice B1 m1 d1] 27)).alloc (.cells #[.bool false, .slice none 0 0, .slice none 0 0] 27)).cell? ⟨w.heap.size + 1, 0, none⟩ = some (.bool b1) := by simp [go_sem]
  have r1 : (((w.alloc (.cells #[.bool b0, .slice A0 n0 c0, .slice B0 m0 d0] 27)).alloc (.cells #[.bool b1, .slice A1 0 c1, .slice B1 m1 d1] 27)).alloc (.cells #[.bool false, .slice none 0 0, .slice none 0 0] 27)).cell? ⟨w.heap.size + 1, 1, none⟩ = some (.slice A1 0 c1) := by simp [go_sem]
  have r2 : (((w.alloc (.cells #[.bool b0, .slice A0 n0 c0, .slice B0 m0 d0] 27)).alloc (.cells #[.bool b1, .slice A1 0 c1, .slice B1 m1 d1] 27)).alloc (.cells #[.bool false, .slice none 0 0, .slice none 0 0] 27)).cell? ⟨w.heap.size + 1, 2, none⟩ = some (.slice B1 m1 d1) := by simp [go_sem]
  have rl : w.heap.size + 1 < (((w.alloc (.cells #[.bool b0, .slice A0 n0 c0, .slice B0 m0 d0] 27)).alloc (.cells #[.bool b1, .slice A1 0 c1, .slice B1 m1 d1] 27)).alloc (.cells #[.bool false, .slice none 0 0, .slice none 0 0] 27)).heap.size := by simp <;> omega
  have g0 : (((w.alloc (.cells #[.bool b0, .slice A0 n0 c0, .slice B0 m0 d0] 27)).alloc (.cells #[.bool b1, .slice A1 0 c1, .slice B1 m1 d1] 27)).alloc (.cells #[.bool false, .slice none 0 0, .slice none 0 0] 27)).cell? ⟨w.heap.size + 1 + 1, 0, none⟩ = some (.bool false) := by simp [go_sem]
  have g1 : (((w.alloc (.cells #[.bool b0, .slice A0 n0 c0, .slice B0 m0 d0] 27)).alloc (.cells #[.bool b1, .slice A1 0 c1, .slice B1 m1 d1] 27)).alloc (.cells #[.bool false, .slice none 0 0, .slice none 0 0] 27)).cell? ⟨w.heap.size + 1 + 1, 1, none⟩ = some (.slice none 0 0) := by simp [go_sem]
  have g2 : (((w.alloc (.cells #[.bool b0, .slice A0 n0 c0, .slice B0 m0 d0] 27)).alloc (.cells #[.bool b1, .slice A1 0 c1, .slice B1 m1 d1] 27)).alloc (.cells #[.bool false, .slice none 0 0, .slice none 0 0] 27)).cell? ⟨w.heap.size + 1 + 1, 2, none⟩ = some (.slice none 0 0) := by simp [go_sem]
  have gl : w.heap.size + 1 + 1 < (((w.alloc (.cells #[.bool b0, .slice A0 n0 c0, .slice B0 m0 d0] 27)).alloc (.cells #[.bool b1, .slice A1 0 c1, .slice B1 m1 d1] 27)).alloc (.cells #[.bool false, .slice none 0 0, .slice none 0 0] 27)).heap.size := by simp <;> omega
  generalize ((w.alloc (.cells #[.bool b0, .slice A0 n0 c0, .slice B0 m0 d0] 27)).alloc (.cells #[.bool b1, .slice A1 0 c1, .slice B1 m1 d1] 27)).alloc (.cells #[.bool false, .slice none 0 0, .slice none 0 0] 27) = v1 at *
  refine (isn_N true (num_nil _ A1 c1) len_nil (by simp)).mono ?_
  rintro e w2 ⟨rfl, b⟩
  replace f0 := (b.frozen (p := ⟨w.heap.size + 1 + 1, 0, none⟩) gl).trans f0
  replace f1 := (b.frozen (p := ⟨w.heap.size + 1 + 1, 1, none⟩) gl).trans f1
  replace f2 := (b.frozen (p := ⟨w.heap.size + 1 + 1, 2, none⟩) gl).trans f2
  replace k0 := (b.cell (p := ⟨w.heap.size, 0, none⟩) kl).trans k0
  replace k1 := (b.cell (p := ⟨w.heap.size, 1, none⟩) kl).trans k1
  replace k2 := (b.cell (p := ⟨w.heap.size, 2, none⟩) kl).trans k2
  replace kl := Nat.lt_of_lt_of_le kl b.size
  replace r0 := (b.cell (p := ⟨w.heap.size + 1, 0, none⟩) rl).trans r0
  replace r1 := (b.cell (p := ⟨w.heap.size + 1, 1, none⟩) rl).trans r1
  replace r2 := (b.cell (p := ⟨w.heap.size + 1, 2, none⟩) rl).trans r2
  replace rl := Nat.lt_of_lt_of_le rl b.size
  replace g0 := (b.cell (p := ⟨w.heap.size + 1 + 1, 0, none⟩) gl).trans g0
  replace g1 := (b.cell (p := ⟨w.heap.size + 1 + 1, 1, none⟩) gl).trans g1
  replace g2 := (b.cell (p := ⟨w.heap.size + 1 + 1, 2, none⟩) gl).trans g2
  replace gl := Nat.lt_of_lt_of_le gl b.size
  replace cc := cc.trans (b.mono cc.size)
  clear b
  go_wp2_with fail
  exact bodyPost_ret (v := .tuple #[.agg #[.bool false, .slice none 0 0, .slice none 0 0], .int .i64 4]) (by simp [results, Try.results22, go_sem, g0, g1, g2]) rfl ⟨rfl, below_putR cc (by omega) _ _ _⟩

set_option maxRecDepth 100000 in
set_option maxHeartbeats 8000000 in
theorem qright_0 {w : World} {b : Bool} {A B : Option Addr} {n c m d : Nat} {l l2 : List Nat} (h : Lim w.heap.size w A n c l) (h2 : Lim w.heap.size w B m d l2) (hn : n ≤ 100) (hm : m ≤ 100) (h3 : okZ b n l = false) :
    Calls Try.prog 16 #[.agg #[.bool b, .slice A n c, .slice B m d]] w (GotV w (.bool false)) := by
  have cc := Below.refl w.heap.size w
  go_enter Try.func16, Try.ntmps16
  go_wp2_with fail
  have bA : Below w.heap.size w (w.alloc (.cells #[.bool b, .slice A n c, .slice B m d] 27)) := ((Below.refl _ w).alloc (by simp) _)
  replace h := h.on bA
  replace h2 := h2.on bA
  replace cc := cc.trans (bA.mono cc.size)
  clear bA
  have k0 : (w.alloc (.cells #[.bool b, .slice A n c, .slice B m d] 27)).cell? ⟨w.heap.size, 0, none⟩ = some (.bool b) := by simp [go_sem]
  have k1 : (w.alloc (.cells #[.bool b, .slice A n c, .slice B m d] 27)).cell? ⟨w.heap.size, 1, none⟩ = some (.slice A n c) := by simp [go_sem]
  have k2 : (w.alloc (.cells #[.bool b, .slice A n c, .slice B m d] 27)).cell? ⟨w.heap.size, 2, none⟩ = some (.slice B m d) := by simp [go_sem]
  have kl : w.heap.size < (w.alloc (.cells #[.bool b, .slice A n c, .slice B m d] 27)).heap.size := by simp <;> omega
  generalize w.alloc (.cells #[.bool b, .slice A n c, .slice B m d] 27) = v1 at *
  refine (zright_any false h (by omega) h3).mono ?_
  rintro e w2 ⟨rfl, b⟩
  replace h := h.on b
  replace h2 := h2.on b
  replace k0 := (b.cell (p := ⟨w.heap.size, 0, none⟩) kl).trans k0
  replace k1 := (b.cell (p := ⟨w.heap.size, 1, none⟩) kl).trans k1
  replace k2 := (b.cell (p := ⟨w.heap.size, 2, none⟩) kl).trans k2
  replace kl := Nat.lt_of_lt_of_le kl b.size
  replace cc := cc.trans (b.mono cc.size)
  clear b
  go_wp2_with fail
  go_ret
  exact ⟨rfl, cc⟩

theorem gcd_any {p q k : Nat} (hp : (limbs p).length ≤ k) (hq : (limbs q).length ≤ k) : (limbs (Nat.gcd p q)).length ≤ k := by
  rcases Nat.eq_zero_or_pos q with h | h
  · subst h; rw [Nat.gcd_zero_right]; exact hp
  · exact gcd_len (by omega) hq

set_option maxRecDepth 100000 in
set_option maxHeartbeats 8000000 in
theorem qright_1 {w : World} {b : Bool} {A B : Option Addr} {n c m d : Nat} {l l2 : List Nat} (h : Lim w.heap.size w A n c l) (h2 : Lim w.heap.size w B m d l2) (hn : n ≤ 100) (hm : m ≤ 100) (h3 : okZ b n l = true) (h4 : canon l2 = false) :
    Calls Try.prog 16 #[.agg #[.bool b, .slice A n c, .slice B m d]] w (GotV w (.bool false)) := by
  have cc := Below.refl w.heap.size w
  go_enter Try.func16, Try.ntmps16
  go_wp2_with fail
  have bA : Below w.heap.size w (w.alloc (.cells #[.bool b, .slice A n c, .slice B m d] 27)) := ((Below.refl _ w).alloc (by simp) _)
  replace h := h.on bA
  replace h2 := h2.on bA
  replace cc := cc.trans (bA.mono cc.size)
  clear bA
  have k0 : (w.alloc (.cells #[.bool b, .slice A n c, .slice B m d] 27)).cell? ⟨w.heap.size, 0, none⟩ = some (.bool b) := by simp [go_sem]
  have k1 : (w.alloc (.cells #[.bool b, .slice A n c, .slice B m d] 27)).cell? ⟨w.heap.size, 1, none⟩ = some (.slice A n c) := by simp [go_sem]
  have k2 : (w.alloc (.cells #[.bool b, .slice A n c, .slice B m d] 27)).cell? ⟨w.heap.size, 2, none⟩ = some (.slice B m d) := by simp [go_sem]
  have kl : w.heap.size < (w.alloc (.cells #[.bool b, .slice A n c, .slice B m d] 27)).heap.size := by simp <;> omega
  generalize w.alloc (.cells #[.bool b, .slice A n c, .slice B m d] 27) = v1 at *
  refine (zright_any true h (by omega) h3).mono ?_
  rintro e w2 ⟨rfl, b⟩
  replace h := h.on b
  replace h2 := h2.on b
  replace k0 := (b.cell (p := ⟨w.heap.size, 0, none⟩) kl).trans k0
  replace k1 := (b.cell (p := ⟨w.heap.size, 1, none⟩) kl).trans k1
  replace k2 := (b.cell (p := ⟨w.heap.size, 2, none⟩) kl).trans k2
  replace kl := Nat.lt_of_lt_of_le kl b.size
  replace cc := cc.trans (b.mono cc.size)
  clear b
  go_wp2_with fail
  refine (right_any _ _ _ _ _ false _ h2 (by omega) h4).mono ?_
  rintro e w' ⟨rfl, rfl⟩
  go_wp2_with fail
  go_ret
  exact ⟨rfl, cc⟩

set_option maxRecDepth 100000 in
set_option maxHeartbeats 8000000 in
theorem qright_2 {w : World} {b : Bool} {A B : Option Addr} {n c m d : Nat} {l l2 : List Nat} (h : Lim w.heap.size w A n c l) (h2 : Lim w.heap.size w B m d l2) (hn : n ≤ 100) (hm : m ≤ 100) (h3 : okZ b n l = true) (h4 : canon l2 = true) (h6 : ¬ Nat.gcd (val l) (val l2) = 1) :
    Calls Try.prog 16 #[.agg #[.bool b, .slice A n c, .slice B m d]] w (GotV w (.bool false)) := by
  have hN := h.num (okZ_canon h3)
  have hM := h2.num h4
  have lN : (limbs (val l)).length ≤ 100 := by rw [← hN.len]; exact hn
  have lM : (limbs (val l2)).length ≤ 100 := by rw [← hM.len]; exact hm
  have l1 : (limbs 1).length ≤ 300 := Nat.le_trans (len_one (by decide)) (by omega)
  obtain ⟨dg, hg⟩ : ∃ g, Nat.gcd (val l) (val l2) = g := ⟨_, rfl⟩
  have CG : ∀ {W : World} {A B : Option Addr} {n c m d : Nat}, Num W A n c (val l) → Num W B m d (val l2) → Calls Try.prog 45 #[.slice A n c, .slice B m d] W (GotN W dg) := fun ha hb => by rw [← hg]; exact dgcd_N ha hb (by omega) (by omega)
  have lg : (limbs dg).length ≤ 100 := by rw [← hg]; exact gcd_any lN lM
  rw [hg] at h6
  have he : (cmpN dg 1 == 0) = false := (cmpN_unit dg).trans (decide_eq_false h6)
  clear hg h6
  have cc := Below.refl w.heap.size w
  go_enter Try.func16, Try.ntmps16
  go_wp2_with fail
  have bA : Below w.heap.size w (w.alloc (.cells #[.bool b, .slice A n c, .slice B m d] 27)) := ((Below.refl _ w).alloc (by simp) _)
  replace h := h.on bA
  replace h2 := h2.on bA
  replace hN := hN.on bA
  replace hM := hM.on bA
  replace cc := cc.trans (bA.mono cc.size)
  clear bA
  have k0 : (w.alloc (.cells #[.bool b, .slice A n c, .slice B m d] 27)).cell? ⟨w.heap.size, 0, none⟩ = some (.bool b) := by simp [go_sem]
  have k1 : (w.alloc (.cells #[.bool b, .slice A n c, .slice B m d] 27)).cell? ⟨w.heap.size, 1, none⟩ = some (.slice A n c) := by simp [go_sem]
  have k2 : (w.alloc (.cells #[.bool b, .slice A n c, .slice B m d] 27)).cell? ⟨w.heap.size, 2, none⟩ = some (.slice B m d) := by simp [go_sem]
  have kl : w.heap.size < (w.alloc (.cells #[.bool b, .slice A n c, .slice B m d] 27)).heap.size := by simp <;> omega
  generalize w.alloc (.cells #[.bool b, .slice A n c, .slice B m d] 27) = v1 at *
  refine (zright_any true h (by omega) h3).mono ?_
  rintro e w2 ⟨rfl, b⟩
  replace h := h.on b
  replace h2 := h2.on b
  replace hN := hN.on b
  replace hM := hM.on b
  replace k0 := (b.cell (p := ⟨w.heap.size, 0, none⟩) kl).trans k0
  replace k1 := (b.cell (p := ⟨w.heap.size, 1, none⟩) kl).trans k1
  replace k2 := (b.cell (p := ⟨w.heap.size, 2, none⟩) kl).trans k2
  replace kl := Nat.lt_of_lt_of_le kl b.size
  replace cc := cc.trans (b.mono cc.size)
  clear b
  go_wp2_with fail
  refine (right_any _ _ _ _ _ true _ h2 (by omega) h4).mono ?_
  rintro e w' ⟨rfl, rfl⟩
  go_wp2_with fail
  refine (CG hN hM).mono ?_
  rintro e w3 ⟨Ag, ng, cg, rfl, hg, b⟩
  replace h := h.on b
  replace h2 := h2.on b
  replace hN := hN.on b
  replace hM := hM.on b
  replace k0 := (b.cell (p := ⟨w.heap.size, 0, none⟩) kl).trans k0
  replace k1 := (b.cell (p := ⟨w.heap.size, 1, none⟩) kl).trans k1
  replace k2 := (b.cell (p := ⟨w.heap.size, 2, none⟩) kl).trans k2
  replace kl := Nat.lt_of_lt_of_le kl b.size
  replace cc := cc.trans (b.mono cc.size)
  clear b
  go_wp2_with fail
  refine (of_N w3 1 (by decide)).mono ?_
  rintro e w4 ⟨Ao, no, co, rfl, ho, b⟩
  replace h := h.on b
  replace h2 := h2.on b
  replace hN := hN.on b
  replace hM := hM.on b
  replace hg := hg.on b
  replace k0 := (b.cell (p := ⟨w.heap.size, 0, none⟩) kl).trans k0
  replace k1 := (b.cell (p := ⟨w.heap.size, 1, none⟩) kl).trans k1
  replace k2 := (b.cell (p := ⟨w.heap.size, 2, none⟩) kl).trans k2
  replace kl := Nat.lt_of_lt_of_le kl b.size
  replace cc := cc.trans (b.mono cc.size)
  clear b
  go_wp2_with fail
  refine (cmp_N hg ho (Nat.le_trans lg (by omega)) (Nat.le_trans l1 (by omega))).mono ?_
  rintro e w5 ⟨rfl, b⟩
  replace h := h.on b
  replace h2 := h2.on b
  replace hN := hN.on b
  replace hM := hM.on b
  replace hg := hg.on b
  replace ho := ho.on b
  replace k0 := (b.cell (p := ⟨w.heap.size, 0, none⟩) kl).trans k0
  replace k1 := (b.cell (p := ⟨w.heap.size, 1, none⟩) kl).trans k1
  replace k2 := (b.cell (p := ⟨w.heap.size, 2, none⟩) kl).trans k2
  replace kl := Nat.lt_of_lt_of_le kl b.size
  replace cc := cc.trans (b.mono cc.size)
  clear b
  go_wp2_with fail
  go_ret
  exact ⟨rfl, cc⟩

set_option maxRecDepth 100000 in
set_option maxHeartbeats 8000000 in
theorem qright_3 {w : World} {b : Bool} {A B : Option Addr} {n c m d : Nat} {l l2 : List Nat} (h : Lim w.heap.size w A n c l) (h2 : Lim w.heap.size w B m d l2) (hn : n ≤ 100) (hm : m ≤ 100) (h3 : okZ b n l = true) (h4 : canon l2 = true) (h6 : Nat.gcd (val l) (val l2) = 1) (r : Bool) (h5 : decide (val l2 = 0) = r) :
    Calls Try.prog 16 #[.agg #[.bool b, .slice A n c, .slice B m d]] w (GotV w (.bool !r)) := by
  have hN := h.num (okZ_canon h3)
  have hM := h2.num h4
  have lN : (limbs (val l)).length ≤ 100 := by rw [← hN.len]; exact hn
  have lM : (limbs (val l2)).length ≤ 100 := by rw [← hM.len]; exact hm
  have l1 : (limbs 1).length ≤ 300 := Nat.le_trans (len_one (by decide)) (by omega)
  obtain ⟨dg, hg⟩ : ∃ g, Nat.gcd (val l) (val l2) = g := ⟨_, rfl⟩
  have CG : ∀ {W : World} {A B : Option Addr} {n c m d : Nat}, Num W A n c (val l) → Num W B m d (val l2) → Calls Try.prog 45 #[.slice A n c, .slice B m d] W (GotN W dg) := fun ha hb => by rw [← hg]; exact dgcd_N ha hb (by omega) (by omega)
  have lg : (limbs dg).length ≤ 100 := by rw [← hg]; exact gcd_any lN lM
  rw [hg] at h6
  have he : (cmpN dg 1 == 0) = true := (cmpN_unit dg).trans (decide_eq_true h6)
  clear hg h6
  have cc := Below.refl w.heap.size w
  go_enter Try.func16, Try.ntmps16
  go_wp2_with fail
  have bA : Below w.heap.size w (w.alloc (.cells #[.bool b, .slice A n c, .slice B m d] 27)) := ((Below.refl _ w).alloc (by simp) _)
  replace h := h.on bA
  replace h2 := h2.on bA
  replace hN := hN.on bA
  replace hM := hM.on bA
  replace cc := cc.trans (bA.mono cc.size)
  clear bA
  have k0 : (w.alloc (.cells #[.bool b, .slice A n c, .slice B m d] 27)).cell? ⟨w.heap.size, 0, none⟩ = some (.bool b) := by simp [go_sem]
  have k1 : (w.alloc (.cells #[.bool b, .slice A n c, .slice B m d] 27)).cell? ⟨w.heap.size, 1, none⟩ = some (.slice A n c) := by simp [go_sem]
  have k2 : (w.alloc (.cells #[.bool b, .slice A n c, .slice B m d] 27)).cell? ⟨w.heap.size, 2, none⟩ = some (.slice B m d) := by simp [go_sem]
  have kl : w.heap.size < (w.alloc (.cells #[.bool b, .slice A n c, .slice B m d] 27)).heap.size := by simp <;> omega
  generalize w.alloc (.cells #[.bool b, .slice A n c, .slice B m d] 27) = v1 at *
  refine (zright_any true h (by omega) h3).mono ?_
  rintro e w2 ⟨rfl, b⟩
  replace h := h.on b
  replace h2 := h2.on b
  replace hN := hN.on b
  replace hM := hM.on b
  replace k0 := (b.cell (p := ⟨w.heap.size, 0, none⟩) kl).trans k0
  replace k1 := (b.cell (p := ⟨w.heap.size, 1, none⟩) kl).trans k1
  replace k2 := (b.cell (p := ⟨w.heap.size, 2, none⟩) kl).trans k2
  replace kl := Nat.lt_of_lt_of_le kl b.size
  replace cc := cc.trans (b.mono cc.size)
  clear b
  go_wp2_with fail
  refine (right_any _ _ _ _ _ true _ h2 (by omega) h4).mono ?_
  rintro e w' ⟨rfl, rfl⟩
  go_wp2_with fail
  refine (CG hN hM).mono ?_
  rintro e w3 ⟨Ag, ng, cg, rfl, hg, b⟩
  replace h := h.on b
  replace h2 := h2.on b
  replace hN := hN.on b
  replace hM := hM.on b
  replace k0 := (b.cell (p := ⟨w.heap.size, 0, none⟩) kl).trans k0
  replace k1 := (b.cell (p := ⟨w.heap.size, 1, none⟩) kl).trans k1
  replace k2 := (b.cell (p := ⟨w.heap.size, 2, none⟩) kl).trans k2
  replace kl := Nat.lt_of_lt_of_le kl b.size
  replace cc := cc.trans (b.mono cc.size)
  clear b
  go_wp2_with fail
  refine (of_N w3 1 (by decide)).mono ?_
  rintro e w4 ⟨Ao, no, co, rfl, ho, b⟩
  replace h := h.on b
  replace h2 := h2.on b
  replace hN := hN.on b
  replace hM := hM.on b
  replace hg := hg.on b
  replace k0 := (b.cell (p := ⟨w.heap.size, 0, none⟩) kl).trans k0
  replace k1 := (b.cell (p := ⟨w.heap.size, 1, none⟩) kl).trans k1
  replace k2 := (b.cell (p := ⟨w.heap.size, 2, none⟩) kl).trans k2
  replace kl := Nat.lt_of_lt_of_le kl b.size
  replace cc := cc.trans (b.mono cc.size)
  clear b
  go_wp2_with fail
  refine (cmp_N hg ho (Nat.le_trans lg (by omega)) (Nat.le_trans l1 (by omega))).mono ?_
  rintro e w5 ⟨rfl, b⟩
  replace h := h.on b
  replace h2 := h2.on b
  replace hN := hN.on b
  replace hM := hM.on b
  replace hg := hg.on b
  replace ho := ho.on b
  replace k0 := (b.cell (p := ⟨w.heap.size, 0, none⟩) kl).trans k0
  replace k1 := (b.cell (p := ⟨w.heap.size, 1, none⟩) kl).trans k1
  replace k2 := (b.cell (p := ⟨w.heap.size, 2, none⟩) kl).trans k2
  replace kl := Nat.lt_of_lt_of_le kl b.size
  replace cc := cc.trans (b.mono cc.size)
  clear b
  go_wp2_with fail
  refine (isn_N r hM (Nat.le_trans lM (by omega)) h5).mono ?_
  rintro e w6 ⟨rfl, b⟩
  replace h := h.on b
  replace h2 := h2.on b
  replace hN := hN.on b
  replace hM := hM.on b
  replace hg := hg.on b
  replace ho := ho.on b
  replace k0 := (b.cell (p := ⟨w.heap.size, 0, none⟩) kl).trans k0
  replace k1 := (b.cell (p := ⟨w.heap.size, 1, none⟩) kl).trans k1
  replace k2 := (b.cell (p := ⟨w.heap.size, 2, none⟩) kl).trans k2
  replace kl := Nat.lt_of_lt_of_le kl b.size
  replace cc := cc.trans (b.mono cc.size)
  clear b
  go_wp2_with fail
  go_ret
  exact ⟨rfl, cc⟩

set_option maxRecDepth 100000 in
set_option maxHeartbeats 8000000 in
theorem qright_any {w : World} {b : Bool} {A B : Option Addr} {n c m d : Nat} {l l2 : List Nat} (h : Lim w.heap.size w A n c l) (h2 : Lim w.heap.size w B m d l2) (hn : n ≤ 100) (hm : m ≤ 100) (r : Bool) (hr : okR b n l m l2 = r) :
    Calls Try.prog 16 #[.agg #[.bool b, .slice A n c, .slice B m d]] w (GotV w (.bool r)) := by
  unfold okR at hr
  cases h3 : okZ b n l with
  | false => rw [h3] at hr; simp at hr; subst hr; exact qright_0 h h2 hn hm h3
  | true =>
    cases h4 : canon l2 with
    | false => rw [h3, h4] at hr; simp at hr; subst hr; exact qright_1 h h2 hn hm h3 h4
    | true =>
      rw [h3, h4, Bool.true_and, Bool.true_and] at hr
      by_cases h6 : Nat.gcd (val l) (val l2) = 1
      · have hM := h2.num h4
        have h5 : r = !decide (val l2 = 0) := by
          rw [← hr, decide_eq_true h6, Bool.and_true]
          rcases Nat.eq_zero_or_pos m with h0 | h0
          · have : val l2 = 0 := by
              have e := hM.len
              rw [h0] at e
              have e2 := List.length_eq_zero_iff.1 e.symm
              rw [← val_limbs (val l2), e2, val_nil]
            simp [h0, this]
          · have := num_ne hM h0
            simp [h0, this]
        rw [h5]
        exact qright_3 h h2 hn hm h3 h4 h6 _ rfl
      · rw [decide_eq_false h6, Bool.and_false] at hr
        subst hr
        exact qright_2 h h2 hn hm h3 h4 h6

end Go.Proofs.Ytgnhioffamfakaa

/-
  What the laws of rat lean on: alive.
-/
namespace Go.Proofs.Ytgnhioffamfakaa
open Go.RowKit
set_option linter.unusedVariables false

theorem okR_rt {w : World} {b : Bool} {A B : Option Addr} {n c m d : Nat} {r : Rat} (h : Rt w b A n c B m d r) : okR b n (limbs r.num.natAbs) m (limbs r.den) = true := by
  unfold okR
  have h1 : 0 < m := h.2.some_len r.den_nz
  have h2 := r.reduced
  unfold Nat.Coprime at h2
  simp only [h.1.ok, limbs_canon, val_limbs, Bool.true_and, decide_eq_true h1]
  exact decide_eq_true h2
theorem qright_N {w : World} {b : Bool} {A B : Option Addr} {n c m d : Nat} {r : Rat} (h : Rt w b A n c B m d r) (s : Sz r 30) : Calls Try.prog 16 #[.agg #[.bool b, .slice A n c, .slice B m d]] w (GotV w (.bool true)) := qright_any h.1.1 h.2 (by rw [h.1.1.len]; exact Nat.le_trans s.1 (by omega)) (by rw [h.2.len]; exact Nat.le_trans s.2 (by omega)) true (okR_rt h)
theorem num_one {x : Nat} (hx : x < B64) (h0 : x ≠ 0) (w : World) : Num (w.alloc (.cells #[.int .u64 (x : Int)] 52)) (some ⟨w.heap.size, 0, none⟩) 1 1 x := by
  have h := (lim_one hx w).num (by simp [canon]; omega)
  have hv : val [x] = x := by simp [val_cons, val_nil]
  rwa [hv] at h

set_option maxRecDepth 100000 in
set_option maxHeartbeats 8000000 in
theorem alive5_any (w : World) :
    Calls Try.prog 12 #[] w (GotV w (.bool true)) := by
  have cc : Below w.heap.size w ((w.alloc (.cells #[.int .u64 6] 52)).alloc (.cells #[.int .u64 4] 52)) := below_two w _ _
  have n6 : Num ((w.alloc (.cells #[.int .u64 6] 52)).alloc (.cells #[.int .u64 4] 52)) (some ⟨w.heap.size, 0, none⟩) 1 1 6 := (num_one (x := 6) (by decide) (by decide) w).on (below_one _ _)
  have n4 : Num ((w.alloc (.cells #[.int .u64 6] 52)).alloc (.cells #[.int .u64 4] 52)) (some ⟨w.heap.size + 1, 0, none⟩) 1 1 4 := by have h := num_one (x := 4) (by decide) (by decide) (w.alloc (.cells #[.int .u64 6] 52)); simpa using h
  have hz : Zn ((w.alloc (.cells #[.int .u64 6] 52)).alloc (.cells #[.int .u64 4] 52)) true (some ⟨w.heap.size, 0, none⟩) 1 1 (-6) := ⟨n6, by decide⟩
  have l6 : (limbs (-6 : Int).natAbs).length ≤ 40 := Nat.le_trans (len_one (by decide)) (by omega)
  have l4 : (limbs 4).length ≤ 40 := Nat.le_trans (len_one (by decide)) (by omega)
  clear n6
  obtain ⟨ra, hra⟩ : ∃ r, mkRat (-6) 4 = r := ⟨_, rfl⟩
  have hm : Calls Try.prog 13 #[.agg #[.bool true, .slice (some ⟨w.heap.size, 0, none⟩) 1 1], .slice (some ⟨w.heap.size + 1, 0, none⟩) 1 1] ((w.alloc (.cells #[.int .u64 6] 52)).alloc (.cells #[.int .u64 4] 52)) (GotRp ((w.alloc (.cells #[.int .u64 6] 52)).alloc (.cells #[.int .u64 4] 52)) ra 0) := by rw [← hra]; exact qmake_N hz n4 (by decide) l6 l4
  have sa : Sz ra 30 := by rw [← hra]; exact (sz_mk (k := 1) (by decide) (len_one (by decide)) (len_one (by decide))).le (by omega)
  have s2 : Sz ((2 : Int) : Rat) 30 := (sz_of (len_one (by decide))).le (by omega)
  obtain ⟨r2, hr2⟩ : ∃ r, ((2 : Int) : Rat) = r := ⟨_, rfl⟩
  have h2 : ∀ W : World, Calls Try.prog 19 #[.int .i64 2] W (GotRt W r2) := fun W => by rw [← hr2]; exact qof_N W 2 (by unfold I64; omega)
  rw [hr2] at s2
  obtain ⟨rb, hrb⟩ : ∃ r, ra + r2 = r := ⟨_, rfl⟩
  have sb : Sz rb 30 := by rw [← hrb, ← hra, ← hr2]; exact ((sz_mk (k := 1) (by decide) (len_one (by decide)) (len_one (by decide))).add (sz_of (len_one (by decide)))).le (by omega)
  obtain ⟨rc, hrc⟩ : ∃ r, mkRat (-3) 2 = r := ⟨_, rfl⟩
  obtain ⟨rd, hrd⟩ : ∃ r, mkRat 1 2 = r := ⟨_, rfl⟩
  have hc : ∀ W : World, Calls Try.prog 36 #[.int .i64 (-3), .int .i64 2] W (GotRt W rc) := fun W => by rw [← hrc]; exact rtfrac_N W (by unfold I64; omega) (by unfold I64; omega) (by decide)
  have hd : ∀ W : World, Calls Try.prog 36 #[.int .i64 1, .int .i64 2] W (GotRt W rd) := fun W => by rw [← hrd]; exact rtfrac_N W (by unfold I64; omega) (by unfold I64; omega) (by decide)
  have sc : Sz rc 30 := by rw [← hrc]; exact (sz_mk (k := 1) (by decide) (len_one (by decide)) (len_one (by decide))).le (by omega)
  have sd : Sz rd 30 := by rw [← hrd]; exact (sz_mk (k := 1) (by decide) (len_one (by decide)) (len_one (by decide))).le (by omega)
  have e1 : decide (ra = rc) = true := by subst hra hrc; decide +kernel
  have e2 : decide (rb = rd) = true := by subst hrb hra hr2 hrd; decide +kernel
  have e3 : cmpQ ra rb = -1 := by subst hrb hra hr2; decide +kernel
  have hadd : ∀ {W : World} {b0 b1 : Bool} {A0 B0 A1 B1 : Option Addr} {n0 c0 m0 d0 n1 c1 m1 d1 : Nat}, Rt W b0 A0 n0 c0 B0 m0 d0 ra → Rt W b1 A1 n1 c1 B1 m1 d1 r2 → Calls Try.prog 24 #[.agg #[.bool b0, .slice A0 n0 c0, .slice B0 m0 d0], .agg #[.bool b1, .slice A1 n1 c1, .slice B1 m1 d1]] W (GotRt W rb) := fun ha hb => by rw [← hrb]; exact qadd_N ha sa hb s2
  have hcmp : ∀ {W : World} {b0 b1 : Bool} {A0 B0 A1 B1 : Option Addr} {n0 c0 m0 d0 n1 c1 m1 d1 : Nat}, Rt W b0 A0 n0 c0 B0 m0 d0 ra → Rt W b1 A1 n1 c1 B1 m1 d1 rb → Calls Try.prog 30 #[.agg #[.bool b0, .slice A0 n0 c0, .slice B0 m0 d0], .agg #[.bool b1, .slice A1 n1 c1, .slice B1 m1 d1]] W (GotV W (.int .i64 (-1))) := fun ha hb => by rw [← e3]; exact qcmp_N ha sa hb sb
  clear hra hr2 hrb hrc hrd e3 hz n4
  go_enter Try.func12, Try.ntmps12
  go_wp2_with fail
  refine (hm).mono ?_
  rintro e w1 ⟨ba, Aa, na, ca, Ba, ma, da, rfl, ha, b⟩
  replace cc := cc.trans (b.mono cc.size)
  clear b
  clear hm
  go_wp2_with fail
  have bA := below_one w1 (.cells #[.bool ba, .slice Aa na ca, .slice Ba ma da] 27)
  replace ha := ha.on bA
  replace cc := cc.trans (bA.mono cc.size)
  clear bA
  have k0 : (w1.alloc (.cells #[.bool ba, .slice Aa na ca, .slice Ba ma da] 27)).cell? ⟨w1.heap.size, 0, none⟩ = some (.bool ba) := by simp [go_sem]
  have k1 : (w1.alloc (.cells #[.bool ba, .slice Aa na ca, .slice Ba ma da] 27)).cell? ⟨w1.heap.size, 1, none⟩ = some (.slice Aa na ca) := by simp [go_sem]
  have k2 : (w1.alloc (.cells #[.bool ba, .slice Aa na ca, .slice Ba ma da] 27)).cell? ⟨w1.heap.size, 2, none⟩ = some (.slice Ba ma da) := by simp [go_sem]
  have kl : w1.heap.size < (w1.alloc (.cells #[.bool ba, .slice Aa na ca, .slice Ba ma da] 27)).heap.size := by simp
  generalize w1.alloc (.cells #[.bool ba, .slice Aa na ca, .slice Ba ma da] 27) = v2 at *
  refine (qmake_zero).mono ?_
  rintro e w3 ⟨rfl, b⟩
  replace ha := ha.on b
  replace k0 := (b.cell (p := ⟨w1.heap.size, 0, none⟩) kl).trans k0
  replace k1 := (b.cell (p := ⟨w1.heap.size, 1, none⟩) kl).trans k1
  replace k2 := (b.cell (p := ⟨w1.heap.size, 2, none⟩) kl).trans k2
  replace kl := Nat.lt_of_lt_of_le kl b.size
  replace cc := cc.trans (b.mono cc.size)
  clear b
  go_wp2_with fail
  have bA := below_one w3 (.cells #[.bool false, .slice none 0 0, .slice none 0 0] 27)
  replace ha := ha.on bA
  replace k0 := (bA.cell (p := ⟨w1.heap.size, 0, none⟩) kl).trans k0
  replace k1 := (bA.cell (p := ⟨w1.heap.size, 1, none⟩) kl).trans k1
  replace k2 := (bA.cell (p := ⟨w1.heap.size, 2, none⟩) kl).trans k2
  replace kl := Nat.lt_of_lt_of_le kl bA.size
  replace cc := cc.trans (bA.mono cc.size)
  clear bA
  have g0 : (w3.alloc (.cells #[.bool false, .slice none 0 0, .slice none 0 0] 27)).cell? ⟨w3.heap.size, 0, none⟩ = some (.bool false) := by simp [go_sem]
  have g1 : (w3.alloc (.cells #[.bool false, .slice none 0 0, .slice none 0 0] 27)).cell? ⟨w3.heap.size, 1, none⟩ = some (.slice none 0 0) := by simp [go_sem]
  have g2 : (w3.alloc (.cells #[.bool false, .slice none 0 0, .slice none 0 0] 27)).cell? ⟨w3.heap.size, 2, none⟩ = some (.slice none 0 0) := by simp [go_sem]
  have gl : w3.heap.size < (w3.alloc (.cells #[.bool false, .slice none 0 0, .slice none 0 0] 27)).heap.size := by simp
  generalize w3.alloc (.cells #[.bool false, .slice none 0 0, .slice none 0 0] 27) = v4 at *
  go_upto_region 3 with fail
  go_cut [5] (fun u wx => ∃ (g : Nat) (b : Bool) (A : Option Addr) (n c : Nat) (B : Option Addr) (m d : Nat), u = .pointer (some ⟨g, 0, none⟩) ∧ Lone v4 wx g b A n c B m d (rb))
  case first =>
    have BB0 : Below v4.heap.size v4 v4.drew := below_drewN (Below.refl _ v4) 1
    have BB1 : Below v4.heap.size v4 (v4.alloc (.cells #[.bool false, .slice none 0 0, .slice none 0 0] 27)).drew := below_drewN (below_one _ _) 1
    go_region_held3 (fun w' => w'.cell? ⟨w1.heap.size, 0, none⟩ = some (.bool ba) ∧ w'.cell? ⟨w1.heap.size, 1, none⟩ = some (.slice Aa na ca) ∧ w'.cell? ⟨w1.heap.size, 2, none⟩ = some (.slice Ba ma da) ∧ w'.cell? ⟨w3.heap.size, 0, none⟩ = some (.bool false) ∧ w'.cell? ⟨w3.heap.size, 1, none⟩ = some (.slice none 0 0) ∧ w'.cell? ⟨w3.heap.size, 2, none⟩ = some (.slice none 0 0))
      (first | with_reducible exact ⟨k0, k1, k2, g0, g1, g2⟩ | with_reducible exact ⟨keep_alloc (k0), keep_alloc (k1), keep_alloc (k2), keep_alloc (g0), keep_alloc (g1), keep_alloc (g2)⟩ | with_reducible exact ⟨keep_alloc (keep_alloc (k0)), keep_alloc (keep_alloc (k1)), keep_alloc (keep_alloc (k2)), keep_alloc (keep_alloc (g0)), keep_alloc (keep_alloc (g1)), keep_alloc (keep_alloc (g2))⟩ | with_reducible exact ⟨((qq.cell (p := ⟨w1.heap.size, 0, none⟩) kl).trans k0), ((qq.cell (p := ⟨w1.heap.size, 1, none⟩) kl).trans k1), ((qq.cell (p := ⟨w1.heap.size, 2, none⟩) kl).trans k2), ((qq.cell (p := ⟨w3.heap.size, 0, none⟩) gl).trans g0), ((qq.cell (p := ⟨w3.heap.size, 1, none⟩) gl).trans g1), ((qq.cell (p := ⟨w3.heap.size, 2, none⟩) gl).trans g2)⟩ | with_reducible exact ⟨keep_alloc (((qq.cell (p := ⟨w1.heap.size, 0, none⟩) kl).trans k0)), keep_alloc (((qq.cell (p := ⟨w1.heap.size, 1, none⟩) kl).trans k1)), keep_alloc (((qq.cell (p := ⟨w1.heap.size, 2, none⟩) kl).trans k2)), keep_alloc (((qq.cell (p := ⟨w3.heap.size, 0, none⟩) gl).trans g0)), keep_alloc (((qq.cell (p := ⟨w3.heap.size, 1, none⟩) gl).trans g1)), keep_alloc (((qq.cell (p := ⟨w3.heap.size, 2, none⟩) gl).trans g2))⟩ | with_reducible exact ⟨keep_alloc (keep_alloc (((qq.cell (p := ⟨w1.heap.size, 0, none⟩) kl).trans k0))), keep_alloc (keep_alloc (((qq.cell (p := ⟨w1.heap.size, 1, none⟩) kl).trans k1))), keep_alloc (keep_alloc (((qq.cell (p := ⟨w1.heap.size, 2, none⟩) kl).trans k2))), keep_alloc (keep_alloc (((qq.cell (p := ⟨w3.heap.size, 0, none⟩) gl).trans g0))), keep_alloc (keep_alloc (((qq.cell (p := ⟨w3.heap.size, 1, none⟩) gl).trans g1))), keep_alloc (keep_alloc (((qq.cell (p := ⟨w3.heap.size, 2, none⟩) gl).trans g2)))⟩ | with_reducible exact ⟨((cell_putR (by omega)).trans ((qq.cell (p := ⟨w1.heap.size, 0, none⟩) kl).trans k0)), ((cell_putR (by omega)).trans ((qq.cell (p := ⟨w1.heap.size, 1, none⟩) kl).trans k1)), ((cell_putR (by omega)).trans ((qq.cell (p := ⟨w1.heap.size, 2, none⟩) kl).trans k2)), ((cell_putR (by omega)).trans ((qq.cell (p := ⟨w3.heap.size, 0, none⟩) gl).trans g0)), ((cell_putR (by omega)).trans ((qq.cell (p := ⟨w3.heap.size, 1, none⟩) gl).trans g1)), ((cell_putR (by omega)).trans ((qq.cell (p := ⟨w3.heap.size, 2, none⟩) gl).trans g2))⟩ | with_reducible exact ⟨keep_alloc (((cell_putR (by omega)).trans ((qq.cell (p := ⟨w1.heap.size, 0, none⟩) kl).trans k0))), keep_alloc (((cell_putR (by omega)).trans ((qq.cell (p := ⟨w1.heap.size, 1, none⟩) kl).trans k1))), keep_alloc (((cell_putR (by omega)).trans ((qq.cell (p := ⟨w1.heap.size, 2, none⟩) kl).trans k2))), keep_alloc (((cell_putR (by omega)).trans ((qq.cell (p := ⟨w3.heap.size, 0, none⟩) gl).trans g0))), keep_alloc (((cell_putR (by omega)).trans ((qq.cell (p := ⟨w3.heap.size, 1, none⟩) gl).trans g1))), keep_alloc (((cell_putR (by omega)).trans ((qq.cell (p := ⟨w3.heap.size, 2, none⟩) gl).trans g2)))⟩ | with_reducible exact ⟨keep_alloc (keep_alloc (((cell_putR (by omega)).trans ((qq.cell (p := ⟨w1.heap.size, 0, none⟩) kl).trans k0)))), keep_alloc (keep_alloc (((cell_putR (by omega)).trans ((qq.cell (p := ⟨w1.heap.size, 1, none⟩) kl).trans k1)))), keep_alloc (keep_alloc (((cell_putR (by omega)).trans ((qq.cell (p := ⟨w1.heap.size, 2, none⟩) kl).trans k2)))), keep_alloc (keep_alloc (((cell_putR (by omega)).trans ((qq.cell (p := ⟨w3.heap.size, 0, none⟩) gl).trans g0)))), keep_alloc (keep_alloc (((cell_putR (by omega)).trans ((qq.cell (p := ⟨w3.heap.size, 1, none⟩) gl).trans g1)))), keep_alloc (keep_alloc (((cell_putR (by omega)).trans ((qq.cell (p := ⟨w3.heap.size, 2, none⟩) gl).trans g2))))⟩ | with_reducible exact ⟨((cell_putR (by omega)).trans ((cell_putR (by omega)).trans ((qq.cell (p := ⟨w1.heap.size, 0, none⟩) kl).trans k0))), ((cell_putR (by omega)).trans ((cell_putR (by omega)).trans ((qq.cell (p := ⟨w1.heap.size, 1, none⟩) kl).trans k1))), ((cell_putR (by omega)).trans ((cell_putR (by omega)).trans ((qq.cell (p := ⟨w1.heap.size, 2, none⟩) kl).trans k2))), ((cell_putR (by omega)).trans ((cell_putR (by omega)).trans ((qq.cell (p := ⟨w3.heap.size, 0, none⟩) gl).trans g0))), ((cell_putR (by omega)).trans ((cell_putR (by omega)).trans ((qq.cell (p := ⟨w3.heap.size, 1, none⟩) gl).trans g1))), ((cell_putR (by omega)).trans ((cell_putR (by omega)).trans ((qq.cell (p := ⟨w3.heap.size, 2, none⟩) gl).trans g2)))⟩ | with_reducible exact ⟨keep_alloc (((cell_putR (by omega)).trans ((cell_putR (by omega)).trans ((qq.cell (p := ⟨w1.heap.size, 0, none⟩) kl).trans k0)))), keep_alloc (((cell_putR (by omega)).trans ((cell_putR (by omega)).trans ((qq.cell (p := ⟨w1.heap.size, 1, none⟩) kl).trans k1)))), keep_alloc (((cell_putR (by omega)).trans ((cell_putR (by omega)).trans ((qq.cell (p := ⟨w1.heap.size, 2, none⟩) kl).trans k2)))), keep_alloc (((cell_putR (by omega)).trans ((cell_putR (by omega)).trans ((qq.cell (p := ⟨w3.heap.size, 0, none⟩) gl).trans g0)))), keep_alloc (((cell_putR (by omega)).trans ((cell_putR (by omega)).trans ((qq.cell (p := ⟨w3.heap.size, 1, none⟩) gl).trans g1)))), keep_alloc (((cell_putR (by omega)).trans ((cell_putR (by omega)).trans ((qq.cell (p := ⟨w3.heap.size, 2, none⟩) gl).trans g2))))⟩ | with_reducible exact ⟨keep_alloc (keep_alloc (((cell_putR (by omega)).trans ((cell_putR (by omega)).trans ((qq.cell (p := ⟨w1.heap.size, 0, none⟩) kl).trans k0))))), keep_alloc (keep_alloc (((cell_putR (by omega)).trans ((cell_putR (by omega)).trans ((qq.cell (p := ⟨w1.heap.size, 1, none⟩) kl).trans k1))))), keep_alloc (keep_alloc (((cell_putR (by omega)).trans ((cell_putR (by omega)).trans ((qq.cell (p := ⟨w1.heap.size, 2, none⟩) kl).trans k2))))), keep_alloc (keep_alloc (((cell_putR (by omega)).trans ((cell_putR (by omega)).trans ((qq.cell (p := ⟨w3.heap.size, 0, none⟩) gl).trans g0))))), keep_alloc (keep_alloc (((cell_putR (by omega)).trans ((cell_putR (by omega)).trans ((qq.cell (p := ⟨w3.heap.size, 1, none⟩) gl).trans g1))))), keep_alloc (keep_alloc (((cell_putR (by omega)).trans ((cell_putR (by omega)).trans ((qq.cell (p := ⟨w3.heap.size, 2, none⟩) gl).trans g2)))))⟩ | go_keep)
      (first
        | (go_at_call 19; (with_reducible refine (h2 _).mono ?_); rintro e y1 ⟨b2, A2, n2, c2, B2, m2, d2, rfl, t, q⟩; have qq := BB0.trans (q.mono BB0.size); have ha' := (ha.on BB0).on q; have qs1 := qq.size; clear q)
        | (go_at_call 19; (with_reducible refine (h2 _).mono ?_); rintro e y1 ⟨b2, A2, n2, c2, B2, m2, d2, rfl, t, q⟩; have qq := BB1.trans (q.mono BB1.size); have ha' := (ha.on BB1).on q; have qs1 := qq.size; have bo_0 := (q.cell (p := ⟨v4.heap.size, 0, none⟩) (by simp)).trans (show _ = some (.bool false) by simp [go_sem]); have fo_0 := (q.frozen (p := ⟨v4.heap.size, 0, none⟩) (by simp)).trans (show _ = false by simp [go_sem]); have bo_1 := (q.cell (p := ⟨v4.heap.size, 1, none⟩) (by simp)).trans (show _ = some (.slice none 0 0) by simp [go_sem]); have fo_1 := (q.frozen (p := ⟨v4.heap.size, 1, none⟩) (by simp)).trans (show _ = false by simp [go_sem]); have bo_2 := (q.cell (p := ⟨v4.heap.size, 2, none⟩) (by simp)).trans (show _ = some (.slice none 0 0) by simp [go_sem]); have fo_2 := (q.frozen (p := ⟨v4.heap.size, 2, none⟩) (by simp)).trans (show _ = false by simp [go_sem]); have ol : v4.heap.size < y1.heap.size := Nat.lt_of_lt_of_le (by simp) q.size; clear q)
        | (go_at_call 24; have up := Below.refl y1.heap.size y1; (with_reducible refine (hadd (ha'.on up) (t.on up)).mono ?_); rintro e y2 ⟨bo, Ao, no, co, Bo, mo, do_, rfl, o, q⟩; replace qq := (qq.trans (up.mono qq.size)).trans (q.mono (Nat.le_trans qq.size up.size)); replace ha' := (ha'.on up).on q; replace t := (t.on up).on q; (try replace bo_0 := (q.cell (Nat.lt_of_lt_of_le ol up.size)).trans ((up.cell ol).trans bo_0)); (try replace fo_0 := (q.frozen (Nat.lt_of_lt_of_le ol up.size)).trans ((up.frozen ol).trans fo_0)); (try replace bo_1 := (q.cell (Nat.lt_of_lt_of_le ol up.size)).trans ((up.cell ol).trans bo_1)); (try replace fo_1 := (q.frozen (Nat.lt_of_lt_of_le ol up.size)).trans ((up.frozen ol).trans fo_1)); (try replace bo_2 := (q.cell (Nat.lt_of_lt_of_le ol up.size)).trans ((up.cell ol).trans bo_2)); (try replace fo_2 := (q.frozen (Nat.lt_of_lt_of_le ol up.size)).trans ((up.frozen ol).trans fo_2)); (try replace ol := Nat.lt_of_lt_of_le ol (Nat.le_trans up.size q.size)); have qs2 := qq.size; clear q up)
        | (go_at_call 24; have up := below_one y1 (.cells #[.bool false, .slice none 0 0, .slice none 0 0] 27); (with_reducible refine (hadd (ha'.on up) (t.on up)).mono ?_); rintro e y2 ⟨bo, Ao, no, co, Bo, mo, do_, rfl, o, q⟩; replace qq := (qq.trans (up.mono qq.size)).trans (q.mono (Nat.le_trans qq.size up.size)); replace ha' := (ha'.on up).on q; replace t := (t.on up).on q; (try replace bo_0 := (q.cell (Nat.lt_of_lt_of_le ol up.size)).trans ((up.cell ol).trans bo_0)); (try replace fo_0 := (q.frozen (Nat.lt_of_lt_of_le ol up.size)).trans ((up.frozen ol).trans fo_0)); (try replace bo_1 := (q.cell (Nat.lt_of_lt_of_le ol up.size)).trans ((up.cell ol).trans bo_1)); (try replace fo_1 := (q.frozen (Nat.lt_of_lt_of_le ol up.size)).trans ((up.frozen ol).trans fo_1)); (try replace bo_2 := (q.cell (Nat.lt_of_lt_of_le ol up.size)).trans ((up.cell ol).trans bo_2)); (try replace fo_2 := (q.frozen (Nat.lt_of_lt_of_le ol up.size)).trans ((up.frozen ol).trans fo_2)); (try replace ol := Nat.lt_of_lt_of_le ol (Nat.le_trans up.size q.size)); have qs2 := qq.size; have bo_0 := (q.cell (p := ⟨y1.heap.size, 0, none⟩) (by simp)).trans (show _ = some (.bool false) by simp [go_sem]); have fo_0 := (q.frozen (p := ⟨y1.heap.size, 0, none⟩) (by simp)).trans (show _ = false by simp [go_sem]); have bo_1 := (q.cell (p := ⟨y1.heap.size, 1, none⟩) (by simp)).trans (show _ = some (.slice none 0 0) by simp [go_sem]); have fo_1 := (q.frozen (p := ⟨y1.heap.size, 1, none⟩) (by simp)).trans (show _ = false by simp [go_sem]); have bo_2 := (q.cell (p := ⟨y1.heap.size, 2, none⟩) (by simp)).trans (show _ = some (.slice none 0 0) by simp [go_sem]); have fo_2 := (q.frozen (p := ⟨y1.heap.size, 2, none⟩) (by simp)).trans (show _ = false by simp [go_sem]); have ol : y1.heap.size < y2.heap.size := Nat.lt_of_lt_of_le (by simp) q.size; clear q up))
    all_goals (go_wp2_with fail; go_meet)
    all_goals refine ⟨_, bo, Ao, no, co, Bo, mo, do_, rfl, ?_⟩
    all_goals first
      | with_reducible exact loneA o qq _
      | with_reducible exact loneB bo_0 bo_1 bo_2 o qq (by omega)
  case rest =>
    obtain ⟨gz, bz, Az, nz, cz, Bz, mz, dz, rfl, ⟨z0, z1, z2⟩, hz, b⟩ := hcut
    have zl := cell_lt z0
    simp only at zl
    replace ha := ha.on b
    replace k0 := (b.cell (p := ⟨w1.heap.size, 0, none⟩) kl).trans k0
    replace k1 := (b.cell (p := ⟨w1.heap.size, 1, none⟩) kl).trans k1
    replace k2 := (b.cell (p := ⟨w1.heap.size, 2, none⟩) kl).trans k2
    replace kl := Nat.lt_of_lt_of_le kl b.size
    replace g0 := (b.cell (p := ⟨w3.heap.size, 0, none⟩) gl).trans g0
    replace g1 := (b.cell (p := ⟨w3.heap.size, 1, none⟩) gl).trans g1
    replace g2 := (b.cell (p := ⟨w3.heap.size, 2, none⟩) gl).trans g2
    replace gl := Nat.lt_of_lt_of_le gl b.size
    replace cc := cc.trans (b.mono cc.size)
    clear b
    go_wp2_with fail
    have qq : Below wc.heap.size wc wc.drew := below_drewN (Below.refl _ wc) 1
    have ha' := ha.on qq
    have hz' := hz.on qq
    go_region_held3 (fun w' => w'.cell? ⟨w1.heap.size, 0, none⟩ = some (.bool ba) ∧ w'.cell? ⟨w1.heap.size, 1, none⟩ = some (.slice Aa na ca) ∧ w'.cell? ⟨w1.heap.size, 2, none⟩ = some (.slice Ba ma da) ∧ w'.cell? ⟨w3.heap.size, 0, none⟩ = some (.bool false) ∧ w'.cell? ⟨w3.heap.size, 1, none⟩ = some (.slice none 0 0) ∧ w'.cell? ⟨w3.heap.size, 2, none⟩ = some (.slice none 0 0) ∧ w'.cell? ⟨gz, 0, none⟩ = some (.bool bz) ∧ w'.cell? ⟨gz, 1, none⟩ = some (.slice Az nz cz) ∧ w'.cell? ⟨gz, 2, none⟩ = some (.slice Bz mz dz))
      (first | with_reducible exact ⟨(qq.cell (p := ⟨w1.heap.size, 0, none⟩) kl).trans k0, (qq.cell (p := ⟨w1.heap.size, 1, none⟩) kl).trans k1, (qq.cell (p := ⟨w1.heap.size, 2, none⟩) kl).trans k2, (qq.cell (p := ⟨w3.heap.size, 0, none⟩) gl).trans g0, (qq.cell (p := ⟨w3.heap.size, 1, none⟩) gl).trans g1, (qq.cell (p := ⟨w3.heap.size, 2, none⟩) gl).trans g2, (qq.cell (p := ⟨gz, 0, none⟩) zl).trans z0, (qq.cell (p := ⟨gz, 1, none⟩) zl).trans z1, (qq.cell (p := ⟨gz, 2, none⟩) zl).trans z2⟩ | go_keep)
      (first
        | (go_at_call 16; (with_reducible refine (qright_N ha' sa).mono ?_); rintro e wz ⟨rfl, q⟩; replace qq := qq.trans (q.mono qq.size); (try replace ha' := ha'.on q); (try replace hz' := hz'.on q); (try replace fc := fc.on q); (try replace fd := fd.on q); clear q)
        | (go_at_call 36; (with_reducible refine (hc _).mono ?_); rintro e wz ⟨bc, Ac, nc, cc_, Bc, mc, dc, rfl, fc, q⟩; replace qq := qq.trans (q.mono qq.size); (try replace ha' := ha'.on q); (try replace hz' := hz'.on q); (try replace fd := fd.on q); clear q)
        | (go_at_call 36; (with_reducible refine (hd _).mono ?_); rintro e wz ⟨bd, Ad, nd, cd, Bd, md, dd, rfl, fd, q⟩; replace qq := qq.trans (q.mono qq.size); (try replace ha' := ha'.on q); (try replace hz' := hz'.on q); (try replace fc := fc.on q); clear q)
        | (go_at_call 18; (with_reducible refine (rtsame_N ha' (sa.le (by omega)) fc (sc.le (by omega)) true e1).mono ?_); rintro e wz ⟨rfl, q⟩; replace qq := qq.trans (q.mono qq.size); (try replace ha' := ha'.on q); (try replace hz' := hz'.on q); (try replace fc := fc.on q); (try replace fd := fd.on q); clear q)
        | (go_at_call 18; (with_reducible refine (rtsame_N hz' (sb.le (by omega)) fd (sd.le (by omega)) true e2).mono ?_); rintro e wz ⟨rfl, q⟩; replace qq := qq.trans (q.mono qq.size); (try replace ha' := ha'.on q); (try replace hz' := hz'.on q); (try replace fc := fc.on q); (try replace fd := fd.on q); clear q)
        | (go_at_call 30; (with_reducible refine (hcmp ha' hz').mono ?_); rintro e wz ⟨rfl, q⟩; replace qq := qq.trans (q.mono qq.size); (try replace ha' := ha'.on q); (try replace hz' := hz'.on q); (try replace fc := fc.on q); (try replace fd := fd.on q); clear q))
    clear ha
    have ha := ha'
    clear ha'
    clear hz
    have hz := hz'
    clear hz'
    replace k0 := (qq.cell (p := ⟨w1.heap.size, 0, none⟩) kl).trans k0
    replace k1 := (qq.cell (p := ⟨w1.heap.size, 1, none⟩) kl).trans k1
    replace k2 := (qq.cell (p := ⟨w1.heap.size, 2, none⟩) kl).trans k2
    replace kl := Nat.lt_of_lt_of_le kl qq.size
    replace g0 := (qq.cell (p := ⟨w3.heap.size, 0, none⟩) gl).trans g0
    replace g1 := (qq.cell (p := ⟨w3.heap.size, 1, none⟩) gl).trans g1
    replace g2 := (qq.cell (p := ⟨w3.heap.size, 2, none⟩) gl).trans g2
    replace gl := Nat.lt_of_lt_of_le gl qq.size
    replace z0 := (qq.cell (p := ⟨gz, 0, none⟩) zl).trans z0
    replace z1 := (qq.cell (p := ⟨gz, 1, none⟩) zl).trans z1
    replace z2 := (qq.cell (p := ⟨gz, 2, none⟩) zl).trans z2
    replace zl := Nat.lt_of_lt_of_le zl qq.size
    replace cc := cc.trans (qq.mono cc.size)
    clear qq
    go_wp2_with fail
    go_ret
    exact ⟨rfl, cc⟩

end Go.Proofs.Ytgnhioffamfakaa

/-
  A rational that came in: its side, and the digits of both its numbers.
-/
namespace Go.Proofs.Ytgnhioffamfakaa
open Go.ChangeShapes Go.WideShapes Go.ChangeAt Go.RowKit Go.Joins

theorem open_nat {H : Type} {enc : TypeId × Value → H} {W : World} {base : Nat} {held : Bool} {v : Value} {y : DataW H × List MemPlace} {n : Nat} (h : DataW.trod enc Try.prog W base (fun _ => true) held n 23 [v] = some y) :
    ∃ (a : Option Addr) (len cap : Nat) (l : List Nat), v = .slice a len cap ∧ Lim W.heap.size W a len cap l ∧ len ≤ 9223372036854775807 := by
  rcases open_ints Try.underlying23 Try.underlying52 (by kernel_rfl) h with ⟨hcs, _⟩ | ⟨x, l, c, zs, hcs, _, hl, hm, hz, _, hcell, hwz⟩
  · injection hcs with hcs _
    subst hcs
    obtain ⟨l, hl, hs⟩ := arg_of_row (w := W) (a := none) (len := 0) (cap := 0) (zs := []) (.inl ⟨rfl, rfl, rfl, rfl⟩)
    exact ⟨none, 0, 0, l, rfl, hl, hs⟩
  · injection hcs with hcs _
    subst hcs
    obtain ⟨l', hl', hs⟩ := arg_of_row (w := W) (a := some x) (len := l) (cap := c) (zs := zs) (.inr ⟨x, rfl, hl, hm, by simpa using hz, hcell, hwz⟩)
    exact ⟨some x, l, c, l', rfl, hl', hs⟩

set_option maxRecDepth 100000 in
theorem open_rat {H : Type} {enc : TypeId × Value → H} {W : World} {base b0 : Nat} {held : Bool} {r : Reach} {v : Value} {d : DataW H} {p : List MemPlace} (hv : Value.okWide Try.prog W r b0 27 v) (h : DataW.Trod enc Try.prog W base (fun _ => true) held 27 v d p) :
    ∃ (b : Bool) (a : Option Addr) (len cap : Nat) (l : List Nat) (a2 : Option Addr) (len2 cap2 : Nat) (l2 : List Nat), v = .agg #[.bool b, .slice a len cap, .slice a2 len2 cap2] ∧ Lim W.heap.size W a len cap l ∧ len ≤ 9223372036854775807 ∧ Lim W.heap.size W a2 len2 cap2 l2 ∧ len2 ≤ 9223372036854775807 := by
  obtain ⟨cs, rfl, hsz⟩ := okWide_struct Try.underlying27 hv
  obtain ⟨c0, c1, c2, rfl⟩ := array3 (hsz.trans (by kernel_rfl))
  obtain ⟨fuel, hf⟩ := h
  obtain ⟨y0, y1, n, _, _, h0, h1⟩ := trod_struct2 Try.underlying27 hf
  have k0 : Try.prog.cellsOf 25 = 2 := by kernel_rfl
  have k1 : Try.prog.cellsOf 23 = 1 := by kernel_rfl
  have k2 : Try.prog.cellsOf 4 = 1 := by kernel_rfl
  simp only [Value.cells, k0, k1] at h0 h1
  obtain ⟨z0, z1, m, _, _, g0, g1⟩ := trod_struct2 Try.underlying25 h0
  simp only [k1, k2] at g0 g1
  obtain ⟨b, hb, _⟩ := DataW.trod_bool Try.underlying4 g0
  obtain ⟨a, len, cap, l, e1, hl, hs⟩ := open_nat (v := c1) g1
  obtain ⟨a2, len2, cap2, l2, e2, hl2, hs2⟩ := open_nat (v := c2) h1
  injection hb with hb _
  subst hb e1 e2
  exact ⟨b, a, len, cap, l, a2, len2, cap2, l2, rfl, hl, hs, hl2, hs2⟩

end Go.Proofs.Ytgnhioffamfakaa

/-
  What the laws of rat lean on: which is greater, few limbs.
-/
namespace Go.Proofs.Ytgnhioffamfakaa
open Go.RowKit
set_option linter.unusedVariables false

theorem cmpQ_swap (a b : Rat) : cmpQ b a = -cmpQ a b := by unfold cmpQ; grind
theorem cmpQ_same (a b : Rat) : (cmpQ a b == 0) = decide (a = b) := by unfold cmpQ; grind
theorem cmpQ_plus (a b c : Rat) : cmpQ (a + c) (b + c) = cmpQ a b := by unfold cmpQ; grind
theorem cmpQ_diff (a b : Rat) : cmpQ (a - b) ((0 : Int) : Rat) = cmpQ a b := by
  rw [show ((0 : Int) : Rat) = 0 from rfl]; unfold cmpQ; grind
theorem cmpQ_times (a b c : Rat) (h : 0 < c) : cmpQ (a * c) (b * c) = cmpQ a b := by
  have e1 : (a * c < b * c) ↔ a < b := by
    constructor
    · intro h1; exact Rat.lt_of_mul_lt_mul_right h1 (Rat.le_of_lt h)
    · intro h1; exact Rat.mul_lt_mul_of_pos_right h1 h
  have e2 : (b * c < a * c) ↔ b < a := by
    constructor
    · intro h1; exact Rat.lt_of_mul_lt_mul_right h1 (Rat.le_of_lt h)
    · intro h1; exact Rat.mul_lt_mul_of_pos_right h1 h
  unfold cmpQ; simp only [e1, e2]
theorem cmpQ_trans (a b c : Rat) (h : cmpQ a b ≤ 0) (h2 : cmpQ b c ≤ 0) : cmpQ a c ≤ 0 := by unfold cmpQ at *; grind
theorem cmpQ_low (a b : Rat) : cmpQ a ((a + b) / ((2 : Int) : Rat)) = cmpQ a b := by
  rw [show ((2 : Int) : Rat) = 2 from rfl]; unfold cmpQ; grind
theorem cmpQ_high (a b : Rat) : cmpQ ((a + b) / ((2 : Int) : Rat)) b = cmpQ a b := by
  rw [show ((2 : Int) : Rat) = 2 from rfl]; unfold cmpQ; grind
theorem q1 (a b : Rat) : a + b - b = a := by grind
theorem q2 (a : Rat) : a - ((0 : Int) : Rat) = a := by rw [show ((0 : Int) : Rat) = 0 from rfl]; grind
theorem q3 (a : Rat) : a * ((1 : Int) : Rat) = a := by rw [show ((1 : Int) : Rat) = 1 from rfl]; grind
theorem q4 (a b : Rat) (h : b ≠ 0) : a * b / b = a := by grind
theorem q5 (a b : Rat) : b + (a - b) = a := by grind
theorem q6 (a b c : Rat) : a + b + c = a + (b + c) := by grind
theorem q7 (a b c : Rat) : a * b * c = a * (b * c) := by grind
theorem q8 (a b c : Rat) : (a + b) * c = a * c + b * c := by grind
theorem q9 (a b c : Rat) : a * b  = b * a := by grind
theorem mk_cross (p p' : Int) (q q' : Nat) (h : q ≠ 0) (h' : q' ≠ 0) : decide (mkRat p q = mkRat p' q') = decide (p * (q' : Int) = p' * (q : Int)) := by
  simp only [Rat.mkRat_eq_iff h h']
theorem mk_more (p : Int) (q c : Nat) (h : c ≠ 0) : mkRat p q = mkRat (p * (c : Int)) (q * c) := by
  rw [Rat.mkRat_mul_right h]

theorem rtright_N {w : World} {b : Bool} {A B : Option Addr} {n c m d : Nat} {r : Rat} (h : Rt w b A n c B m d r) (s : Sz r 30) : Calls Try.prog 17 #[.agg #[.bool b, .slice A n c, .slice B m d]] w (GotV w (.bool true)) := rtright_any h.1.1 h.2 (by rw [h.1.1.len]; exact Nat.le_trans s.1 (by omega)) (by rw [h.2.len]; exact Nat.le_trans s.2 (by omega)) true (okR_rt h)

theorem qcmp_v {w : World} {b0 b1 : Bool} {A0 B0 A1 B1 : Option Addr} {n0 c0 m0 d0 n1 c1 m1 d1 : Nat} {x0 x1 : Rat} (r : Int) (h0 : Rt w b0 A0 n0 c0 B0 m0 d0 x0) (s0 : Sz x0 30) (h1 : Rt w b1 A1 n1 c1 B1 m1 d1 x1) (s1 : Sz x1 30) (h : cmpQ x0 x1 = r) : Calls Try.prog 30 #[.agg #[.bool b0, .slice A0 n0 c0, .slice B0 m0 d0], .agg #[.bool b1, .slice A1 n1 c1, .slice B1 m1 d1]] w (GotV w (.int .i64 r)) := by
  subst h
  exact qcmp_N h0 s0 h1 s1

theorem rtcmp_v {w : World} {b0 b1 : Bool} {A0 B0 A1 B1 : Option Addr} {n0 c0 m0 d0 n1 c1 m1 d1 : Nat} {x0 x1 : Rat} (r : Int) (h0 : Rt w b0 A0 n0 c0 B0 m0 d0 x0) (s0 : Sz x0 100) (h1 : Rt w b1 A1 n1 c1 B1 m1 d1 x1) (s1 : Sz x1 100) (h : cmpQ x0 x1 = r) : Calls Try.prog 31 #[.agg #[.bool b0, .slice A0 n0 c0, .slice B0 m0 d0], .agg #[.bool b1, .slice A1 n1 c1, .slice B1 m1 d1]] w (GotV w (.int .i64 r)) := by
  subst h
  exact rtcmp_N h0 s0 h1 s1

theorem rtsame_eq {w : World} {b0 b1 : Bool} {A0 B0 A1 B1 : Option Addr} {n0 c0 m0 d0 n1 c1 m1 d1 : Nat} {x0 x1 : Rat} (h0 : Rt w b0 A0 n0 c0 B0 m0 d0 x0) (s0 : Sz x0 100) (h1 : Rt w b1 A1 n1 c1 B1 m1 d1 x1) (s1 : Sz x1 100) (h : Hid (x0 = x1)) : Calls Try.prog 18 #[.agg #[.bool b0, .slice A0 n0 c0, .slice B0 m0 d0], .agg #[.bool b1, .slice A1 n1 c1, .slice B1 m1 d1]] w (GotV w (.bool true)) := rtsame_N h0 (s0.le (by omega)) h1 (s1.le (by omega)) true (decide_eq_true h.out)

theorem rtsame_self {w : World} {b0 b1 : Bool} {A0 B0 A1 B1 : Option Addr} {n0 c0 m0 d0 n1 c1 m1 d1 : Nat} {x : Rat} (h0 : Rt w b0 A0 n0 c0 B0 m0 d0 x) (s0 : Sz x 100) (h1 : Rt w b1 A1 n1 c1 B1 m1 d1 x) : Calls Try.prog 18 #[.agg #[.bool b0, .slice A0 n0 c0, .slice B0 m0 d0], .agg #[.bool b1, .slice A1 n1 c1, .slice B1 m1 d1]] w (GotV w (.bool true)) := rtsame_eq h0 s0 h1 s0 (Lib.hid rfl)

theorem rtsame_none (w : World) : Calls Try.prog 18 #[.agg #[.bool false, .slice none 0 0, .slice none 0 0], .agg #[.bool false, .slice none 0 0, .slice none 0 0]] w (GotV w (.bool true)) := by
  have h : Rw w false none 0 0 none 0 0 0 0 := ⟨⟨num_zero w, rfl⟩, num_zero w⟩
  have l : (limbs 0).length ≤ 1000 := Nat.le_trans len_nil (by omega)
  exact rtsame_any h h l l l l true (by simp)

/-- A rational that is right and of few limbs. -/
theorem few_rt {w : World} {b : Bool} {A B : Option Addr} {n c m d : Nat} {l l2 : List Nat} (k : Nat) (h : Lim w.heap.size w A n c l) (h2 : Lim w.heap.size w B m d l2) (hr : (decide ((n : Int) ≤ (k : Int)) && (decide ((m : Int) ≤ (k : Int)) && okR b n l m l2)) = true) : ∃ r : Rat, Rt w b A n c B m d r ∧ Sz r k := by
  rw [Bool.and_eq_true, Bool.and_eq_true] at hr
  obtain ⟨e1, e2, e3⟩ := hr
  unfold okR at e3
  rw [Bool.and_eq_true, Bool.and_eq_true, Bool.and_eq_true] at e3
  obtain ⟨e4, e5, e6, e7⟩ := e3
  have hz := okZ_zn h e4
  have hN := h2.num e5
  have h0 := num_ne hN (of_decide_eq_true e6)
  have hg : Nat.gcd (sgn b (val l)).natAbs (val l2) = 1 := by rw [sgn_abs]; exact of_decide_eq_true e7
  obtain ⟨r, r1, r2⟩ := rat_of _ _ h0 hg
  refine ⟨r, ⟨by rw [r1]; exact hz, by rw [r2]; exact hN⟩, ?_, ?_⟩
  · rw [r1, ← hz.1.len]; have := of_decide_eq_true e1; omega
  · rw [r2, ← hN.len]; have := of_decide_eq_true e2; omega
theorem rt_nought {w : World} {b : Bool} {A B : Option Addr} {n c m d : Nat} {x : Rat} (h : Rt w b A n c B m d x) (hn : 0 < n) : x.num ≠ 0 := by
  have := num_ne h.1.1 hn
  omega
theorem rt_zero {w : World} {b : Bool} {A B : Option Addr} {n c m d : Nat} {x : Rat} (h : Rt w b A n c B m d x) (hx : x.num = 0) : n = 0 := by
  have := h.1.1.len
  rw [hx] at this
  rw [this, show (0 : Int).natAbs = 0 from rfl, limbs_zero]; rfl
theorem rt_above {w : World} {b : Bool} {A B : Option Addr} {n c m d : Nat} {x : Rat} (h : Rt w b A n c B m d x) (hn : 0 < n) (hb : b = false) : 0 < x := by
  have h1 := rt_nought h hn
  have h2 := h.1.2
  rw [hb] at h2
  have h3 : ¬ x.num < 0 := of_decide_eq_false h2.symm
  rw [Rat.lt_iff]
  show 0 * (x.den : Int) < x.num * ((1 : Nat) : Int)
  omega
theorem rat_zero {x : Rat} (h : x.num = 0) : x = 0 := Rat.num_eq_zero.1 h

end Go.Proofs.Ytgnhioffamfakaa

/-
  An integer that came in: its side, and its digits.
-/
namespace Go.Proofs.Ytgnhioffamfakaa
open Go.ChangeShapes Go.WideShapes Go.ChangeAt Go.RowKit Go.Joins

set_option maxRecDepth 100000 in
theorem open_zed {H : Type} {enc : TypeId × Value → H} {W : World} {base b0 : Nat} {held : Bool} {r : Reach} {v : Value} {d : DataW H} {p : List MemPlace} (hv : Value.okWide Try.prog W r b0 25 v) (h : DataW.Trod enc Try.prog W base (fun _ => true) held 25 v d p) :
    ∃ (b : Bool) (a : Option Addr) (len cap : Nat) (l : List Nat), v = .agg #[.bool b, .slice a len cap] ∧ Lim W.heap.size W a len cap l ∧ len ≤ 9223372036854775807 := by
  obtain ⟨v0, v1, y0, y1, n, rfl, _, _, h0, h1⟩ := open_agg2 Try.underlying25 (by kernel_rfl) (by kernel_rfl) hv h
  obtain ⟨b, hb, _⟩ := DataW.trod_bool Try.underlying4 h0
  injection hb with hb _
  subst hb
  rcases open_ints Try.underlying23 Try.underlying52 (by kernel_rfl) h1 with ⟨hcs, _⟩ | ⟨x, l, c, zs, hcs, _, hl, hm, hz, _, hcell, hwz⟩
  · injection hcs with hcs _
    subst hcs
    obtain ⟨l, hl, hs⟩ := arg_of_row (w := W) (a := none) (len := 0) (cap := 0) (zs := []) (.inl ⟨rfl, rfl, rfl, rfl⟩)
    exact ⟨b, none, 0, 0, l, rfl, hl, hs⟩
  · injection hcs with hcs _
    subst hcs
    obtain ⟨l', hl', hs⟩ := arg_of_row (w := W) (a := some x) (len := l) (cap := c) (zs := zs) (.inr ⟨x, rfl, hl, hm, by simpa using hz, hcell, hwz⟩)
    exact ⟨b, some x, l, c, l', rfl, hl', hs⟩

end Go.Proofs.Ytgnhioffamfakaa

/-
  A number, two integers, two numbers that came in.
-/
namespace Go.Proofs.Ytgnhioffamfakaa
open Go.ChangeShapes Go.WideShapes Go.ChangeAt Go.RowKit Go.Joins

theorem open_natT {H : Type} {enc : TypeId × Value → H} {W : World} {base b0 : Nat} {held : Bool} {r : Reach} {v : Value} {d : DataW H} {p : List MemPlace} (hv : Value.okWide Try.prog W r b0 23 v) (h : DataW.Trod enc Try.prog W base (fun _ => true) held 23 v d p) :
    ∃ (a : Option Addr) (len cap : Nat) (l : List Nat), v = .slice a len cap ∧ Lim W.heap.size W a len cap l ∧ len ≤ 9223372036854775807 := by
  obtain ⟨a, len, cap, rfl⟩ := okWide_slice Try.underlying23 hv
  obtain ⟨fuel, hf⟩ := h
  exact open_nat hf

set_option maxRecDepth 100000 in
theorem open_nats {H : Type} {enc : TypeId × Value → H} {W : World} {base b0 : Nat} {held : Bool} {r : Reach} {v : Value} {d : DataW H} {p : List MemPlace} (hv : Value.okWide Try.prog W r b0 46 v) (h : DataW.Trod enc Try.prog W base (fun _ => true) held 46 v d p) :
    ∃ (a : Option Addr) (len cap : Nat) (l : List Nat) (a2 : Option Addr) (len2 cap2 : Nat) (l2 : List Nat), v = .agg #[.slice a len cap, .slice a2 len2 cap2] ∧ Lim W.heap.size W a len cap l ∧ len ≤ 9223372036854775807 ∧ Lim W.heap.size W a2 len2 cap2 l2 ∧ len2 ≤ 9223372036854775807 := by
  have hu : Try.prog.underlying 46 = some (.array 2 23) := Try.underlying46
  have e1 : Try.prog.cellsOf 23 = 1 := by kernel_rfl
  have e2 : Try.prog.cellsOf 46 = 2 := by kernel_rfl
  simp only [Value.okWide, hu] at hv
  obtain ⟨cs, rfl, hsz, _⟩ := hv
  obtain ⟨c0, c1, rfl⟩ := array2 (hsz.trans e2)
  obtain ⟨fuel, hf⟩ := h
  obtain ⟨xs, m, rfl, _, _, hxl, hel⟩ := DataW.trod_array hu hf
  obtain ⟨x0, x1, rfl⟩ : ∃ x0 x1, xs = [x0, x1] := by
    match xs, hxl with
    | [a, b], _ => exact ⟨a, b, rfl⟩
  have h0 := hel 0 (by omega)
  have h1 := hel 1 (by omega)
  rw [e1] at h0 h1
  obtain ⟨a, len, cap, l, k0, hl, hs⟩ := open_nat (v := c0) h0
  obtain ⟨a2, len2, cap2, l2, k1, hl2, hs2⟩ := open_nat (v := c1) h1
  subst k0
  subst k1
  exact ⟨a, len, cap, l, a2, len2, cap2, l2, rfl, hl, hs, hl2, hs2⟩

set_option maxRecDepth 100000 in
theorem open_zeds {H : Type} {enc : TypeId × Value → H} {W : World} {base b0 : Nat} {held : Bool} {r : Reach} {v : Value} {d : DataW H} {p : List MemPlace} (hv : Value.okWide Try.prog W r b0 45 v) (h : DataW.Trod enc Try.prog W base (fun _ => true) held 45 v d p) :
    ∃ (b : Bool) (a : Option Addr) (len cap : Nat) (l : List Nat) (b2 : Bool) (a2 : Option Addr) (len2 cap2 : Nat) (l2 : List Nat), v = .agg #[.bool b, .slice a len cap, .bool b2, .slice a2 len2 cap2] ∧ Lim W.heap.size W a len cap l ∧ len ≤ 9223372036854775807 ∧ Lim W.heap.size W a2 len2 cap2 l2 ∧ len2 ≤ 9223372036854775807 := by
  have hu : Try.prog.underlying 45 = some (.array 2 25) := Try.underlying45
  have e1 : Try.prog.cellsOf 25 = 2 := by kernel_rfl
  have e2 : Try.prog.cellsOf 45 = 4 := by kernel_rfl
  have k1 : Try.prog.cellsOf 23 = 1 := by kernel_rfl
  have k2 : Try.prog.cellsOf 4 = 1 := by kernel_rfl
  simp only [Value.okWide, hu] at hv
  obtain ⟨cs, rfl, hsz, _⟩ := hv
  obtain ⟨c0, c1, c2, c3, rfl⟩ := array4 (hsz.trans e2)
  obtain ⟨fuel, hf⟩ := h
  obtain ⟨xs, m, rfl, _, _, hxl, hel⟩ := DataW.trod_array hu hf
  obtain ⟨x0, x1, rfl⟩ : ∃ x0 x1, xs = [x0, x1] := by
    match xs, hxl with
    | [a, b], _ => exact ⟨a, b, rfl⟩
  have h0 := hel 0 (by omega)
  have h1 := hel 1 (by omega)
  rw [e1] at h0 h1
  obtain ⟨z0, z1, m0, _, _, g0, g1⟩ := trod_struct2 Try.underlying25 h0
  obtain ⟨z2, z3, m1, _, _, g2, g3⟩ := trod_struct2 Try.underlying25 h1
  simp only [k1, k2] at g0 g1 g2 g3
  obtain ⟨b, hb, _⟩ := DataW.trod_bool Try.underlying4 g0
  obtain ⟨b2, hb2, _⟩ := DataW.trod_bool Try.underlying4 g2
  obtain ⟨a, len, cap, l, f1, hl, hs⟩ := open_nat (v := c1) g1
  obtain ⟨a2, len2, cap2, l2, f2, hl2, hs2⟩ := open_nat (v := c3) g3
  injection hb with hb _
  injection hb2 with hb2 _
  subst hb hb2 f1 f2
  exact ⟨b, a, len, cap, l, b2, a2, len2, cap2, l2, rfl, hl, hs, hl2, hs2⟩

end Go.Proofs.Ytgnhioffamfakaa
