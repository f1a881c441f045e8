/-
  The walk of IvalReckons.
-/
import Derived.Test.YtanpklbconflmaaGreatA13
import Derived.Test.YtanpklbconflmaaGreatA3
namespace Go.Proofs.YtanpklbconflmaaGreat
set_option maxRecDepth 100000
set_option maxHeartbeats 8000000
open Go.RowKit
set_option linter.unusedVariables false
set_option linter.unusedSimpArgs false

theorem IvalReckons_no0 {w : World} {b0 p0 : Bool} {A0 B0 V0 U0 : Option Addr} {n0 c0 m0 d0 r0 k0 o0 q0 : Nat} {b1 p1 : Bool} {A1 B1 V1 U1 : Option Addr} {n1 c1 m1 d1 r1 k1 o1 q1 : Nat} (G0 : ∀ W : World, Below w.heap.size w W → Calls Tryz.prog 17 #[.agg #[.bool b0, .slice A0 n0 c0, .slice B0 m0 d0, .bool p0, .slice V0 r0 k0, .slice U0 o0 q0], .int .i64 3] W (GotV W (.bool false))) :
    Calls Tryz.prog 4 #[.agg #[.bool b0, .slice A0 n0 c0, .slice B0 m0 d0, .bool p0, .slice V0 r0 k0, .slice U0 o0 q0], .agg #[.bool b1, .slice A1 n1 c1, .slice B1 m1 d1, .bool p1, .slice V1 r1 k1, .slice U1 o1 q1]] w (fun e w' => e = .returned (.bool true) ∧ Below w.heap.size w w') := by
  have cc := Below.refl w.heap.size w
  go_enter Tryz.func4, Tryz.ntmps4
  go_wp2_with fail
  generalize hv_ : (w.alloc (.cells #[.bool b0, .slice A0 n0 c0, .slice B0 m0 d0, .bool p0, .slice V0 r0 k0, .slice U0 o0 q0] 29)).alloc (.cells #[.bool b1, .slice A1 n1 c1, .slice B1 m1 d1, .bool p1, .slice V1 r1 k1, .slice U1 o1 q1] 29) = v1
  have bA : Below w.heap.size w v1 := by rw [← hv_]; exact (((Below.refl _ w).alloc (by simp) _).alloc (by simp) _)
  replace cc := bK cc bA
  clear bA
  obtain ⟨pa0, pa1, pa2, pa3, pa4, pa5⟩ : Cs6 v1 w.heap.size (.bool b0) (.slice A0 n0 c0) (.slice B0 m0 d0) (.bool p0) (.slice V0 r0 k0) (.slice U0 o0 q0) := by simp [Cs6, ← hv_, go_sem]
  have pal : w.heap.size < v1.heap.size := by simp [← hv_] <;> omega
  obtain ⟨pb0, pb1, pb2, pb3, pb4, pb5⟩ : Cs6 v1 (w.heap.size + 1) (.bool b1) (.slice A1 n1 c1) (.slice B1 m1 d1) (.bool p1) (.slice V1 r1 k1) (.slice U1 o1 q1) := by simp [Cs6, ← hv_, go_sem]
  have pbl : w.heap.size + 1 < v1.heap.size := by simp [← hv_] <;> omega
  clear hv_
  refine (G0 _ cc).mono ?_
  rintro e w2 ⟨rfl, b⟩
  rewrite [cR b pal] at pa0 pa1 pa2 pa3 pa4 pa5
  replace pal := lK b pal
  rewrite [cR b pbl] at pb0 pb1 pb2 pb3 pb4 pb5
  replace pbl := lK b pbl
  replace cc := bK cc b
  clear b
  go_wp2_with fail
  refine (alive7_any _).mono ?_
  rintro e w3 ⟨rfl, b⟩
  rewrite [cR b pal] at pa0 pa1 pa2 pa3 pa4 pa5
  replace pal := lK b pal
  rewrite [cR b pbl] at pb0 pb1 pb2 pb3 pb4 pb5
  replace pbl := lK b pbl
  replace cc := bK cc b
  clear b
  go_wp2_with fail
  go_ret
  exact ⟨rfl, cc⟩

theorem IvalReckons_no1 {w : World} {b0 p0 : Bool} {A0 B0 V0 U0 : Option Addr} {n0 c0 m0 d0 r0 k0 o0 q0 : Nat} {b1 p1 : Bool} {A1 B1 V1 U1 : Option Addr} {n1 c1 m1 d1 r1 k1 o1 q1 : Nat} (G0 : ∀ W : World, Below w.heap.size w W → Calls Tryz.prog 17 #[.agg #[.bool b0, .slice A0 n0 c0, .slice B0 m0 d0, .bool p0, .slice V0 r0 k0, .slice U0 o0 q0], .int .i64 3] W (GotV W (.bool true))) (G1 : ∀ W : World, Below w.heap.size w W → Calls Tryz.prog 17 #[.agg #[.bool b1, .slice A1 n1 c1, .slice B1 m1 d1, .bool p1, .slice V1 r1 k1, .slice U1 o1 q1], .int .i64 3] W (GotV W (.bool false))) :
    Calls Tryz.prog 4 #[.agg #[.bool b0, .slice A0 n0 c0, .slice B0 m0 d0, .bool p0, .slice V0 r0 k0, .slice U0 o0 q0], .agg #[.bool b1, .slice A1 n1 c1, .slice B1 m1 d1, .bool p1, .slice V1 r1 k1, .slice U1 o1 q1]] w (fun e w' => e = .returned (.bool true) ∧ Below w.heap.size w w') := by
  have cc := Below.refl w.heap.size w
  go_enter Tryz.func4, Tryz.ntmps4
  go_wp2_with fail
  generalize hv_ : (w.alloc (.cells #[.bool b0, .slice A0 n0 c0, .slice B0 m0 d0, .bool p0, .slice V0 r0 k0, .slice U0 o0 q0] 29)).alloc (.cells #[.bool b1, .slice A1 n1 c1, .slice B1 m1 d1, .bool p1, .slice V1 r1 k1, .slice U1 o1 q1] 29) = v1
  have bA : Below w.heap.size w v1 := by rw [← hv_]; exact (((Below.refl _ w).alloc (by simp) _).alloc (by simp) _)
  replace cc := bK cc bA
  clear bA
  obtain ⟨pa0, pa1, pa2, pa3, pa4, pa5⟩ : Cs6 v1 w.heap.size (.bool b0) (.slice A0 n0 c0) (.slice B0 m0 d0) (.bool p0) (.slice V0 r0 k0) (.slice U0 o0 q0) := by simp [Cs6, ← hv_, go_sem]
  have pal : w.heap.size < v1.heap.size := by simp [← hv_] <;> omega
  obtain ⟨pb0, pb1, pb2, pb3, pb4, pb5⟩ : Cs6 v1 (w.heap.size + 1) (.bool b1) (.slice A1 n1 c1) (.slice B1 m1 d1) (.bool p1) (.slice V1 r1 k1) (.slice U1 o1 q1) := by simp [Cs6, ← hv_, go_sem]
  have pbl : w.heap.size + 1 < v1.heap.size := by simp [← hv_] <;> omega
  clear hv_
  refine (G0 _ cc).mono ?_
  rintro e w2 ⟨rfl, b⟩
  rewrite [cR b pal] at pa0 pa1 pa2 pa3 pa4 pa5
  replace pal := lK b pal
  rewrite [cR b pbl] at pb0 pb1 pb2 pb3 pb4 pb5
  replace pbl := lK b pbl
  replace cc := bK cc b
  clear b
  go_wp2_with fail
  refine (G1 _ cc).mono ?_
  rintro e w3 ⟨rfl, b⟩
  rewrite [cR b pal] at pa0 pa1 pa2 pa3 pa4 pa5
  replace pal := lK b pal
  rewrite [cR b pbl] at pb0 pb1 pb2 pb3 pb4 pb5
  replace pbl := lK b pbl
  replace cc := bK cc b
  clear b
  go_wp2_with fail
  refine (alive7_any _).mono ?_
  rintro e w4 ⟨rfl, b⟩
  rewrite [cR b pal] at pa0 pa1 pa2 pa3 pa4 pa5
  replace pal := lK b pal
  rewrite [cR b pbl] at pb0 pb1 pb2 pb3 pb4 pb5
  replace pbl := lK b pbl
  replace cc := bK cc b
  clear b
  go_wp2_with fail
  go_ret
  exact ⟨rfl, cc⟩

theorem IvalReckons_zero {w : World} {b0 p0 : Bool} {A0 B0 V0 U0 : Option Addr} {n0 c0 m0 d0 r0 k0 o0 q0 : Nat} {b1 p1 : Bool} {A1 B1 V1 U1 : Option Addr} {n1 c1 m1 d1 r1 k1 o1 q1 : Nat} {x0 y0 : Rat} (h0 : Rt w b0 A0 n0 c0 B0 m0 d0 x0) (g0 : Rt w p0 V0 r0 k0 U0 o0 q0 y0) (s0 : Sz x0 3) (t0 : Sz y0 3) {x1 y1 : Rat} (h1 : Rt w b1 A1 n1 c1 B1 m1 d1 x1) (g1 : Rt w p1 V1 r1 k1 U1 o1 q1 y1) (s1 : Sz x1 3) (t1 : Sz y1 3) (G0 : ∀ W : World, Below w.heap.size w W → Calls Tryz.prog 17 #[.agg #[.bool b0, .slice A0 n0 c0, .slice B0 m0 d0, .bool p0, .slice V0 r0 k0, .slice U0 o0 q0], .int .i64 3] W (GotV W (.bool true))) (G1 : ∀ W : World, Below w.heap.size w W → Calls Tryz.prog 17 #[.agg #[.bool b1, .slice A1 n1 c1, .slice B1 m1 d1, .bool p1, .slice V1 r1 k1, .slice U1 o1 q1], .int .i64 3] W (GotV W (.bool true))) (hz : decide (x1 ≤ ((0 : Int) : Rat) ∧ ((0 : Int) : Rat) ≤ y1) = true) :
    Calls Tryz.prog 4 #[.agg #[.bool b0, .slice A0 n0 c0, .slice B0 m0 d0, .bool p0, .slice V0 r0 k0, .slice U0 o0 q0], .agg #[.bool b1, .slice A1 n1 c1, .slice B1 m1 d1, .bool p1, .slice V1 r1 k1, .slice U1 o1 q1]] w (fun e w' => e = .returned (.bool true) ∧ Below w.heap.size w w') := by
  obtain ⟨zl_, zh_⟩ := mlo_sz s0 t0 s1 t1
  obtain ⟨ml, e1⟩ : ∃ r, mlo x0 y0 x1 y1 = r := ⟨_, rfl⟩
  obtain ⟨mh, e2⟩ : ∃ r, mhi x0 y0 x1 y1 = r := ⟨_, rfl⟩
  rw [e1] at zl_
  rw [e2] at zh_
  have za_ := s0.add s1
  have zb_ := t0.add t1
  have MI : ∀ {W : World} {b0 p0 : Bool} {A0 B0 V0 U0 : Option Addr} {n0 c0 m0 d0 r0 k0 o0 q0 : Nat} {b1 p1 : Bool} {A1 B1 V1 U1 : Option Addr} {n1 c1 m1 d1 r1 k1 o1 q1 : Nat}, Rt W b0 A0 n0 c0 B0 m0 d0 x0 → Rt W p0 V0 r0 k0 U0 o0 q0 y0 → Rt W b1 A1 n1 c1 B1 m1 d1 x1 → Rt W p1 V1 r1 k1 U1 o1 q1 y1 → Calls Tryz.prog 26 #[.agg #[.bool b0, .slice A0 n0 c0, .slice B0 m0 d0, .bool p0, .slice V0 r0 k0, .slice U0 o0 q0], .agg #[.bool b1, .slice A1 n1 c1, .slice B1 m1 d1, .bool p1, .slice V1 r1 k1, .slice U1 o1 q1]] W (GotSt W ml mh) := fun a b c d => by rw [← e1, ← e2]; exact imul_N a b (s0.le (by omega)) (t0.le (by omega)) c d (s1.le (by omega)) (t1.le (by omega))
  have MR : ∀ {W : World} {b0 p0 : Bool} {A0 B0 V0 U0 : Option Addr} {n0 c0 m0 d0 r0 k0 o0 q0 : Nat} {b1 p1 : Bool} {A1 B1 V1 U1 : Option Addr} {n1 c1 m1 d1 r1 k1 o1 q1 : Nat}, Rt W b0 A0 n0 c0 B0 m0 d0 x0 → Rt W p0 V0 r0 k0 U0 o0 q0 y0 → Rt W b1 A1 n1 c1 B1 m1 d1 x1 → Rt W p1 V1 r1 k1 U1 o1 q1 y1 → Calls Tryz.prog 27 #[.agg #[.bool b0, .slice A0 n0 c0, .slice B0 m0 d0, .bool p0, .slice V0 r0 k0, .slice U0 o0 q0], .agg #[.bool b1, .slice A1 n1 c1, .slice B1 m1 d1, .bool p1, .slice V1 r1 k1, .slice U1 o1 q1]] W (GotSt W ml mh) := fun a b c d => by rw [← e1, ← e2]; exact stmul_N a b (s0.le (by omega)) (t0.le (by omega)) c d (s1.le (by omega)) (t1.le (by omega))
  have DI : ∀ {W : World} {b0 p0 : Bool} {A0 B0 V0 U0 : Option Addr} {n0 c0 m0 d0 r0 k0 o0 q0 : Nat} {b1 p1 : Bool} {A1 B1 V1 U1 : Option Addr} {n1 c1 m1 d1 r1 k1 o1 q1 : Nat}, Rt W b0 A0 n0 c0 B0 m0 d0 x0 → Rt W p0 V0 r0 k0 U0 o0 q0 y0 → Rt W b1 A1 n1 c1 B1 m1 d1 x1 → Rt W p1 V1 r1 k1 U1 o1 q1 y1 → Calls Tryz.prog 22 #[.agg #[.bool b0, .slice A0 n0 c0, .slice B0 m0 d0, .bool p0, .slice V0 r0 k0, .slice U0 o0 q0], .agg #[.bool b1, .slice A1 n1 c1, .slice B1 m1 d1, .bool p1, .slice V1 r1 k1, .slice U1 o1 q1]] W (GotV W (.tuple #[.agg #[.bool false, .slice none 0 0, .slice none 0 0, .bool false, .slice none 0 0, .slice none 0 0], .int .i64 4])) := fun a b c d => idiv_no a b (s0.le (by omega)) (t0.le (by omega)) c d (s1.le (by omega)) (t1.le (by omega)) hz
  have DR : ∀ {W : World} {b0 p0 : Bool} {A0 B0 V0 U0 : Option Addr} {n0 c0 m0 d0 r0 k0 o0 q0 : Nat} {b1 p1 : Bool} {A1 B1 V1 U1 : Option Addr} {n1 c1 m1 d1 r1 k1 o1 q1 : Nat}, Rt W b0 A0 n0 c0 B0 m0 d0 x0 → Rt W p0 V0 r0 k0 U0 o0 q0 y0 → Rt W b1 A1 n1 c1 B1 m1 d1 x1 → Rt W p1 V1 r1 k1 U1 o1 q1 y1 → Calls Tryz.prog 23 #[.agg #[.bool b0, .slice A0 n0 c0, .slice B0 m0 d0, .bool p0, .slice V0 r0 k0, .slice U0 o0 q0], .agg #[.bool b1, .slice A1 n1 c1, .slice B1 m1 d1, .bool p1, .slice V1 r1 k1, .slice U1 o1 q1]] W (GotV W (.tuple #[.agg #[.bool false, .slice none 0 0, .slice none 0 0, .bool false, .slice none 0 0, .slice none 0 0], .int .i64 4])) := fun a b c d => stdiv_no a b (s0.le (by omega)) (t0.le (by omega)) c d (s1.le (by omega)) (t1.le (by omega)) hz
  clear e1 e2 hz
  have cc := Below.refl w.heap.size w
  go_enter Tryz.func4, Tryz.ntmps4
  go_wp2_with fail
  generalize hv_ : (w.alloc (.cells #[.bool b0, .slice A0 n0 c0, .slice B0 m0 d0, .bool p0, .slice V0 r0 k0, .slice U0 o0 q0] 29)).alloc (.cells #[.bool b1, .slice A1 n1 c1, .slice B1 m1 d1, .bool p1, .slice V1 r1 k1, .slice U1 o1 q1] 29) = v1
  have bA : Below w.heap.size w v1 := by rw [← hv_]; exact (((Below.refl _ w).alloc (by simp) _).alloc (by simp) _)
  replace h0 := h0.on bA
  replace g0 := g0.on bA
  replace h1 := h1.on bA
  replace g1 := g1.on bA
  replace cc := bK cc bA
  clear bA
  obtain ⟨pa0, pa1, pa2, pa3, pa4, pa5⟩ : Cs6 v1 w.heap.size (.bool b0) (.slice A0 n0 c0) (.slice B0 m0 d0) (.bool p0) (.slice V0 r0 k0) (.slice U0 o0 q0) := by simp [Cs6, ← hv_, go_sem]
  have pal : w.heap.size < v1.heap.size := by simp [← hv_] <;> omega
  obtain ⟨pb0, pb1, pb2, pb3, pb4, pb5⟩ : Cs6 v1 (w.heap.size + 1) (.bool b1) (.slice A1 n1 c1) (.slice B1 m1 d1) (.bool p1) (.slice V1 r1 k1) (.slice U1 o1 q1) := by simp [Cs6, ← hv_, go_sem]
  have pbl : w.heap.size + 1 < v1.heap.size := by simp [← hv_] <;> omega
  clear hv_
  refine (G0 _ cc).mono ?_
  rintro e w2 ⟨rfl, b⟩
  replace h0 := h0.on b
  replace g0 := g0.on b
  replace h1 := h1.on b
  replace g1 := g1.on b
  rewrite [cR b pal] at pa0 pa1 pa2 pa3 pa4 pa5
  replace pal := lK b pal
  rewrite [cR b pbl] at pb0 pb1 pb2 pb3 pb4 pb5
  replace pbl := lK b pbl
  replace cc := bK cc b
  clear b
  go_wp2_with fail
  refine (G1 _ cc).mono ?_
  rintro e w3 ⟨rfl, b⟩
  replace h0 := h0.on b
  replace g0 := g0.on b
  replace h1 := h1.on b
  replace g1 := g1.on b
  rewrite [cR b pal] at pa0 pa1 pa2 pa3 pa4 pa5
  replace pal := lK b pal
  rewrite [cR b pbl] at pb0 pb1 pb2 pb3 pb4 pb5
  replace pbl := lK b pbl
  replace cc := bK cc b
  clear b
  go_wp2_with fail
  refine (DI h0 g0 h1 g1).mono ?_
  rintro e w4 ⟨rfl, b⟩
  replace h0 := h0.on b
  replace g0 := g0.on b
  replace h1 := h1.on b
  replace g1 := g1.on b
  rewrite [cR b pal] at pa0 pa1 pa2 pa3 pa4 pa5
  replace pal := lK b pal
  rewrite [cR b pbl] at pb0 pb1 pb2 pb3 pb4 pb5
  replace pbl := lK b pbl
  replace cc := bK cc b
  clear b
  go_wp2_with fail
  generalize hv_ : w4.alloc (.cells #[.bool false, .slice none 0 0, .slice none 0 0, .bool false, .slice none 0 0, .slice none 0 0] 29) = v5
  have bA : Below w4.heap.size w4 v5 := by rw [← hv_]; exact below_one _ _
  replace h0 := h0.on bA
  replace g0 := g0.on bA
  replace h1 := h1.on bA
  replace g1 := g1.on bA
  rewrite [cR bA pal] at pa0 pa1 pa2 pa3 pa4 pa5
  replace pal := lK bA pal
  rewrite [cR bA pbl] at pb0 pb1 pb2 pb3 pb4 pb5
  replace pbl := lK bA pbl
  replace cc := bK cc bA
  clear bA
  obtain ⟨x0, x1, x2, x3, x4, x5⟩ : Cs6 v5 w4.heap.size (.bool false) (.slice none 0 0) (.slice none 0 0) (.bool false) (.slice none 0 0) (.slice none 0 0) := by simp [Cs6, ← hv_, go_sem]
  have xl : w4.heap.size < v5.heap.size := by simp [← hv_]
  clear hv_
  go_wp2_with fail
  refine (DR h0 g0 h1 g1).mono ?_
  rintro e w6 ⟨rfl, b⟩
  replace h0 := h0.on b
  replace g0 := g0.on b
  replace h1 := h1.on b
  replace g1 := g1.on b
  rewrite [cR b pal] at pa0 pa1 pa2 pa3 pa4 pa5
  replace pal := lK b pal
  rewrite [cR b pbl] at pb0 pb1 pb2 pb3 pb4 pb5
  replace pbl := lK b pbl
  rewrite [cR b xl] at x0 x1 x2 x3 x4 x5
  replace xl := lK b xl
  replace cc := bK cc b
  clear b
  go_wp2_with fail
  generalize hv_ : w6.alloc (.cells #[.bool false, .slice none 0 0, .slice none 0 0, .bool false, .slice none 0 0, .slice none 0 0] 29) = v7
  have bA : Below w6.heap.size w6 v7 := by rw [← hv_]; exact below_one _ _
  replace h0 := h0.on bA
  replace g0 := g0.on bA
  replace h1 := h1.on bA
  replace g1 := g1.on bA
  rewrite [cR bA pal] at pa0 pa1 pa2 pa3 pa4 pa5
  replace pal := lK bA pal
  rewrite [cR bA pbl] at pb0 pb1 pb2 pb3 pb4 pb5
  replace pbl := lK bA pbl
  rewrite [cR bA xl] at x0 x1 x2 x3 x4 x5
  replace xl := lK bA xl
  replace cc := bK cc bA
  clear bA
  obtain ⟨l0, l1, l2, l3, l4, l5⟩ : Cs6 v7 w6.heap.size (.bool false) (.slice none 0 0) (.slice none 0 0) (.bool false) (.slice none 0 0) (.slice none 0 0) := by simp [Cs6, ← hv_, go_sem]
  have ll : w6.heap.size < v7.heap.size := by simp [← hv_]
  clear hv_
  go_wp2_with fail
  have bD : Below v7.heap.size v7 v7.drew := below_drewN (Below.refl _ v7) 1
  replace h0 := h0.on bD
  replace g0 := g0.on bD
  replace h1 := h1.on bD
  replace g1 := g1.on bD
  rewrite [cR bD pal] at pa0 pa1 pa2 pa3 pa4 pa5
  replace pal := lK bD pal
  rewrite [cR bD pbl] at pb0 pb1 pb2 pb3 pb4 pb5
  replace pbl := lK bD pbl
  rewrite [cR bD xl] at x0 x1 x2 x3 x4 x5
  replace xl := lK bD xl
  rewrite [cR bD ll] at l0 l1 l2 l3 l4 l5
  replace ll := lK bD ll
  replace cc := bK cc bD
  clear bD
  refine wp_region_held_drew (S := fun w' => w'.cell? ⟨w.heap.size, 0, none⟩ = some (.bool b0) ∧ w'.cell? ⟨w.heap.size, 1, none⟩ = some (.slice A0 n0 c0) ∧ w'.cell? ⟨w.heap.size, 2, none⟩ = some (.slice B0 m0 d0) ∧ w'.cell? ⟨w.heap.size, 3, none⟩ = some (.bool p0) ∧ w'.cell? ⟨w.heap.size, 4, none⟩ = some (.slice V0 r0 k0) ∧ w'.cell? ⟨w.heap.size, 5, none⟩ = some (.slice U0 o0 q0) ∧ w'.cell? ⟨w.heap.size + 1, 0, none⟩ = some (.bool b1) ∧ w'.cell? ⟨w.heap.size + 1, 1, none⟩ = some (.slice A1 n1 c1) ∧ w'.cell? ⟨w.heap.size + 1, 2, none⟩ = some (.slice B1 m1 d1) ∧ w'.cell? ⟨w.heap.size + 1, 3, none⟩ = some (.bool p1) ∧ w'.cell? ⟨w.heap.size + 1, 4, none⟩ = some (.slice V1 r1 k1) ∧ w'.cell? ⟨w.heap.size + 1, 5, none⟩ = some (.slice U1 o1 q1) ∧ w'.cell? ⟨w4.heap.size, 0, none⟩ = some (.bool false) ∧ w'.cell? ⟨w4.heap.size, 1, none⟩ = some (.slice none 0 0) ∧ w'.cell? ⟨w4.heap.size, 2, none⟩ = some (.slice none 0 0) ∧ w'.cell? ⟨w4.heap.size, 3, none⟩ = some (.bool false) ∧ w'.cell? ⟨w4.heap.size, 4, none⟩ = some (.slice none 0 0) ∧ w'.cell? ⟨w4.heap.size, 5, none⟩ = some (.slice none 0 0) ∧ w'.cell? ⟨w6.heap.size, 0, none⟩ = some (.bool false) ∧ w'.cell? ⟨w6.heap.size, 1, none⟩ = some (.slice none 0 0) ∧ w'.cell? ⟨w6.heap.size, 2, none⟩ = some (.slice none 0 0) ∧ w'.cell? ⟨w6.heap.size, 3, none⟩ = some (.bool false) ∧ w'.cell? ⟨w6.heap.size, 4, none⟩ = some (.slice none 0 0) ∧ w'.cell? ⟨w6.heap.size, 5, none⟩ = some (.slice none 0 0)) (by kernel_rfl) ?_ (fun hHeld => ?_)
  · exact ⟨pa0, pa1, pa2, pa3, pa4, pa5, pb0, pb1, pb2, pb3, pb4, pb5, x0, x1, x2, x3, x4, x5, l0, l1, l2, l3, l4, l5⟩
  refine wpAnyH_ready (rs := [0]) (by kernel_rfl) (by simp) ?_
  refine AllReadyH.cons rfl (fun K hK => ?_) AllReadyH.nil
  (try simp only [pT])
  rw [if_pos (by rfl)]
  go_simp
  go_at_call 11
  refine (alive7_any _).mono ?_
  rintro e w8 ⟨rfl, b⟩
  replace h0 := h0.on b
  replace g0 := g0.on b
  replace h1 := h1.on b
  replace g1 := g1.on b
  rewrite [cR b pal] at pa0 pa1 pa2 pa3 pa4 pa5
  replace pal := lK b pal
  rewrite [cR b pbl] at pb0 pb1 pb2 pb3 pb4 pb5
  replace pbl := lK b pbl
  rewrite [cR b xl] at x0 x1 x2 x3 x4 x5
  replace xl := lK b xl
  rewrite [cR b ll] at l0 l1 l2 l3 l4 l5
  replace ll := lK b ll
  replace cc := bK cc b
  clear b
  refine hK.out _ _ ?_ (fun hHeld => ?_)
  · exact ⟨pa0, pa1, pa2, pa3, pa4, pa5, pb0, pb1, pb2, pb3, pb4, pb5, x0, x1, x2, x3, x4, x5, l0, l1, l2, l3, l4, l5⟩
  clear hK K
  try simp only [Act.put, pT]
  refine wpAnyH_take (i := 1) (v := ?_) rfl (by kernel_rfl) (by kernel_rfl) (by kernel_rfl) (fun _ _ _ h => h) (Or.inl ⟨by rfl, ?_⟩) hHeld ?_
  rotate_left
  · (intro w hSw; (try dsimp only at hSw); go_simp; (try with_reducible rfl))
  try simp only [Act.put, pT]
  refine wpAnyH_take (i := 2) (v := ?_) rfl (by kernel_rfl) (by kernel_rfl) (by kernel_rfl) (fun _ _ _ h => h) (Or.inl ⟨by rfl, ?_⟩) hHeld ?_
  rotate_left
  · (intro w hSw; (try dsimp only at hSw); go_simp; (try with_reducible rfl))
  try simp only [Act.put, pT]
  refine wpAnyH_take (i := 3) (v := ?_) rfl (by kernel_rfl) (by kernel_rfl) (by kernel_rfl) (fun _ _ _ h => h) (Or.inl ⟨by rfl, ?_⟩) hHeld ?_
  rotate_left
  · (intro w hSw; (try dsimp only at hSw); go_simp; (try with_reducible rfl))
  try simp only [Act.put, pT]
  refine wpAnyH_take (i := 5) (v := ?_) rfl (by kernel_rfl) (by kernel_rfl) (by kernel_rfl) (fun _ _ _ h => h) (Or.inl ⟨by rfl, ?_⟩) hHeld ?_
  rotate_left
  · (intro w hSw; (try dsimp only at hSw); go_simp; (try with_reducible rfl))
  try simp only [Act.put, pT]
  refine wpAnyH_take (i := 6) (v := ?_) rfl (by kernel_rfl) (by kernel_rfl) (by kernel_rfl) (fun _ _ _ h => h) (Or.inl ⟨by rfl, ?_⟩) hHeld ?_
  rotate_left
  · (intro w hSw; (try dsimp only at hSw); go_simp; (try with_reducible rfl))
  try simp only [Act.put, pT]
  refine wpAnyH_ready (rs := [4]) (by kernel_rfl) (by simp) ?_
  refine AllReadyH.cons rfl (fun K hK => ?_) AllReadyH.nil
  (try simp only [pT])
  rw [if_pos (by rfl)]
  go_simp
  go_at_call 24
  refine (iadd_N h0 g0 (s0.le (by omega)) (t0.le (by omega)) h1 g1 (s1.le (by omega)) (t1.le (by omega))).mono ?_
  rintro e w9 ⟨bj, Aj, nj, cj, Bj, mj, dj, pj, Vj, rj, kj, Uj, oj, qj, rfl, ⟨hj, gj⟩, b⟩
  replace h0 := h0.on b
  replace g0 := g0.on b
  replace h1 := h1.on b
  replace g1 := g1.on b
  rewrite [cR b pal] at pa0 pa1 pa2 pa3 pa4 pa5
  replace pal := lK b pal
  rewrite [cR b pbl] at pb0 pb1 pb2 pb3 pb4 pb5
  replace pbl := lK b pbl
  rewrite [cR b xl] at x0 x1 x2 x3 x4 x5
  replace xl := lK b xl
  rewrite [cR b ll] at l0 l1 l2 l3 l4 l5
  replace ll := lK b ll
  replace cc := bK cc b
  clear b
  refine hK.out _ _ ?_ (fun hHeld => ?_)
  · exact ⟨pa0, pa1, pa2, pa3, pa4, pa5, pb0, pb1, pb2, pb3, pb4, pb5, x0, x1, x2, x3, x4, x5, l0, l1, l2, l3, l4, l5⟩
  clear hK K
  try simp only [Act.put, pT]
  refine wpAnyH_ready (rs := [7]) (by kernel_rfl) (by simp) ?_
  refine AllReadyH.cons rfl (fun K hK => ?_) AllReadyH.nil
  (try simp only [pT])
  rw [if_pos (by rfl)]
  go_simp
  go_at_call 25
  refine (stadd_N h0 g0 (s0.le (by omega)) (t0.le (by omega)) h1 g1 (s1.le (by omega)) (t1.le (by omega))).mono ?_
  rintro e w10 ⟨bu, Au, nu, cu, Bu, mu, du, pu, Vu, ru, ku, Uu, ou, qu, rfl, ⟨hu, gu⟩, b⟩
  replace h0 := h0.on b
  replace g0 := g0.on b
  replace h1 := h1.on b
  replace g1 := g1.on b
  replace hj := hj.on b
  replace gj := gj.on b
  rewrite [cR b pal] at pa0 pa1 pa2 pa3 pa4 pa5
  replace pal := lK b pal
  rewrite [cR b pbl] at pb0 pb1 pb2 pb3 pb4 pb5
  replace pbl := lK b pbl
  rewrite [cR b xl] at x0 x1 x2 x3 x4 x5
  replace xl := lK b xl
  rewrite [cR b ll] at l0 l1 l2 l3 l4 l5
  replace ll := lK b ll
  replace cc := bK cc b
  clear b
  refine hK.out _ _ ?_ (fun hHeld => ?_)
  · exact ⟨pa0, pa1, pa2, pa3, pa4, pa5, pb0, pb1, pb2, pb3, pb4, pb5, x0, x1, x2, x3, x4, x5, l0, l1, l2, l3, l4, l5⟩
  clear hK K
  try simp only [Act.put, pT]
  refine wpAnyH_ready (rs := [8]) (by kernel_rfl) (by simp) ?_
  refine AllReadyH.cons rfl (fun K hK => ?_) AllReadyH.nil
  (try simp only [pT])
  rw [if_pos (by rfl)]
  go_simp
  go_at_call 14
  refine (stsame_N hj gj (za_.le (by omega)) (zb_.le (by omega)) hu gu (za_.le (by omega)) (zb_.le (by omega)) true two_eq).mono ?_
  rintro e w11 ⟨rfl, b⟩
  replace h0 := h0.on b
  replace g0 := g0.on b
  replace h1 := h1.on b
  replace g1 := g1.on b
  replace hj := hj.on b
  replace gj := gj.on b
  replace hu := hu.on b
  replace gu := gu.on b
  rewrite [cR b pal] at pa0 pa1 pa2 pa3 pa4 pa5
  replace pal := lK b pal
  rewrite [cR b pbl] at pb0 pb1 pb2 pb3 pb4 pb5
  replace pbl := lK b pbl
  rewrite [cR b xl] at x0 x1 x2 x3 x4 x5
  replace xl := lK b xl
  rewrite [cR b ll] at l0 l1 l2 l3 l4 l5
  replace ll := lK b ll
  replace cc := bK cc b
  clear b
  refine hK.out _ _ ?_ (fun hHeld => ?_)
  · exact ⟨pa0, pa1, pa2, pa3, pa4, pa5, pb0, pb1, pb2, pb3, pb4, pb5, x0, x1, x2, x3, x4, x5, l0, l1, l2, l3, l4, l5⟩
  clear hK K
  try simp only [Act.put, pT]
  refine wpAnyH_take (i := 9) (v := ?_) rfl (by kernel_rfl) (by kernel_rfl) (by kernel_rfl) (fun _ _ _ h => h) (Or.inl ⟨by rfl, ?_⟩) hHeld ?_
  rotate_left
  · (intro w hSw; (try dsimp only at hSw); go_simp; (try with_reducible rfl))
  try simp only [Act.put, pT]
  refine wpAnyH_take (i := 10) (v := ?_) rfl (by kernel_rfl) (by kernel_rfl) (by kernel_rfl) (fun _ _ _ h => h) (Or.inl ⟨by rfl, ?_⟩) hHeld ?_
  rotate_left
  · (intro w hSw; (try dsimp only at hSw); go_simp; (try with_reducible rfl))
  try simp only [Act.put, pT]
  refine wpAnyH_take (i := 11) (v := ?_) rfl (by kernel_rfl) (by kernel_rfl) (by kernel_rfl) (fun _ _ _ h => h) (Or.inl ⟨by rfl, ?_⟩) hHeld ?_
  rotate_left
  · (intro w hSw; (try dsimp only at hSw); go_simp; (try with_reducible rfl))
  try simp only [Act.put, pT]
  refine wpAnyH_take (i := 12) (v := ?_) rfl (by kernel_rfl) (by kernel_rfl) (by kernel_rfl) (fun _ _ _ h => h) (Or.inl ⟨by rfl, ?_⟩) hHeld ?_
  rotate_left
  · (intro w hSw; (try dsimp only at hSw); go_simp; (try with_reducible rfl))
  try simp only [Act.put, pT]
  refine wpAnyH_take (i := 14) (v := ?_) rfl (by kernel_rfl) (by kernel_rfl) (by kernel_rfl) (fun _ _ _ h => h) (Or.inl ⟨by rfl, ?_⟩) hHeld ?_
  rotate_left
  · (intro w hSw; (try dsimp only at hSw); go_simp; (try with_reducible rfl))
  try simp only [Act.put, pT]
  refine wpAnyH_take (i := 15) (v := ?_) rfl (by kernel_rfl) (by kernel_rfl) (by kernel_rfl) (fun _ _ _ h => h) (Or.inl ⟨by rfl, ?_⟩) hHeld ?_
  rotate_left
  · (intro w hSw; (try dsimp only at hSw); go_simp; (try with_reducible rfl))
  try simp only [Act.put, pT]
  refine wpAnyH_ready (rs := [13]) (by kernel_rfl) (by simp) ?_
  refine AllReadyH.cons rfl (fun K hK => ?_) AllReadyH.nil
  (try simp only [pT])
  rw [if_pos (by rfl)]
  go_simp
  go_at_call 26
  refine (MI h0 g0 h1 g1).mono ?_
  rintro e w12 ⟨bw, Aw, nw, cw, Bw, mw, dw, pw, Vw, rw, kw, Uw, ow, qw, rfl, ⟨hw, gw⟩, b⟩
  replace h0 := h0.on b
  replace g0 := g0.on b
  replace h1 := h1.on b
  replace g1 := g1.on b
  replace hj := hj.on b
  replace gj := gj.on b
  replace hu := hu.on b
  replace gu := gu.on b
  rewrite [cR b pal] at pa0 pa1 pa2 pa3 pa4 pa5
  replace pal := lK b pal
  rewrite [cR b pbl] at pb0 pb1 pb2 pb3 pb4 pb5
  replace pbl := lK b pbl
  rewrite [cR b xl] at x0 x1 x2 x3 x4 x5
  replace xl := lK b xl
  rewrite [cR b ll] at l0 l1 l2 l3 l4 l5
  replace ll := lK b ll
  replace cc := bK cc b
  clear b
  refine hK.out _ _ ?_ (fun hHeld => ?_)
  · exact ⟨pa0, pa1, pa2, pa3, pa4, pa5, pb0, pb1, pb2, pb3, pb4, pb5, x0, x1, x2, x3, x4, x5, l0, l1, l2, l3, l4, l5⟩
  clear hK K
  try simp only [Act.put, pT]
  refine wpAnyH_ready (rs := [16]) (by kernel_rfl) (by simp) ?_
  refine AllReadyH.cons rfl (fun K hK => ?_) AllReadyH.nil
  (try simp only [pT])
  rw [if_pos (by rfl)]
  go_simp
  go_at_call 27
  refine (MR h0 g0 h1 g1).mono ?_
  rintro e w13 ⟨bz, Az, nz, cz, Bz, mz, dz, pz, Vz, rz, kz, Uz, oz, qz, rfl, ⟨hz_, gz_⟩, b⟩
  replace h0 := h0.on b
  replace g0 := g0.on b
  replace h1 := h1.on b
  replace g1 := g1.on b
  replace hj := hj.on b
  replace gj := gj.on b
  replace hu := hu.on b
  replace gu := gu.on b
  replace hw := hw.on b
  replace gw := gw.on b
  rewrite [cR b pal] at pa0 pa1 pa2 pa3 pa4 pa5
  replace pal := lK b pal
  rewrite [cR b pbl] at pb0 pb1 pb2 pb3 pb4 pb5
  replace pbl := lK b pbl
  rewrite [cR b xl] at x0 x1 x2 x3 x4 x5
  replace xl := lK b xl
  rewrite [cR b ll] at l0 l1 l2 l3 l4 l5
  replace ll := lK b ll
  replace cc := bK cc b
  clear b
  refine hK.out _ _ ?_ (fun hHeld => ?_)
  · exact ⟨pa0, pa1, pa2, pa3, pa4, pa5, pb0, pb1, pb2, pb3, pb4, pb5, x0, x1, x2, x3, x4, x5, l0, l1, l2, l3, l4, l5⟩
  clear hK K
  try simp only [Act.put, pT]
  refine wpAnyH_ready (rs := [17]) (by kernel_rfl) (by simp) ?_
  refine AllReadyH.cons rfl (fun K hK => ?_) AllReadyH.nil
  (try simp only [pT])
  rw [if_pos (by rfl)]
  go_simp
  go_at_call 14
  refine (stsame_N hw gw (zl_.le (by omega)) (zh_.le (by omega)) hz_ gz_ (zl_.le (by omega)) (zh_.le (by omega)) true two_eq).mono ?_
  rintro e w14 ⟨rfl, b⟩
  replace h0 := h0.on b
  replace g0 := g0.on b
  replace h1 := h1.on b
  replace g1 := g1.on b
  replace hj := hj.on b
  replace gj := gj.on b
  replace hu := hu.on b
  replace gu := gu.on b
  replace hw := hw.on b
  replace gw := gw.on b
  replace hz_ := hz_.on b
  replace gz_ := gz_.on b
  rewrite [cR b pal] at pa0 pa1 pa2 pa3 pa4 pa5
  replace pal := lK b pal
  rewrite [cR b pbl] at pb0 pb1 pb2 pb3 pb4 pb5
  replace pbl := lK b pbl
  rewrite [cR b xl] at x0 x1 x2 x3 x4 x5
  replace xl := lK b xl
  rewrite [cR b ll] at l0 l1 l2 l3 l4 l5
  replace ll := lK b ll
  replace cc := bK cc b
  clear b
  refine hK.out _ _ ?_ (fun hHeld => ?_)
  · exact ⟨pa0, pa1, pa2, pa3, pa4, pa5, pb0, pb1, pb2, pb3, pb4, pb5, x0, x1, x2, x3, x4, x5, l0, l1, l2, l3, l4, l5⟩
  clear hK K
  try simp only [Act.put, pT]
  refine wpAnyH_take (i := 18) (v := ?_) rfl (by kernel_rfl) (by kernel_rfl) (by kernel_rfl) (fun _ _ _ h => h) (Or.inl ⟨by rfl, ?_⟩) hHeld ?_
  rotate_left
  · (intro w hSw; (try dsimp only at hSw); go_simp; (try with_reducible rfl))
  try simp only [Act.put, pT]
  refine wpAnyH_take (i := 19) (v := ?_) rfl (by kernel_rfl) (by kernel_rfl) (by kernel_rfl) (fun _ _ _ h => h) (Or.inl ⟨by rfl, ?_⟩) hHeld ?_
  rotate_left
  · (intro w hSw; (try dsimp only at hSw); go_simp; (try with_reducible rfl))
  try simp only [Act.put, pT]
  refine wpAnyH_take (i := 20) (v := ?_) rfl (by kernel_rfl) (by kernel_rfl) (by kernel_rfl) (fun _ _ _ h => h) (Or.inl ⟨by rfl, ?_⟩) hHeld ?_
  rotate_left
  · (intro w hSw; (try dsimp only at hSw); go_simp; (try with_reducible rfl))
  try simp only [Act.put, pT]
  refine wpAnyH_take (i := 21) (v := ?_) rfl (by kernel_rfl) (by kernel_rfl) (by kernel_rfl) (fun _ _ _ h => h) (Or.inl ⟨by rfl, ?_⟩) hHeld ?_
  rotate_left
  · (intro w hSw; (try dsimp only at hSw); go_simp; (try with_reducible rfl))
  try simp only [Act.put, pT]
  refine wpAnyH_ready (rs := [22]) (by kernel_rfl) (by simp) ?_
  refine AllReadyH.cons rfl (fun K hK => ?_) AllReadyH.nil
  (try simp only [pT])
  rw [if_pos (by rfl)]
  go_simp
  go_at_call 14
  refine (stsame_none _).mono ?_
  rintro e w15 ⟨rfl, b⟩
  replace h0 := h0.on b
  replace g0 := g0.on b
  replace h1 := h1.on b
  replace g1 := g1.on b
  replace hj := hj.on b
  replace gj := gj.on b
  replace hu := hu.on b
  replace gu := gu.on b
  replace hw := hw.on b
  replace gw := gw.on b
  replace hz_ := hz_.on b
  replace gz_ := gz_.on b
  rewrite [cR b pal] at pa0 pa1 pa2 pa3 pa4 pa5
  replace pal := lK b pal
  rewrite [cR b pbl] at pb0 pb1 pb2 pb3 pb4 pb5
  replace pbl := lK b pbl
  rewrite [cR b xl] at x0 x1 x2 x3 x4 x5
  replace xl := lK b xl
  rewrite [cR b ll] at l0 l1 l2 l3 l4 l5
  replace ll := lK b ll
  replace cc := bK cc b
  clear b
  refine hK.out _ _ ?_ (fun hHeld => ?_)
  · exact ⟨pa0, pa1, pa2, pa3, pa4, pa5, pb0, pb1, pb2, pb3, pb4, pb5, x0, x1, x2, x3, x4, x5, l0, l1, l2, l3, l4, l5⟩
  clear hK K
  try simp only [Act.put, pT]
  refine wpAnyH_take (i := 23) (v := ?_) rfl (by kernel_rfl) (by kernel_rfl) (by kernel_rfl) (fun _ _ _ h => h) (Or.inl ⟨by rfl, ?_⟩) hHeld ?_
  rotate_left
  · (intro w hSw; (try dsimp only at hSw); go_simp; (try with_reducible rfl))
  try simp only [Act.put, pT]
  refine wpAnyH_take (i := 24) (v := ?_) rfl (by kernel_rfl) (by kernel_rfl) (by kernel_rfl) (fun _ _ _ h => h) (Or.inl ⟨by rfl, ?_⟩) hHeld ?_
  rotate_left
  · (intro w hSw; (try dsimp only at hSw); go_simp; (try with_reducible rfl))
  try simp only [Act.put, pT]
  refine wpAnyH_take (i := 25) (v := ?_) rfl (by kernel_rfl) (by kernel_rfl) (by kernel_rfl) (fun _ _ _ h => h) (Or.inl ⟨by rfl, ?_⟩) hHeld ?_
  rotate_left
  · (intro w hSw; (try dsimp only at hSw); go_simp; (try with_reducible rfl))
  try simp only [Act.put, pT]
  refine wpAnyH_take (i := 26) (v := ?_) rfl (by kernel_rfl) (by kernel_rfl) (by kernel_rfl) (fun _ _ _ h => h) (Or.inl ⟨by rfl, ?_⟩) hHeld ?_
  rotate_left
  · (intro w hSw; (try dsimp only at hSw); go_simp; (try with_reducible rfl))
  try simp only [Act.put, pT]
  refine wpAnyH_take (i := 27) (v := ?_) rfl (by kernel_rfl) (by kernel_rfl) (by kernel_rfl) (fun _ _ _ h => h) (Or.inl ⟨by rfl, ?_⟩) hHeld ?_
  rotate_left
  · (intro w hSw; (try dsimp only at hSw); go_simp; (try with_reducible rfl))
  try simp only [Act.put, pT]
  refine wpAnyH_take (i := 28) (v := ?_) rfl (by kernel_rfl) (by kernel_rfl) (by kernel_rfl) (fun _ _ _ h => h) (Or.inl ⟨by rfl, ?_⟩) hHeld ?_
  rotate_left
  · (intro w hSw; (try dsimp only at hSw); go_simp; (try with_reducible rfl))
  try simp only [Act.put, pT]
  refine wpAnyH_take (i := 29) (v := ?_) rfl (by kernel_rfl) (by kernel_rfl) (by kernel_rfl) (fun _ _ _ h => h) (Or.inl ⟨by rfl, ?_⟩) hHeld ?_
  rotate_left
  · (intro w hSw; (try dsimp only at hSw); go_simp; (try with_reducible rfl))
  try simp only [Act.put, pT]
  refine wpAnyH_done (by kernel_rfl) ?_ _
  clear hHeld
  go_wp2_with fail
  go_ret
  exact ⟨rfl, cc⟩

theorem IvalReckons_ok {w : World} {b0 p0 : Bool} {A0 B0 V0 U0 : Option Addr} {n0 c0 m0 d0 r0 k0 o0 q0 : Nat} {b1 p1 : Bool} {A1 B1 V1 U1 : Option Addr} {n1 c1 m1 d1 r1 k1 o1 q1 : Nat} {x0 y0 : Rat} (h0 : Rt w b0 A0 n0 c0 B0 m0 d0 x0) (g0 : Rt w p0 V0 r0 k0 U0 o0 q0 y0) (s0 : Sz x0 3) (t0 : Sz y0 3) {x1 y1 : Rat} (h1 : Rt w b1 A1 n1 c1 B1 m1 d1 x1) (g1 : Rt w p1 V1 r1 k1 U1 o1 q1 y1) (s1 : Sz x1 3) (t1 : Sz y1 3) (G0 : ∀ W : World, Below w.heap.size w W → Calls Tryz.prog 17 #[.agg #[.bool b0, .slice A0 n0 c0, .slice B0 m0 d0, .bool p0, .slice V0 r0 k0, .slice U0 o0 q0], .int .i64 3] W (GotV W (.bool true))) (G1 : ∀ W : World, Below w.heap.size w W → Calls Tryz.prog 17 #[.agg #[.bool b1, .slice A1 n1 c1, .slice B1 m1 d1, .bool p1, .slice V1 r1 k1, .slice U1 o1 q1], .int .i64 3] W (GotV W (.bool true))) (hx : x1.num ≠ 0) (hy : y1.num ≠ 0) (hz : decide (x1 ≤ ((0 : Int) : Rat) ∧ ((0 : Int) : Rat) ≤ y1) = false) :
    Calls Tryz.prog 4 #[.agg #[.bool b0, .slice A0 n0 c0, .slice B0 m0 d0, .bool p0, .slice V0 r0 k0, .slice U0 o0 q0], .agg #[.bool b1, .slice A1 n1 c1, .slice B1 m1 d1, .bool p1, .slice V1 r1 k1, .slice U1 o1 q1]] w (fun e w' => e = .returned (.bool true) ∧ Below w.heap.size w w') := by
  obtain ⟨zl_, zh_⟩ := mlo_sz s0 t0 s1 t1
  obtain ⟨ml, e1⟩ : ∃ r, mlo x0 y0 x1 y1 = r := ⟨_, rfl⟩
  obtain ⟨mh, e2⟩ : ∃ r, mhi x0 y0 x1 y1 = r := ⟨_, rfl⟩
  rw [e1] at zl_
  rw [e2] at zh_
  have za_ := s0.add s1
  have zb_ := t0.add t1
  have MI : ∀ {W : World} {b0 p0 : Bool} {A0 B0 V0 U0 : Option Addr} {n0 c0 m0 d0 r0 k0 o0 q0 : Nat} {b1 p1 : Bool} {A1 B1 V1 U1 : Option Addr} {n1 c1 m1 d1 r1 k1 o1 q1 : Nat}, Rt W b0 A0 n0 c0 B0 m0 d0 x0 → Rt W p0 V0 r0 k0 U0 o0 q0 y0 → Rt W b1 A1 n1 c1 B1 m1 d1 x1 → Rt W p1 V1 r1 k1 U1 o1 q1 y1 → Calls Tryz.prog 26 #[.agg #[.bool b0, .slice A0 n0 c0, .slice B0 m0 d0, .bool p0, .slice V0 r0 k0, .slice U0 o0 q0], .agg #[.bool b1, .slice A1 n1 c1, .slice B1 m1 d1, .bool p1, .slice V1 r1 k1, .slice U1 o1 q1]] W (GotSt W ml mh) := fun a b c d => by rw [← e1, ← e2]; exact imul_N a b (s0.le (by omega)) (t0.le (by omega)) c d (s1.le (by omega)) (t1.le (by omega))
  have MR : ∀ {W : World} {b0 p0 : Bool} {A0 B0 V0 U0 : Option Addr} {n0 c0 m0 d0 r0 k0 o0 q0 : Nat} {b1 p1 : Bool} {A1 B1 V1 U1 : Option Addr} {n1 c1 m1 d1 r1 k1 o1 q1 : Nat}, Rt W b0 A0 n0 c0 B0 m0 d0 x0 → Rt W p0 V0 r0 k0 U0 o0 q0 y0 → Rt W b1 A1 n1 c1 B1 m1 d1 x1 → Rt W p1 V1 r1 k1 U1 o1 q1 y1 → Calls Tryz.prog 27 #[.agg #[.bool b0, .slice A0 n0 c0, .slice B0 m0 d0, .bool p0, .slice V0 r0 k0, .slice U0 o0 q0], .agg #[.bool b1, .slice A1 n1 c1, .slice B1 m1 d1, .bool p1, .slice V1 r1 k1, .slice U1 o1 q1]] W (GotSt W ml mh) := fun a b c d => by rw [← e1, ← e2]; exact stmul_N a b (s0.le (by omega)) (t0.le (by omega)) c d (s1.le (by omega)) (t1.le (by omega))
  have one : Sz ((1 : Int) : Rat) 1 := sz_of (len_one (by decide))
  obtain ⟨zd_, ze_⟩ := mlo_sz s0 t0 (one.div t1 hy) (one.div s1 hx)
  obtain ⟨dl, e3⟩ : ∃ r, mlo x0 y0 (((1 : Int) : Rat) / y1) (((1 : Int) : Rat) / x1) = r := ⟨_, rfl⟩
  obtain ⟨dh, e4⟩ : ∃ r, mhi x0 y0 (((1 : Int) : Rat) / y1) (((1 : Int) : Rat) / x1) = r := ⟨_, rfl⟩
  rw [e3] at zd_
  rw [e4] at ze_
  have DI : ∀ {W : World} {b0 p0 : Bool} {A0 B0 V0 U0 : Option Addr} {n0 c0 m0 d0 r0 k0 o0 q0 : Nat} {b1 p1 : Bool} {A1 B1 V1 U1 : Option Addr} {n1 c1 m1 d1 r1 k1 o1 q1 : Nat}, Rt W b0 A0 n0 c0 B0 m0 d0 x0 → Rt W p0 V0 r0 k0 U0 o0 q0 y0 → Rt W b1 A1 n1 c1 B1 m1 d1 x1 → Rt W p1 V1 r1 k1 U1 o1 q1 y1 → Calls Tryz.prog 22 #[.agg #[.bool b0, .slice A0 n0 c0, .slice B0 m0 d0, .bool p0, .slice V0 r0 k0, .slice U0 o0 q0], .agg #[.bool b1, .slice A1 n1 c1, .slice B1 m1 d1, .bool p1, .slice V1 r1 k1, .slice U1 o1 q1]] W (GotSp W dl dh 0) := fun a b c d => by rw [← e3, ← e4]; exact idiv_N a b (s0.le (by omega)) (t0.le (by omega)) c d (s1.le (by omega)) (t1.le (by omega)) hx hy hz
  have DR : ∀ {W : World} {b0 p0 : Bool} {A0 B0 V0 U0 : Option Addr} {n0 c0 m0 d0 r0 k0 o0 q0 : Nat} {b1 p1 : Bool} {A1 B1 V1 U1 : Option Addr} {n1 c1 m1 d1 r1 k1 o1 q1 : Nat}, Rt W b0 A0 n0 c0 B0 m0 d0 x0 → Rt W p0 V0 r0 k0 U0 o0 q0 y0 → Rt W b1 A1 n1 c1 B1 m1 d1 x1 → Rt W p1 V1 r1 k1 U1 o1 q1 y1 → Calls Tryz.prog 23 #[.agg #[.bool b0, .slice A0 n0 c0, .slice B0 m0 d0, .bool p0, .slice V0 r0 k0, .slice U0 o0 q0], .agg #[.bool b1, .slice A1 n1 c1, .slice B1 m1 d1, .bool p1, .slice V1 r1 k1, .slice U1 o1 q1]] W (GotSp W dl dh 0) := fun a b c d => by rw [← e3, ← e4]; exact stdiv_N a b (s0.le (by omega)) (t0.le (by omega)) c d (s1.le (by omega)) (t1.le (by omega)) hx hy hz
  clear e1 e2 e3 e4 hx hy hz one
  have cc := Below.refl w.heap.size w
  go_enter Tryz.func4, Tryz.ntmps4
  go_wp2_with fail
  generalize hv_ : (w.alloc (.cells #[.bool b0, .slice A0 n0 c0, .slice B0 m0 d0, .bool p0, .slice V0 r0 k0, .slice U0 o0 q0] 29)).alloc (.cells #[.bool b1, .slice A1 n1 c1, .slice B1 m1 d1, .bool p1, .slice V1 r1 k1, .slice U1 o1 q1] 29) = v1
  have bA : Below w.heap.size w v1 := by rw [← hv_]; exact (((Below.refl _ w).alloc (by simp) _).alloc (by simp) _)
  replace h0 := h0.on bA
  replace g0 := g0.on bA
  replace h1 := h1.on bA
  replace g1 := g1.on bA
  replace cc := bK cc bA
  clear bA
  obtain ⟨pa0, pa1, pa2, pa3, pa4, pa5⟩ : Cs6 v1 w.heap.size (.bool b0) (.slice A0 n0 c0) (.slice B0 m0 d0) (.bool p0) (.slice V0 r0 k0) (.slice U0 o0 q0) := by simp [Cs6, ← hv_, go_sem]
  have pal : w.heap.size < v1.heap.size := by simp [← hv_] <;> omega
  obtain ⟨pb0, pb1, pb2, pb3, pb4, pb5⟩ : Cs6 v1 (w.heap.size + 1) (.bool b1) (.slice A1 n1 c1) (.slice B1 m1 d1) (.bool p1) (.slice V1 r1 k1) (.slice U1 o1 q1) := by simp [Cs6, ← hv_, go_sem]
  have pbl : w.heap.size + 1 < v1.heap.size := by simp [← hv_] <;> omega
  clear hv_
  refine (G0 _ cc).mono ?_
  rintro e w2 ⟨rfl, b⟩
  replace h0 := h0.on b
  replace g0 := g0.on b
  replace h1 := h1.on b
  replace g1 := g1.on b
  rewrite [cR b pal] at pa0 pa1 pa2 pa3 pa4 pa5
  replace pal := lK b pal
  rewrite [cR b pbl] at pb0 pb1 pb2 pb3 pb4 pb5
  replace pbl := lK b pbl
  replace cc := bK cc b
  clear b
  go_wp2_with fail
  refine (G1 _ cc).mono ?_
  rintro e w3 ⟨rfl, b⟩
  replace h0 := h0.on b
  replace g0 := g0.on b
  replace h1 := h1.on b
  replace g1 := g1.on b
  rewrite [cR b pal] at pa0 pa1 pa2 pa3 pa4 pa5
  replace pal := lK b pal
  rewrite [cR b pbl] at pb0 pb1 pb2 pb3 pb4 pb5
  replace pbl := lK b pbl
  replace cc := bK cc b
  clear b
  go_wp2_with fail
  refine (DI h0 g0 h1 g1).mono ?_
  rintro e w4 ⟨be, Ae, ne, ce, Be, me, de, pe, Ve, re, ke, Ue, oe, qe, rfl, ⟨he, ge_⟩, b⟩
  replace h0 := h0.on b
  replace g0 := g0.on b
  replace h1 := h1.on b
  replace g1 := g1.on b
  rewrite [cR b pal] at pa0 pa1 pa2 pa3 pa4 pa5
  replace pal := lK b pal
  rewrite [cR b pbl] at pb0 pb1 pb2 pb3 pb4 pb5
  replace pbl := lK b pbl
  replace cc := bK cc b
  clear b
  go_wp2_with fail
  generalize hv_ : w4.alloc (.cells #[.bool be, .slice Ae ne ce, .slice Be me de, .bool pe, .slice Ve re ke, .slice Ue oe qe] 29) = v5
  have bA : Below w4.heap.size w4 v5 := by rw [← hv_]; exact below_one _ _
  replace h0 := h0.on bA
  replace g0 := g0.on bA
  replace h1 := h1.on bA
  replace g1 := g1.on bA
  replace he := he.on bA
  replace ge_ := ge_.on bA
  rewrite [cR bA pal] at pa0 pa1 pa2 pa3 pa4 pa5
  replace pal := lK bA pal
  rewrite [cR bA pbl] at pb0 pb1 pb2 pb3 pb4 pb5
  replace pbl := lK bA pbl
  replace cc := bK cc bA
  clear bA
  obtain ⟨x0, x1, x2, x3, x4, x5⟩ : Cs6 v5 w4.heap.size (.bool be) (.slice Ae ne ce) (.slice Be me de) (.bool pe) (.slice Ve re ke) (.slice Ue oe qe) := by simp [Cs6, ← hv_, go_sem]
  have xl : w4.heap.size < v5.heap.size := by simp [← hv_]
  clear hv_
  go_wp2_with fail
  refine (DR h0 g0 h1 g1).mono ?_
  rintro e w6 ⟨bf, Af, nf, cf, Bf, mf, df, pf, Vf, rf, kf, Uf, of, qf, rfl, ⟨hf, gf⟩, b⟩
  replace h0 := h0.on b
  replace g0 := g0.on b
  replace h1 := h1.on b
  replace g1 := g1.on b
  replace he := he.on b
  replace ge_ := ge_.on b
  rewrite [cR b pal] at pa0 pa1 pa2 pa3 pa4 pa5
  replace pal := lK b pal
  rewrite [cR b pbl] at pb0 pb1 pb2 pb3 pb4 pb5
  replace pbl := lK b pbl
  rewrite [cR b xl] at x0 x1 x2 x3 x4 x5
  replace xl := lK b xl
  replace cc := bK cc b
  clear b
  go_wp2_with fail
  generalize hv_ : w6.alloc (.cells #[.bool bf, .slice Af nf cf, .slice Bf mf df, .bool pf, .slice Vf rf kf, .slice Uf of qf] 29) = v7
  have bA : Below w6.heap.size w6 v7 := by rw [← hv_]; exact below_one _ _
  replace h0 := h0.on bA
  replace g0 := g0.on bA
  replace h1 := h1.on bA
  replace g1 := g1.on bA
  replace he := he.on bA
  replace ge_ := ge_.on bA
  replace hf := hf.on bA
  replace gf := gf.on bA
  rewrite [cR bA pal] at pa0 pa1 pa2 pa3 pa4 pa5
  replace pal := lK bA pal
  rewrite [cR bA pbl] at pb0 pb1 pb2 pb3 pb4 pb5
  replace pbl := lK bA pbl
  rewrite [cR bA xl] at x0 x1 x2 x3 x4 x5
  replace xl := lK bA xl
  replace cc := bK cc bA
  clear bA
  obtain ⟨l0, l1, l2, l3, l4, l5⟩ : Cs6 v7 w6.heap.size (.bool bf) (.slice Af nf cf) (.slice Bf mf df) (.bool pf) (.slice Vf rf kf) (.slice Uf of qf) := by simp [Cs6, ← hv_, go_sem]
  have ll : w6.heap.size < v7.heap.size := by simp [← hv_]
  clear hv_
  go_wp2_with fail
  have bD : Below v7.heap.size v7 v7.drew := below_drewN (Below.refl _ v7) 1
  replace h0 := h0.on bD
  replace g0 := g0.on bD
  replace h1 := h1.on bD
  replace g1 := g1.on bD
  replace he := he.on bD
  replace ge_ := ge_.on bD
  replace hf := hf.on bD
  replace gf := gf.on bD
  rewrite [cR bD pal] at pa0 pa1 pa2 pa3 pa4 pa5
  replace pal := lK bD pal
  rewrite [cR bD pbl] at pb0 pb1 pb2 pb3 pb4 pb5
  replace pbl := lK bD pbl
  rewrite [cR bD xl] at x0 x1 x2 x3 x4 x5
  replace xl := lK bD xl
  rewrite [cR bD ll] at l0 l1 l2 l3 l4 l5
  replace ll := lK bD ll
  replace cc := bK cc bD
  clear bD
  refine wp_region_held_drew (S := fun w' => w'.cell? ⟨w.heap.size, 0, none⟩ = some (.bool b0) ∧ w'.cell? ⟨w.heap.size, 1, none⟩ = some (.slice A0 n0 c0) ∧ w'.cell? ⟨w.heap.size, 2, none⟩ = some (.slice B0 m0 d0) ∧ w'.cell? ⟨w.heap.size, 3, none⟩ = some (.bool p0) ∧ w'.cell? ⟨w.heap.size, 4, none⟩ = some (.slice V0 r0 k0) ∧ w'.cell? ⟨w.heap.size, 5, none⟩ = some (.slice U0 o0 q0) ∧ w'.cell? ⟨w.heap.size + 1, 0, none⟩ = some (.bool b1) ∧ w'.cell? ⟨w.heap.size + 1, 1, none⟩ = some (.slice A1 n1 c1) ∧ w'.cell? ⟨w.heap.size + 1, 2, none⟩ = some (.slice B1 m1 d1) ∧ w'.cell? ⟨w.heap.size + 1, 3, none⟩ = some (.bool p1) ∧ w'.cell? ⟨w.heap.size + 1, 4, none⟩ = some (.slice V1 r1 k1) ∧ w'.cell? ⟨w.heap.size + 1, 5, none⟩ = some (.slice U1 o1 q1) ∧ w'.cell? ⟨w4.heap.size, 0, none⟩ = some (.bool be) ∧ w'.cell? ⟨w4.heap.size, 1, none⟩ = some (.slice Ae ne ce) ∧ w'.cell? ⟨w4.heap.size, 2, none⟩ = some (.slice Be me de) ∧ w'.cell? ⟨w4.heap.size, 3, none⟩ = some (.bool pe) ∧ w'.cell? ⟨w4.heap.size, 4, none⟩ = some (.slice Ve re ke) ∧ w'.cell? ⟨w4.heap.size, 5, none⟩ = some (.slice Ue oe qe) ∧ w'.cell? ⟨w6.heap.size, 0, none⟩ = some (.bool bf) ∧ w'.cell? ⟨w6.heap.size, 1, none⟩ = some (.slice Af nf cf) ∧ w'.cell? ⟨w6.heap.size, 2, none⟩ = some (.slice Bf mf df) ∧ w'.cell? ⟨w6.heap.size, 3, none⟩ = some (.bool pf) ∧ w'.cell? ⟨w6.heap.size, 4, none⟩ = some (.slice Vf rf kf) ∧ w'.cell? ⟨w6.heap.size, 5, none⟩ = some (.slice Uf of qf)) (by kernel_rfl) ?_ (fun hHeld => ?_)
  · exact ⟨pa0, pa1, pa2, pa3, pa4, pa5, pb0, pb1, pb2, pb3, pb4, pb5, x0, x1, x2, x3, x4, x5, l0, l1, l2, l3, l4, l5⟩
  refine wpAnyH_ready (rs := [0]) (by kernel_rfl) (by simp) ?_
  refine AllReadyH.cons rfl (fun K hK => ?_) AllReadyH.nil
  (try simp only [pT])
  rw [if_pos (by rfl)]
  go_simp
  go_at_call 11
  refine (alive7_any _).mono ?_
  rintro e w8 ⟨rfl, b⟩
  replace h0 := h0.on b
  replace g0 := g0.on b
  replace h1 := h1.on b
  replace g1 := g1.on b
  replace he := he.on b
  replace ge_ := ge_.on b
  replace hf := hf.on b
  replace gf := gf.on b
  rewrite [cR b pal] at pa0 pa1 pa2 pa3 pa4 pa5
  replace pal := lK b pal
  rewrite [cR b pbl] at pb0 pb1 pb2 pb3 pb4 pb5
  replace pbl := lK b pbl
  rewrite [cR b xl] at x0 x1 x2 x3 x4 x5
  replace xl := lK b xl
  rewrite [cR b ll] at l0 l1 l2 l3 l4 l5
  replace ll := lK b ll
  replace cc := bK cc b
  clear b
  refine hK.out _ _ ?_ (fun hHeld => ?_)
  · exact ⟨pa0, pa1, pa2, pa3, pa4, pa5, pb0, pb1, pb2, pb3, pb4, pb5, x0, x1, x2, x3, x4, x5, l0, l1, l2, l3, l4, l5⟩
  clear hK K
  try simp only [Act.put, pT]
  refine wpAnyH_take (i := 1) (v := ?_) rfl (by kernel_rfl) (by kernel_rfl) (by kernel_rfl) (fun _ _ _ h => h) (Or.inl ⟨by rfl, ?_⟩) hHeld ?_
  rotate_left
  · (intro w hSw; (try dsimp only at hSw); go_simp; (try with_reducible rfl))
  try simp only [Act.put, pT]
  refine wpAnyH_take (i := 2) (v := ?_) rfl (by kernel_rfl) (by kernel_rfl) (by kernel_rfl) (fun _ _ _ h => h) (Or.inl ⟨by rfl, ?_⟩) hHeld ?_
  rotate_left
  · (intro w hSw; (try dsimp only at hSw); go_simp; (try with_reducible rfl))
  try simp only [Act.put, pT]
  refine wpAnyH_take (i := 3) (v := ?_) rfl (by kernel_rfl) (by kernel_rfl) (by kernel_rfl) (fun _ _ _ h => h) (Or.inl ⟨by rfl, ?_⟩) hHeld ?_
  rotate_left
  · (intro w hSw; (try dsimp only at hSw); go_simp; (try with_reducible rfl))
  try simp only [Act.put, pT]
  refine wpAnyH_take (i := 5) (v := ?_) rfl (by kernel_rfl) (by kernel_rfl) (by kernel_rfl) (fun _ _ _ h => h) (Or.inl ⟨by rfl, ?_⟩) hHeld ?_
  rotate_left
  · (intro w hSw; (try dsimp only at hSw); go_simp; (try with_reducible rfl))
  try simp only [Act.put, pT]
  refine wpAnyH_take (i := 6) (v := ?_) rfl (by kernel_rfl) (by kernel_rfl) (by kernel_rfl) (fun _ _ _ h => h) (Or.inl ⟨by rfl, ?_⟩) hHeld ?_
  rotate_left
  · (intro w hSw; (try dsimp only at hSw); go_simp; (try with_reducible rfl))
  try simp only [Act.put, pT]
  refine wpAnyH_ready (rs := [4]) (by kernel_rfl) (by simp) ?_
  refine AllReadyH.cons rfl (fun K hK => ?_) AllReadyH.nil
  (try simp only [pT])
  rw [if_pos (by rfl)]
  go_simp
  go_at_call 24
  refine (iadd_N h0 g0 (s0.le (by omega)) (t0.le (by omega)) h1 g1 (s1.le (by omega)) (t1.le (by omega))).mono ?_
  rintro e w9 ⟨bj, Aj, nj, cj, Bj, mj, dj, pj, Vj, rj, kj, Uj, oj, qj, rfl, ⟨hj, gj⟩, b⟩
  replace h0 := h0.on b
  replace g0 := g0.on b
  replace h1 := h1.on b
  replace g1 := g1.on b
  replace he := he.on b
  replace ge_ := ge_.on b
  replace hf := hf.on b
  replace gf := gf.on b
  rewrite [cR b pal] at pa0 pa1 pa2 pa3 pa4 pa5
  replace pal := lK b pal
  rewrite [cR b pbl] at pb0 pb1 pb2 pb3 pb4 pb5
  replace pbl := lK b pbl
  rewrite [cR b xl] at x0 x1 x2 x3 x4 x5
  replace xl := lK b xl
  rewrite [cR b ll] at l0 l1 l2 l3 l4 l5
  replace ll := lK b ll
  replace cc := bK cc b
  clear b
  refine hK.out _ _ ?_ (fun hHeld => ?_)
  · exact ⟨pa0, pa1, pa2, pa3, pa4, pa5, pb0, pb1, pb2, pb3, pb4, pb5, x0, x1, x2, x3, x4, x5, l0, l1, l2, l3, l4, l5⟩
  clear hK K
  try simp only [Act.put, pT]
  refine wpAnyH_ready (rs := [7]) (by kernel_rfl) (by simp) ?_
  refine AllReadyH.cons rfl (fun K hK => ?_) AllReadyH.nil
  (try simp only [pT])
  rw [if_pos (by rfl)]
  go_simp
  go_at_call 25
  refine (stadd_N h0 g0 (s0.le (by omega)) (t0.le (by omega)) h1 g1 (s1.le (by omega)) (t1.le (by omega))).mono ?_
  rintro e w10 ⟨bu, Au, nu, cu, Bu, mu, du, pu, Vu, ru, ku, Uu, ou, qu, rfl, ⟨hu, gu⟩, b⟩
  replace h0 := h0.on b
  replace g0 := g0.on b
  replace h1 := h1.on b
  replace g1 := g1.on b
  replace he := he.on b
  replace ge_ := ge_.on b
  replace hf := hf.on b
  replace gf := gf.on b
  replace hj := hj.on b
  replace gj := gj.on b
  rewrite [cR b pal] at pa0 pa1 pa2 pa3 pa4 pa5
  replace pal := lK b pal
  rewrite [cR b pbl] at pb0 pb1 pb2 pb3 pb4 pb5
  replace pbl := lK b pbl
  rewrite [cR b xl] at x0 x1 x2 x3 x4 x5
  replace xl := lK b xl
  rewrite [cR b ll] at l0 l1 l2 l3 l4 l5
  replace ll := lK b ll
  replace cc := bK cc b
  clear b
  refine hK.out _ _ ?_ (fun hHeld => ?_)
  · exact ⟨pa0, pa1, pa2, pa3, pa4, pa5, pb0, pb1, pb2, pb3, pb4, pb5, x0, x1, x2, x3, x4, x5, l0, l1, l2, l3, l4, l5⟩
  clear hK K
  try simp only [Act.put, pT]
  refine wpAnyH_ready (rs := [8]) (by kernel_rfl) (by simp) ?_
  refine AllReadyH.cons rfl (fun K hK => ?_) AllReadyH.nil
  (try simp only [pT])
  rw [if_pos (by rfl)]
  go_simp
  go_at_call 14
  refine (stsame_N hj gj (za_.le (by omega)) (zb_.le (by omega)) hu gu (za_.le (by omega)) (zb_.le (by omega)) true two_eq).mono ?_
  rintro e w11 ⟨rfl, b⟩
  replace h0 := h0.on b
  replace g0 := g0.on b
  replace h1 := h1.on b
  replace g1 := g1.on b
  replace he := he.on b
  replace ge_ := ge_.on b
  replace hf := hf.on b
  replace gf := gf.on b
  replace hj := hj.on b
  replace gj := gj.on b
  replace hu := hu.on b
  replace gu := gu.on b
  rewrite [cR b pal] at pa0 pa1 pa2 pa3 pa4 pa5
  replace pal := lK b pal
  rewrite [cR b pbl] at pb0 pb1 pb2 pb3 pb4 pb5
  replace pbl := lK b pbl
  rewrite [cR b xl] at x0 x1 x2 x3 x4 x5
  replace xl := lK b xl
  rewrite [cR b ll] at l0 l1 l2 l3 l4 l5
  replace ll := lK b ll
  replace cc := bK cc b
  clear b
  refine hK.out _ _ ?_ (fun hHeld => ?_)
  · exact ⟨pa0, pa1, pa2, pa3, pa4, pa5, pb0, pb1, pb2, pb3, pb4, pb5, x0, x1, x2, x3, x4, x5, l0, l1, l2, l3, l4, l5⟩
  clear hK K
  try simp only [Act.put, pT]
  refine wpAnyH_take (i := 9) (v := ?_) rfl (by kernel_rfl) (by kernel_rfl) (by kernel_rfl) (fun _ _ _ h => h) (Or.inl ⟨by rfl, ?_⟩) hHeld ?_
  rotate_left
  · (intro w hSw; (try dsimp only at hSw); go_simp; (try with_reducible rfl))
  try simp only [Act.put, pT]
  refine wpAnyH_take (i := 10) (v := ?_) rfl (by kernel_rfl) (by kernel_rfl) (by kernel_rfl) (fun _ _ _ h => h) (Or.inl ⟨by rfl, ?_⟩) hHeld ?_
  rotate_left
  · (intro w hSw; (try dsimp only at hSw); go_simp; (try with_reducible rfl))
  try simp only [Act.put, pT]
  refine wpAnyH_take (i := 11) (v := ?_) rfl (by kernel_rfl) (by kernel_rfl) (by kernel_rfl) (fun _ _ _ h => h) (Or.inl ⟨by rfl, ?_⟩) hHeld ?_
  rotate_left
  · (intro w hSw; (try dsimp only at hSw); go_simp; (try with_reducible rfl))
  try simp only [Act.put, pT]
  refine wpAnyH_take (i := 12) (v := ?_) rfl (by kernel_rfl) (by kernel_rfl) (by kernel_rfl) (fun _ _ _ h => h) (Or.inl ⟨by rfl, ?_⟩) hHeld ?_
  rotate_left
  · (intro w hSw; (try dsimp only at hSw); go_simp; (try with_reducible rfl))
  try simp only [Act.put, pT]
  refine wpAnyH_take (i := 14) (v := ?_) rfl (by kernel_rfl) (by kernel_rfl) (by kernel_rfl) (fun _ _ _ h => h) (Or.inl ⟨by rfl, ?_⟩) hHeld ?_
  rotate_left
  · (intro w hSw; (try dsimp only at hSw); go_simp; (try with_reducible rfl))
  try simp only [Act.put, pT]
  refine wpAnyH_take (i := 15) (v := ?_) rfl (by kernel_rfl) (by kernel_rfl) (by kernel_rfl) (fun _ _ _ h => h) (Or.inl ⟨by rfl, ?_⟩) hHeld ?_
  rotate_left
  · (intro w hSw; (try dsimp only at hSw); go_simp; (try with_reducible rfl))
  try simp only [Act.put, pT]
  refine wpAnyH_ready (rs := [13]) (by kernel_rfl) (by simp) ?_
  refine AllReadyH.cons rfl (fun K hK => ?_) AllReadyH.nil
  (try simp only [pT])
  rw [if_pos (by rfl)]
  go_simp
  go_at_call 26
  refine (MI h0 g0 h1 g1).mono ?_
  rintro e w12 ⟨bw, Aw, nw, cw, Bw, mw, dw, pw, Vw, rw, kw, Uw, ow, qw, rfl, ⟨hw, gw⟩, b⟩
  replace h0 := h0.on b
  replace g0 := g0.on b
  replace h1 := h1.on b
  replace g1 := g1.on b
  replace he := he.on b
  replace ge_ := ge_.on b
  replace hf := hf.on b
  replace gf := gf.on b
  replace hj := hj.on b
  replace gj := gj.on b
  replace hu := hu.on b
  replace gu := gu.on b
  rewrite [cR b pal] at pa0 pa1 pa2 pa3 pa4 pa5
  replace pal := lK b pal
  rewrite [cR b pbl] at pb0 pb1 pb2 pb3 pb4 pb5
  replace pbl := lK b pbl
  rewrite [cR b xl] at x0 x1 x2 x3 x4 x5
  replace xl := lK b xl
  rewrite [cR b ll] at l0 l1 l2 l3 l4 l5
  replace ll := lK b ll
  replace cc := bK cc b
  clear b
  refine hK.out _ _ ?_ (fun hHeld => ?_)
  · exact ⟨pa0, pa1, pa2, pa3, pa4, pa5, pb0, pb1, pb2, pb3, pb4, pb5, x0, x1, x2, x3, x4, x5, l0, l1, l2, l3, l4, l5⟩
  clear hK K
  try simp only [Act.put, pT]
  refine wpAnyH_ready (rs := [16]) (by kernel_rfl) (by simp) ?_
  refine AllReadyH.cons rfl (fun K hK => ?_) AllReadyH.nil
  (try simp only [pT])
  rw [if_pos (by rfl)]
  go_simp
  go_at_call 27
  refine (MR h0 g0 h1 g1).mono ?_
  rintro e w13 ⟨bz, Az, nz, cz, Bz, mz, dz, pz, Vz, rz, kz, Uz, oz, qz, rfl, ⟨hz_, gz_⟩, b⟩
  replace h0 := h0.on b
  replace g0 := g0.on b
  replace h1 := h1.on b
  replace g1 := g1.on b
  replace he := he.on b
  replace ge_ := ge_.on b
  replace hf := hf.on b
  replace gf := gf.on b
  replace hj := hj.on b
  replace gj := gj.on b
  replace hu := hu.on b
  replace gu := gu.on b
  replace hw := hw.on b
  replace gw := gw.on b
  rewrite [cR b pal] at pa0 pa1 pa2 pa3 pa4 pa5
  replace pal := lK b pal
  rewrite [cR b pbl] at pb0 pb1 pb2 pb3 pb4 pb5
  replace pbl := lK b pbl
  rewrite [cR b xl] at x0 x1 x2 x3 x4 x5
  replace xl := lK b xl
  rewrite [cR b ll] at l0 l1 l2 l3 l4 l5
  replace ll := lK b ll
  replace cc := bK cc b
  clear b
  refine hK.out _ _ ?_ (fun hHeld => ?_)
  · exact ⟨pa0, pa1, pa2, pa3, pa4, pa5, pb0, pb1, pb2, pb3, pb4, pb5, x0, x1, x2, x3, x4, x5, l0, l1, l2, l3, l4, l5⟩
  clear hK K
  try simp only [Act.put, pT]
  refine wpAnyH_ready (rs := [17]) (by kernel_rfl) (by simp) ?_
  refine AllReadyH.cons rfl (fun K hK => ?_) AllReadyH.nil
  (try simp only [pT])
  rw [if_pos (by rfl)]
  go_simp
  go_at_call 14
  refine (stsame_N hw gw (zl_.le (by omega)) (zh_.le (by omega)) hz_ gz_ (zl_.le (by omega)) (zh_.le (by omega)) true two_eq).mono ?_
  rintro e w14 ⟨rfl, b⟩
  replace h0 := h0.on b
  replace g0 := g0.on b
  replace h1 := h1.on b
  replace g1 := g1.on b
  replace he := he.on b
  replace ge_ := ge_.on b
  replace hf := hf.on b
  replace gf := gf.on b
  replace hj := hj.on b
  replace gj := gj.on b
  replace hu := hu.on b
  replace gu := gu.on b
  replace hw := hw.on b
  replace gw := gw.on b
  replace hz_ := hz_.on b
  replace gz_ := gz_.on b
  rewrite [cR b pal] at pa0 pa1 pa2 pa3 pa4 pa5
  replace pal := lK b pal
  rewrite [cR b pbl] at pb0 pb1 pb2 pb3 pb4 pb5
  replace pbl := lK b pbl
  rewrite [cR b xl] at x0 x1 x2 x3 x4 x5
  replace xl := lK b xl
  rewrite [cR b ll] at l0 l1 l2 l3 l4 l5
  replace ll := lK b ll
  replace cc := bK cc b
  clear b
  refine hK.out _ _ ?_ (fun hHeld => ?_)
  · exact ⟨pa0, pa1, pa2, pa3, pa4, pa5, pb0, pb1, pb2, pb3, pb4, pb5, x0, x1, x2, x3, x4, x5, l0, l1, l2, l3, l4, l5⟩
  clear hK K
  try simp only [Act.put, pT]
  refine wpAnyH_take (i := 18) (v := ?_) rfl (by kernel_rfl) (by kernel_rfl) (by kernel_rfl) (fun _ _ _ h => h) (Or.inl ⟨by rfl, ?_⟩) hHeld ?_
  rotate_left
  · (intro w hSw; (try dsimp only at hSw); go_simp; (try with_reducible rfl))
  try simp only [Act.put, pT]
  refine wpAnyH_take (i := 19) (v := ?_) rfl (by kernel_rfl) (by kernel_rfl) (by kernel_rfl) (fun _ _ _ h => h) (Or.inl ⟨by rfl, ?_⟩) hHeld ?_
  rotate_left
  · (intro w hSw; (try dsimp only at hSw); go_simp; (try with_reducible rfl))
  try simp only [Act.put, pT]
  refine wpAnyH_take (i := 20) (v := ?_) rfl (by kernel_rfl) (by kernel_rfl) (by kernel_rfl) (fun _ _ _ h => h) (Or.inl ⟨by rfl, ?_⟩) hHeld ?_
  rotate_left
  · (intro w hSw; (try dsimp only at hSw); go_simp; (try with_reducible rfl))
  try simp only [Act.put, pT]
  refine wpAnyH_take (i := 21) (v := ?_) rfl (by kernel_rfl) (by kernel_rfl) (by kernel_rfl) (fun _ _ _ h => h) (Or.inl ⟨by rfl, ?_⟩) hHeld ?_
  rotate_left
  · (intro w hSw; (try dsimp only at hSw); go_simp; (try with_reducible rfl))
  try simp only [Act.put, pT]
  refine wpAnyH_ready (rs := [22]) (by kernel_rfl) (by simp) ?_
  refine AllReadyH.cons rfl (fun K hK => ?_) AllReadyH.nil
  (try simp only [pT])
  rw [if_pos (by rfl)]
  go_simp
  go_at_call 14
  refine (stsame_N he ge_ (zd_.le (by omega)) (ze_.le (by omega)) hf gf (zd_.le (by omega)) (ze_.le (by omega)) true two_eq).mono ?_
  rintro e w15 ⟨rfl, b⟩
  replace h0 := h0.on b
  replace g0 := g0.on b
  replace h1 := h1.on b
  replace g1 := g1.on b
  replace he := he.on b
  replace ge_ := ge_.on b
  replace hf := hf.on b
  replace gf := gf.on b
  replace hj := hj.on b
  replace gj := gj.on b
  replace hu := hu.on b
  replace gu := gu.on b
  replace hw := hw.on b
  replace gw := gw.on b
  replace hz_ := hz_.on b
  replace gz_ := gz_.on b
  rewrite [cR b pal] at pa0 pa1 pa2 pa3 pa4 pa5
  replace pal := lK b pal
  rewrite [cR b pbl] at pb0 pb1 pb2 pb3 pb4 pb5
  replace pbl := lK b pbl
  rewrite [cR b xl] at x0 x1 x2 x3 x4 x5
  replace xl := lK b xl
  rewrite [cR b ll] at l0 l1 l2 l3 l4 l5
  replace ll := lK b ll
  replace cc := bK cc b
  clear b
  refine hK.out _ _ ?_ (fun hHeld => ?_)
  · exact ⟨pa0, pa1, pa2, pa3, pa4, pa5, pb0, pb1, pb2, pb3, pb4, pb5, x0, x1, x2, x3, x4, x5, l0, l1, l2, l3, l4, l5⟩
  clear hK K
  try simp only [Act.put, pT]
  refine wpAnyH_take (i := 23) (v := ?_) rfl (by kernel_rfl) (by kernel_rfl) (by kernel_rfl) (fun _ _ _ h => h) (Or.inl ⟨by rfl, ?_⟩) hHeld ?_
  rotate_left
  · (intro w hSw; (try dsimp only at hSw); go_simp; (try with_reducible rfl))
  try simp only [Act.put, pT]
  refine wpAnyH_take (i := 24) (v := ?_) rfl (by kernel_rfl) (by kernel_rfl) (by kernel_rfl) (fun _ _ _ h => h) (Or.inl ⟨by rfl, ?_⟩) hHeld ?_
  rotate_left
  · (intro w hSw; (try dsimp only at hSw); go_simp; (try with_reducible rfl))
  try simp only [Act.put, pT]
  refine wpAnyH_take (i := 25) (v := ?_) rfl (by kernel_rfl) (by kernel_rfl) (by kernel_rfl) (fun _ _ _ h => h) (Or.inl ⟨by rfl, ?_⟩) hHeld ?_
  rotate_left
  · (intro w hSw; (try dsimp only at hSw); go_simp; (try with_reducible rfl))
  try simp only [Act.put, pT]
  refine wpAnyH_take (i := 26) (v := ?_) rfl (by kernel_rfl) (by kernel_rfl) (by kernel_rfl) (fun _ _ _ h => h) (Or.inl ⟨by rfl, ?_⟩) hHeld ?_
  rotate_left
  · (intro w hSw; (try dsimp only at hSw); go_simp; (try with_reducible rfl))
  try simp only [Act.put, pT]
  refine wpAnyH_take (i := 27) (v := ?_) rfl (by kernel_rfl) (by kernel_rfl) (by kernel_rfl) (fun _ _ _ h => h) (Or.inl ⟨by rfl, ?_⟩) hHeld ?_
  rotate_left
  · (intro w hSw; (try dsimp only at hSw); go_simp; (try with_reducible rfl))
  try simp only [Act.put, pT]
  refine wpAnyH_take (i := 28) (v := ?_) rfl (by kernel_rfl) (by kernel_rfl) (by kernel_rfl) (fun _ _ _ h => h) (Or.inl ⟨by rfl, ?_⟩) hHeld ?_
  rotate_left
  · (intro w hSw; (try dsimp only at hSw); go_simp; (try with_reducible rfl))
  try simp only [Act.put, pT]
  refine wpAnyH_take (i := 29) (v := ?_) rfl (by kernel_rfl) (by kernel_rfl) (by kernel_rfl) (fun _ _ _ h => h) (Or.inl ⟨by rfl, ?_⟩) hHeld ?_
  rotate_left
  · (intro w hSw; (try dsimp only at hSw); go_simp; (try with_reducible rfl))
  try simp only [Act.put, pT]
  refine wpAnyH_done (by kernel_rfl) ?_ _
  clear hHeld
  go_wp2_with fail
  go_ret
  exact ⟨rfl, cc⟩

end Go.Proofs.YtanpklbconflmaaGreat
