/-
  The ways of IvalTurns.
-/
import Derived.Test.YtanpklbconflmaaGreatFO
import Derived.Test.YtanpklbconflmaaGreatA3
namespace Go.Proofs.YtanpklbconflmaaGreat
set_option maxRecDepth 100000
set_option maxHeartbeats 8000000
open Go.RowKit
set_option linter.unusedVariables false
set_option linter.unusedSimpArgs false

theorem IvalTurns_no0 {w : World} {b0 p0 : Bool} {A0 B0 V0 U0 : Option Addr} {n0 c0 m0 d0 r0 k0 o0 q0 : Nat} {b1 p1 : Bool} {A1 B1 V1 U1 : Option Addr} {n1 c1 m1 d1 r1 k1 o1 q1 : Nat} {b2 : Bool} {A2 B2 : Option Addr} {n2 c2 m2 d2 : Nat} (G0 : ∀ W : World, Below w.heap.size w W → Calls Tryz.prog 17 #[.agg #[.bool b0, .slice A0 n0 c0, .slice B0 m0 d0, .bool p0, .slice V0 r0 k0, .slice U0 o0 q0], .int .i64 3] W (GotV W (.bool false))) :
    Calls Tryz.prog 9 #[.agg #[.bool b0, .slice A0 n0 c0, .slice B0 m0 d0, .bool p0, .slice V0 r0 k0, .slice U0 o0 q0], .agg #[.bool b1, .slice A1 n1 c1, .slice B1 m1 d1, .bool p1, .slice V1 r1 k1, .slice U1 o1 q1], .agg #[.bool b2, .slice A2 n2 c2, .slice B2 m2 d2]] w (fun e w' => e = .returned (.bool true) ∧ Below w.heap.size w w') := by
  have cc := Below.refl w.heap.size w
  go_enter Tryz.func9, Tryz.ntmps9
  go_wp2_with fail
  generalize hv_ : ((w.alloc (.cells #[.bool b0, .slice A0 n0 c0, .slice B0 m0 d0, .bool p0, .slice V0 r0 k0, .slice U0 o0 q0] 29)).alloc (.cells #[.bool b1, .slice A1 n1 c1, .slice B1 m1 d1, .bool p1, .slice V1 r1 k1, .slice U1 o1 q1] 29)).alloc (.cells #[.bool b2, .slice A2 n2 c2, .slice B2 m2 d2] 27) = v1
  have bA : Below w.heap.size w v1 := by rw [← hv_]; exact ((((Below.refl _ w).alloc (by simp) _).alloc (by simp) _).alloc (by simp <;> omega) _)
  replace cc := bK cc bA
  clear bA
  obtain ⟨pa0, pa1, pa2, pa3, pa4, pa5⟩ : Cs6 v1 w.heap.size (.bool b0) (.slice A0 n0 c0) (.slice B0 m0 d0) (.bool p0) (.slice V0 r0 k0) (.slice U0 o0 q0) := by simp [Cs6, ← hv_, go_sem]
  have pal : w.heap.size < v1.heap.size := by simp [← hv_] <;> omega
  obtain ⟨pb0, pb1, pb2, pb3, pb4, pb5⟩ : Cs6 v1 (w.heap.size + 1) (.bool b1) (.slice A1 n1 c1) (.slice B1 m1 d1) (.bool p1) (.slice V1 r1 k1) (.slice U1 o1 q1) := by simp [Cs6, ← hv_, go_sem]
  have pbl : w.heap.size + 1 < v1.heap.size := by simp [← hv_] <;> omega
  obtain ⟨px0, px1, px2⟩ : Cs3 v1 (w.heap.size + 1 + 1) (.bool b2) (.slice A2 n2 c2) (.slice B2 m2 d2) := by simp [Cs3, ← hv_, go_sem]
  have pxl : w.heap.size + 1 + 1 < v1.heap.size := by simp [← hv_] <;> omega
  clear hv_
  refine (G0 _ cc).mono ?_
  rintro e w2 ⟨rfl, b⟩
  rewrite [cR b pal] at pa0 pa1 pa2 pa3 pa4 pa5
  replace pal := lK b pal
  rewrite [cR b pbl] at pb0 pb1 pb2 pb3 pb4 pb5
  replace pbl := lK b pbl
  rewrite [cR b pxl] at px0 px1 px2
  replace pxl := lK b pxl
  replace cc := bK cc b
  clear b
  go_wp2_with fail
  refine (alive7_any _).mono ?_
  rintro e w3 ⟨rfl, b⟩
  rewrite [cR b pal] at pa0 pa1 pa2 pa3 pa4 pa5
  replace pal := lK b pal
  rewrite [cR b pbl] at pb0 pb1 pb2 pb3 pb4 pb5
  replace pbl := lK b pbl
  rewrite [cR b pxl] at px0 px1 px2
  replace pxl := lK b pxl
  replace cc := bK cc b
  clear b
  go_wp2_with fail
  go_ret
  exact ⟨rfl, cc⟩

theorem IvalTurns_no1 {w : World} {b0 p0 : Bool} {A0 B0 V0 U0 : Option Addr} {n0 c0 m0 d0 r0 k0 o0 q0 : Nat} {b1 p1 : Bool} {A1 B1 V1 U1 : Option Addr} {n1 c1 m1 d1 r1 k1 o1 q1 : Nat} {b2 : Bool} {A2 B2 : Option Addr} {n2 c2 m2 d2 : Nat} (G0 : ∀ W : World, Below w.heap.size w W → Calls Tryz.prog 17 #[.agg #[.bool b0, .slice A0 n0 c0, .slice B0 m0 d0, .bool p0, .slice V0 r0 k0, .slice U0 o0 q0], .int .i64 3] W (GotV W (.bool true))) (G1 : ∀ W : World, Below w.heap.size w W → Calls Tryz.prog 17 #[.agg #[.bool b1, .slice A1 n1 c1, .slice B1 m1 d1, .bool p1, .slice V1 r1 k1, .slice U1 o1 q1], .int .i64 3] W (GotV W (.bool false))) :
    Calls Tryz.prog 9 #[.agg #[.bool b0, .slice A0 n0 c0, .slice B0 m0 d0, .bool p0, .slice V0 r0 k0, .slice U0 o0 q0], .agg #[.bool b1, .slice A1 n1 c1, .slice B1 m1 d1, .bool p1, .slice V1 r1 k1, .slice U1 o1 q1], .agg #[.bool b2, .slice A2 n2 c2, .slice B2 m2 d2]] w (fun e w' => e = .returned (.bool true) ∧ Below w.heap.size w w') := by
  have cc := Below.refl w.heap.size w
  go_enter Tryz.func9, Tryz.ntmps9
  go_wp2_with fail
  generalize hv_ : ((w.alloc (.cells #[.bool b0, .slice A0 n0 c0, .slice B0 m0 d0, .bool p0, .slice V0 r0 k0, .slice U0 o0 q0] 29)).alloc (.cells #[.bool b1, .slice A1 n1 c1, .slice B1 m1 d1, .bool p1, .slice V1 r1 k1, .slice U1 o1 q1] 29)).alloc (.cells #[.bool b2, .slice A2 n2 c2, .slice B2 m2 d2] 27) = v1
  have bA : Below w.heap.size w v1 := by rw [← hv_]; exact ((((Below.refl _ w).alloc (by simp) _).alloc (by simp) _).alloc (by simp <;> omega) _)
  replace cc := bK cc bA
  clear bA
  obtain ⟨pa0, pa1, pa2, pa3, pa4, pa5⟩ : Cs6 v1 w.heap.size (.bool b0) (.slice A0 n0 c0) (.slice B0 m0 d0) (.bool p0) (.slice V0 r0 k0) (.slice U0 o0 q0) := by simp [Cs6, ← hv_, go_sem]
  have pal : w.heap.size < v1.heap.size := by simp [← hv_] <;> omega
  obtain ⟨pb0, pb1, pb2, pb3, pb4, pb5⟩ : Cs6 v1 (w.heap.size + 1) (.bool b1) (.slice A1 n1 c1) (.slice B1 m1 d1) (.bool p1) (.slice V1 r1 k1) (.slice U1 o1 q1) := by simp [Cs6, ← hv_, go_sem]
  have pbl : w.heap.size + 1 < v1.heap.size := by simp [← hv_] <;> omega
  obtain ⟨px0, px1, px2⟩ : Cs3 v1 (w.heap.size + 1 + 1) (.bool b2) (.slice A2 n2 c2) (.slice B2 m2 d2) := by simp [Cs3, ← hv_, go_sem]
  have pxl : w.heap.size + 1 + 1 < v1.heap.size := by simp [← hv_] <;> omega
  clear hv_
  refine (G0 _ cc).mono ?_
  rintro e w2 ⟨rfl, b⟩
  rewrite [cR b pal] at pa0 pa1 pa2 pa3 pa4 pa5
  replace pal := lK b pal
  rewrite [cR b pbl] at pb0 pb1 pb2 pb3 pb4 pb5
  replace pbl := lK b pbl
  rewrite [cR b pxl] at px0 px1 px2
  replace pxl := lK b pxl
  replace cc := bK cc b
  clear b
  go_wp2_with fail
  refine (G1 _ cc).mono ?_
  rintro e w3 ⟨rfl, b⟩
  rewrite [cR b pal] at pa0 pa1 pa2 pa3 pa4 pa5
  replace pal := lK b pal
  rewrite [cR b pbl] at pb0 pb1 pb2 pb3 pb4 pb5
  replace pbl := lK b pbl
  rewrite [cR b pxl] at px0 px1 px2
  replace pxl := lK b pxl
  replace cc := bK cc b
  clear b
  go_wp2_with fail
  refine (alive7_any _).mono ?_
  rintro e w4 ⟨rfl, b⟩
  rewrite [cR b pal] at pa0 pa1 pa2 pa3 pa4 pa5
  replace pal := lK b pal
  rewrite [cR b pbl] at pb0 pb1 pb2 pb3 pb4 pb5
  replace pbl := lK b pbl
  rewrite [cR b pxl] at px0 px1 px2
  replace pxl := lK b pxl
  replace cc := bK cc b
  clear b
  go_wp2_with fail
  go_ret
  exact ⟨rfl, cc⟩

theorem IvalTurns_no2 {w : World} {b0 p0 : Bool} {A0 B0 V0 U0 : Option Addr} {n0 c0 m0 d0 r0 k0 o0 q0 : Nat} {b1 p1 : Bool} {A1 B1 V1 U1 : Option Addr} {n1 c1 m1 d1 r1 k1 o1 q1 : Nat} {b2 : Bool} {A2 B2 : Option Addr} {n2 c2 m2 d2 : Nat} (G0 : ∀ W : World, Below w.heap.size w W → Calls Tryz.prog 17 #[.agg #[.bool b0, .slice A0 n0 c0, .slice B0 m0 d0, .bool p0, .slice V0 r0 k0, .slice U0 o0 q0], .int .i64 3] W (GotV W (.bool true))) (G1 : ∀ W : World, Below w.heap.size w W → Calls Tryz.prog 17 #[.agg #[.bool b1, .slice A1 n1 c1, .slice B1 m1 d1, .bool p1, .slice V1 r1 k1, .slice U1 o1 q1], .int .i64 3] W (GotV W (.bool true))) (G2 : ∀ W : World, Below w.heap.size w W → Calls Tryz.prog 10 #[.agg #[.bool b2, .slice A2 n2 c2, .slice B2 m2 d2], .int .i64 3] W (GotV W (.bool false))) :
    Calls Tryz.prog 9 #[.agg #[.bool b0, .slice A0 n0 c0, .slice B0 m0 d0, .bool p0, .slice V0 r0 k0, .slice U0 o0 q0], .agg #[.bool b1, .slice A1 n1 c1, .slice B1 m1 d1, .bool p1, .slice V1 r1 k1, .slice U1 o1 q1], .agg #[.bool b2, .slice A2 n2 c2, .slice B2 m2 d2]] w (fun e w' => e = .returned (.bool true) ∧ Below w.heap.size w w') := by
  have cc := Below.refl w.heap.size w
  go_enter Tryz.func9, Tryz.ntmps9
  go_wp2_with fail
  generalize hv_ : ((w.alloc (.cells #[.bool b0, .slice A0 n0 c0, .slice B0 m0 d0, .bool p0, .slice V0 r0 k0, .slice U0 o0 q0] 29)).alloc (.cells #[.bool b1, .slice A1 n1 c1, .slice B1 m1 d1, .bool p1, .slice V1 r1 k1, .slice U1 o1 q1] 29)).alloc (.cells #[.bool b2, .slice A2 n2 c2, .slice B2 m2 d2] 27) = v1
  have bA : Below w.heap.size w v1 := by rw [← hv_]; exact ((((Below.refl _ w).alloc (by simp) _).alloc (by simp) _).alloc (by simp <;> omega) _)
  replace cc := bK cc bA
  clear bA
  obtain ⟨pa0, pa1, pa2, pa3, pa4, pa5⟩ : Cs6 v1 w.heap.size (.bool b0) (.slice A0 n0 c0) (.slice B0 m0 d0) (.bool p0) (.slice V0 r0 k0) (.slice U0 o0 q0) := by simp [Cs6, ← hv_, go_sem]
  have pal : w.heap.size < v1.heap.size := by simp [← hv_] <;> omega
  obtain ⟨pb0, pb1, pb2, pb3, pb4, pb5⟩ : Cs6 v1 (w.heap.size + 1) (.bool b1) (.slice A1 n1 c1) (.slice B1 m1 d1) (.bool p1) (.slice V1 r1 k1) (.slice U1 o1 q1) := by simp [Cs6, ← hv_, go_sem]
  have pbl : w.heap.size + 1 < v1.heap.size := by simp [← hv_] <;> omega
  obtain ⟨px0, px1, px2⟩ : Cs3 v1 (w.heap.size + 1 + 1) (.bool b2) (.slice A2 n2 c2) (.slice B2 m2 d2) := by simp [Cs3, ← hv_, go_sem]
  have pxl : w.heap.size + 1 + 1 < v1.heap.size := by simp [← hv_] <;> omega
  clear hv_
  refine (G0 _ cc).mono ?_
  rintro e w2 ⟨rfl, b⟩
  rewrite [cR b pal] at pa0 pa1 pa2 pa3 pa4 pa5
  replace pal := lK b pal
  rewrite [cR b pbl] at pb0 pb1 pb2 pb3 pb4 pb5
  replace pbl := lK b pbl
  rewrite [cR b pxl] at px0 px1 px2
  replace pxl := lK b pxl
  replace cc := bK cc b
  clear b
  go_wp2_with fail
  refine (G1 _ cc).mono ?_
  rintro e w3 ⟨rfl, b⟩
  rewrite [cR b pal] at pa0 pa1 pa2 pa3 pa4 pa5
  replace pal := lK b pal
  rewrite [cR b pbl] at pb0 pb1 pb2 pb3 pb4 pb5
  replace pbl := lK b pbl
  rewrite [cR b pxl] at px0 px1 px2
  replace pxl := lK b pxl
  replace cc := bK cc b
  clear b
  go_wp2_with fail
  refine (G2 _ cc).mono ?_
  rintro e w4 ⟨rfl, b⟩
  rewrite [cR b pal] at pa0 pa1 pa2 pa3 pa4 pa5
  replace pal := lK b pal
  rewrite [cR b pbl] at pb0 pb1 pb2 pb3 pb4 pb5
  replace pbl := lK b pbl
  rewrite [cR b pxl] at px0 px1 px2
  replace pxl := lK b pxl
  replace cc := bK cc b
  clear b
  go_wp2_with fail
  refine (alive7_any _).mono ?_
  rintro e w5 ⟨rfl, b⟩
  rewrite [cR b pal] at pa0 pa1 pa2 pa3 pa4 pa5
  replace pal := lK b pal
  rewrite [cR b pbl] at pb0 pb1 pb2 pb3 pb4 pb5
  replace pbl := lK b pbl
  rewrite [cR b pxl] at px0 px1 px2
  replace pxl := lK b pxl
  replace cc := bK cc b
  clear b
  go_wp2_with fail
  go_ret
  exact ⟨rfl, cc⟩

theorem IvalTurns_ok {w : World} {b0 p0 : Bool} {A0 B0 V0 U0 : Option Addr} {n0 c0 m0 d0 r0 k0 o0 q0 : Nat} {b1 p1 : Bool} {A1 B1 V1 U1 : Option Addr} {n1 c1 m1 d1 r1 k1 o1 q1 : Nat} {b2 : Bool} {A2 B2 : Option Addr} {n2 c2 m2 d2 : Nat} {x0 y0 : Rat} (h0 : Rt w b0 A0 n0 c0 B0 m0 d0 x0) (g0 : Rt w p0 V0 r0 k0 U0 o0 q0 y0) (s0 : Sz x0 3) (t0 : Sz y0 3) {x1 y1 : Rat} (h1 : Rt w b1 A1 n1 c1 B1 m1 d1 x1) (g1 : Rt w p1 V1 r1 k1 U1 o1 q1 y1) (s1 : Sz x1 3) (t1 : Sz y1 3) {x2 : Rat} (h2 : Rt w b2 A2 n2 c2 B2 m2 d2 x2) (s2 : Sz x2 3) (G0 : ∀ W : World, Below w.heap.size w W → Calls Tryz.prog 17 #[.agg #[.bool b0, .slice A0 n0 c0, .slice B0 m0 d0, .bool p0, .slice V0 r0 k0, .slice U0 o0 q0], .int .i64 3] W (GotV W (.bool true))) (G1 : ∀ W : World, Below w.heap.size w W → Calls Tryz.prog 17 #[.agg #[.bool b1, .slice A1 n1 c1, .slice B1 m1 d1, .bool p1, .slice V1 r1 k1, .slice U1 o1 q1], .int .i64 3] W (GotV W (.bool true))) (G2 : ∀ W : World, Below w.heap.size w W → Calls Tryz.prog 10 #[.agg #[.bool b2, .slice A2 n2 c2, .slice B2 m2 d2], .int .i64 3] W (GotV W (.bool true))) (e0 : x0 ≤ y0) :
    Calls Tryz.prog 9 #[.agg #[.bool b0, .slice A0 n0 c0, .slice B0 m0 d0, .bool p0, .slice V0 r0 k0, .slice U0 o0 q0], .agg #[.bool b1, .slice A1 n1 c1, .slice B1 m1 d1, .bool p1, .slice V1 r1 k1, .slice U1 o1 q1], .agg #[.bool b2, .slice A2 n2 c2, .slice B2 m2 d2]] w (fun e w' => e = .returned (.bool true) ∧ Below w.heap.size w w') := by
  obtain ⟨zm_, zn_⟩ := mlo_sz s0 t0 s1 t1
  have za_ := s0.add s1
  have zb_ := t0.add t1
  have zs_ := s0.add t1
  have zp_ := s0.mul t1
  obtain ⟨k1_, k2_⟩ := mlo_comm x0 y0 x1 y1
  obtain ⟨k3_, k4_⟩ := mlo_self x0 y1
  obtain ⟨Ml, q_Ml⟩ : ∃ r, mlo x0 y0 x1 y1 = r := ⟨_, rfl⟩
  rw [q_Ml] at zm_ k1_
  obtain ⟨Mh, q_Mh⟩ : ∃ r, mhi x0 y0 x1 y1 = r := ⟨_, rfl⟩
  rw [q_Mh] at zn_ k2_
  obtain ⟨sl, q_sl⟩ : ∃ r, x0 + x1 = r := ⟨_, rfl⟩
  rw [q_sl] at za_
  obtain ⟨sh, q_sh⟩ : ∃ r, y0 + y1 = r := ⟨_, rfl⟩
  rw [q_sh] at zb_
  obtain ⟨sv, q_sv⟩ : ∃ r, x0 + y1 = r := ⟨_, rfl⟩
  rw [q_sv] at zs_
  obtain ⟨pv, q_pv⟩ : ∃ r, x0 * y1 = r := ⟨_, rfl⟩
  rw [q_pv] at zp_ k3_ k4_
  have CM1 : ∀ {W : World} {b0 p0 : Bool} {A0 B0 V0 U0 : Option Addr} {n0 c0 m0 d0 r0 k0 o0 q0 : Nat} {b1 p1 : Bool} {A1 B1 V1 U1 : Option Addr} {n1 c1 m1 d1 r1 k1 o1 q1 : Nat}, Rt W b0 A0 n0 c0 B0 m0 d0 x0 → Rt W p0 V0 r0 k0 U0 o0 q0 y0 → Rt W b1 A1 n1 c1 B1 m1 d1 x1 → Rt W p1 V1 r1 k1 U1 o1 q1 y1 → Calls Tryz.prog 26 #[.agg #[.bool b0, .slice A0 n0 c0, .slice B0 m0 d0, .bool p0, .slice V0 r0 k0, .slice U0 o0 q0], .agg #[.bool b1, .slice A1 n1 c1, .slice B1 m1 d1, .bool p1, .slice V1 r1 k1, .slice U1 o1 q1]] W (GotSt W Ml Mh) := fun a b c d => by rw [← q_Ml, ← q_Mh]; exact imul_N a b (s0.le (by omega)) (t0.le (by omega)) c d (s1.le (by omega)) (t1.le (by omega))
  have CM2 : ∀ {W : World} {b0 p0 : Bool} {A0 B0 V0 U0 : Option Addr} {n0 c0 m0 d0 r0 k0 o0 q0 : Nat} {b1 p1 : Bool} {A1 B1 V1 U1 : Option Addr} {n1 c1 m1 d1 r1 k1 o1 q1 : Nat}, Rt W b0 A0 n0 c0 B0 m0 d0 x1 → Rt W p0 V0 r0 k0 U0 o0 q0 y1 → Rt W b1 A1 n1 c1 B1 m1 d1 x0 → Rt W p1 V1 r1 k1 U1 o1 q1 y0 → Calls Tryz.prog 26 #[.agg #[.bool b0, .slice A0 n0 c0, .slice B0 m0 d0, .bool p0, .slice V0 r0 k0, .slice U0 o0 q0], .agg #[.bool b1, .slice A1 n1 c1, .slice B1 m1 d1, .bool p1, .slice V1 r1 k1, .slice U1 o1 q1]] W (GotSt W Ml Mh) := fun a b c d => by rw [← k1_, ← k2_]; exact imul_N a b (s1.le (by omega)) (t1.le (by omega)) c d (s0.le (by omega)) (t0.le (by omega))
  have CM3 : ∀ {W : World} {b0 p0 : Bool} {A0 B0 V0 U0 : Option Addr} {n0 c0 m0 d0 r0 k0 o0 q0 : Nat} {b1 p1 : Bool} {A1 B1 V1 U1 : Option Addr} {n1 c1 m1 d1 r1 k1 o1 q1 : Nat}, Rt W b0 A0 n0 c0 B0 m0 d0 x0 → Rt W p0 V0 r0 k0 U0 o0 q0 x0 → Rt W b1 A1 n1 c1 B1 m1 d1 y1 → Rt W p1 V1 r1 k1 U1 o1 q1 y1 → Calls Tryz.prog 26 #[.agg #[.bool b0, .slice A0 n0 c0, .slice B0 m0 d0, .bool p0, .slice V0 r0 k0, .slice U0 o0 q0], .agg #[.bool b1, .slice A1 n1 c1, .slice B1 m1 d1, .bool p1, .slice V1 r1 k1, .slice U1 o1 q1]] W (GotSt W pv pv) := fun a b c d => by have h := imul_N a b (s0.le (by omega)) (s0.le (by omega)) c d (t1.le (by omega)) (t1.le (by omega)); rw [k3_, k4_] at h; exact h
  have CA1 : ∀ {W : World} {b0 p0 : Bool} {A0 B0 V0 U0 : Option Addr} {n0 c0 m0 d0 r0 k0 o0 q0 : Nat} {b1 p1 : Bool} {A1 B1 V1 U1 : Option Addr} {n1 c1 m1 d1 r1 k1 o1 q1 : Nat}, Rt W b0 A0 n0 c0 B0 m0 d0 x0 → Rt W p0 V0 r0 k0 U0 o0 q0 y0 → Rt W b1 A1 n1 c1 B1 m1 d1 x1 → Rt W p1 V1 r1 k1 U1 o1 q1 y1 → Calls Tryz.prog 24 #[.agg #[.bool b0, .slice A0 n0 c0, .slice B0 m0 d0, .bool p0, .slice V0 r0 k0, .slice U0 o0 q0], .agg #[.bool b1, .slice A1 n1 c1, .slice B1 m1 d1, .bool p1, .slice V1 r1 k1, .slice U1 o1 q1]] W (GotSt W sl sh) := fun a b c d => by rw [← q_sl, ← q_sh]; exact iadd_N a b (s0.le (by omega)) (t0.le (by omega)) c d (s1.le (by omega)) (t1.le (by omega))
  have CA2 : ∀ {W : World} {b0 p0 : Bool} {A0 B0 V0 U0 : Option Addr} {n0 c0 m0 d0 r0 k0 o0 q0 : Nat} {b1 p1 : Bool} {A1 B1 V1 U1 : Option Addr} {n1 c1 m1 d1 r1 k1 o1 q1 : Nat}, Rt W b0 A0 n0 c0 B0 m0 d0 x1 → Rt W p0 V0 r0 k0 U0 o0 q0 y1 → Rt W b1 A1 n1 c1 B1 m1 d1 x0 → Rt W p1 V1 r1 k1 U1 o1 q1 y0 → Calls Tryz.prog 24 #[.agg #[.bool b0, .slice A0 n0 c0, .slice B0 m0 d0, .bool p0, .slice V0 r0 k0, .slice U0 o0 q0], .agg #[.bool b1, .slice A1 n1 c1, .slice B1 m1 d1, .bool p1, .slice V1 r1 k1, .slice U1 o1 q1]] W (GotSt W sl sh) := fun a b c d => by rw [← q_sl, ← q_sh, Rat.add_comm x0 x1, Rat.add_comm y0 y1]; exact iadd_N a b (s1.le (by omega)) (t1.le (by omega)) c d (s0.le (by omega)) (t0.le (by omega))
  have CA3 : ∀ {W : World} {b0 p0 : Bool} {A0 B0 V0 U0 : Option Addr} {n0 c0 m0 d0 r0 k0 o0 q0 : Nat} {b1 p1 : Bool} {A1 B1 V1 U1 : Option Addr} {n1 c1 m1 d1 r1 k1 o1 q1 : Nat}, Rt W b0 A0 n0 c0 B0 m0 d0 x0 → Rt W p0 V0 r0 k0 U0 o0 q0 x0 → Rt W b1 A1 n1 c1 B1 m1 d1 y1 → Rt W p1 V1 r1 k1 U1 o1 q1 y1 → Calls Tryz.prog 24 #[.agg #[.bool b0, .slice A0 n0 c0, .slice B0 m0 d0, .bool p0, .slice V0 r0 k0, .slice U0 o0 q0], .agg #[.bool b1, .slice A1 n1 c1, .slice B1 m1 d1, .bool p1, .slice V1 r1 k1, .slice U1 o1 q1]] W (GotSt W sv sv) := fun a b c d => by rw [← q_sv]; exact iadd_N a b (s0.le (by omega)) (s0.le (by omega)) c d (t1.le (by omega)) (t1.le (by omega))
  have RA_ : ∀ {W : World} {b0 : Bool} {A0 B0 : Option Addr} {n0 c0 m0 d0 : Nat} {b1 : Bool} {A1 B1 : Option Addr} {n1 c1 m1 d1 : Nat}, Rt W b0 A0 n0 c0 B0 m0 d0 x0 → Rt W b1 A1 n1 c1 B1 m1 d1 y1 → Calls Tryz.prog 33 #[.agg #[.bool b0, .slice A0 n0 c0, .slice B0 m0 d0], .agg #[.bool b1, .slice A1 n1 c1, .slice B1 m1 d1]] W (GotRt W sv) := fun a b => by rw [← q_sv]; exact rtadd_N a (s0.le (by omega)) b (t1.le (by omega))
  have RM_ : ∀ {W : World} {b0 : Bool} {A0 B0 : Option Addr} {n0 c0 m0 d0 : Nat} {b1 : Bool} {A1 B1 : Option Addr} {n1 c1 m1 d1 : Nat}, Rt W b0 A0 n0 c0 B0 m0 d0 x0 → Rt W b1 A1 n1 c1 B1 m1 d1 y1 → Calls Tryz.prog 34 #[.agg #[.bool b0, .slice A0 n0 c0, .slice B0 m0 d0], .agg #[.bool b1, .slice A1 n1 c1, .slice B1 m1 d1]] W (GotRt W pv) := fun a b => by rw [← q_pv]; exact rtmul_N a (s0.le (by omega)) b (t1.le (by omega))
  obtain ⟨z, qz_⟩ : ∃ z, decide (x0 ≤ x2 ∧ x2 ≤ y0) = z := ⟨_, rfl⟩
  have HH := Lib.hid qz_
  have HI : Hid (decide ((x0 ≤ x2 ∧ x2 ≤ y0) ∧ (x0 ≤ x2 ∧ x2 ≤ y0)) = z) := Lib.hid (by rw [← qz_]; simp only [and_self])
  have HL : Hid (decide (x0 ≤ x0 ∧ x0 ≤ y0) = true) := Lib.hid (decide_eq_true ⟨Rat.le_refl, e0⟩)
  have HU : Hid (decide (x0 ≤ y0 ∧ y0 ≤ y0) = true) := Lib.hid (decide_eq_true ⟨e0, Rat.le_refl⟩)
  clear q_Ml q_Mh q_sl q_sh q_sv q_pv k1_ k2_ k3_ k4_ qz_ e0
  have cc := Below.refl w.heap.size w
  go_enter Tryz.func9, Tryz.ntmps9
  go_wp2_with fail
  generalize hv_ : ((w.alloc (.cells #[.bool b0, .slice A0 n0 c0, .slice B0 m0 d0, .bool p0, .slice V0 r0 k0, .slice U0 o0 q0] 29)).alloc (.cells #[.bool b1, .slice A1 n1 c1, .slice B1 m1 d1, .bool p1, .slice V1 r1 k1, .slice U1 o1 q1] 29)).alloc (.cells #[.bool b2, .slice A2 n2 c2, .slice B2 m2 d2] 27) = v1
  have bA : Below w.heap.size w v1 := by rw [← hv_]; exact ((((Below.refl _ w).alloc (by simp) _).alloc (by simp) _).alloc (by simp <;> omega) _)
  replace h0 := h0.on bA
  replace g0 := g0.on bA
  replace h1 := h1.on bA
  replace g1 := g1.on bA
  replace h2 := h2.on bA
  replace cc := bK cc bA
  clear bA
  obtain ⟨pa0, pa1, pa2, pa3, pa4, pa5⟩ : Cs6 v1 w.heap.size (.bool b0) (.slice A0 n0 c0) (.slice B0 m0 d0) (.bool p0) (.slice V0 r0 k0) (.slice U0 o0 q0) := by simp [Cs6, ← hv_, go_sem]
  have pal : w.heap.size < v1.heap.size := by simp [← hv_] <;> omega
  obtain ⟨pb0, pb1, pb2, pb3, pb4, pb5⟩ : Cs6 v1 (w.heap.size + 1) (.bool b1) (.slice A1 n1 c1) (.slice B1 m1 d1) (.bool p1) (.slice V1 r1 k1) (.slice U1 o1 q1) := by simp [Cs6, ← hv_, go_sem]
  have pbl : w.heap.size + 1 < v1.heap.size := by simp [← hv_] <;> omega
  obtain ⟨px0, px1, px2⟩ : Cs3 v1 (w.heap.size + 1 + 1) (.bool b2) (.slice A2 n2 c2) (.slice B2 m2 d2) := by simp [Cs3, ← hv_, go_sem]
  have pxl : w.heap.size + 1 + 1 < v1.heap.size := by simp [← hv_] <;> omega
  clear hv_
  refine (G0 _ cc).mono ?_
  rintro e w2 ⟨rfl, b⟩
  replace h0 := h0.on b
  replace g0 := g0.on b
  replace h1 := h1.on b
  replace g1 := g1.on b
  replace h2 := h2.on b
  rewrite [cR b pal] at pa0 pa1 pa2 pa3 pa4 pa5
  replace pal := lK b pal
  rewrite [cR b pbl] at pb0 pb1 pb2 pb3 pb4 pb5
  replace pbl := lK b pbl
  rewrite [cR b pxl] at px0 px1 px2
  replace pxl := lK b pxl
  replace cc := bK cc b
  clear b
  go_wp2_with fail
  refine (G1 _ cc).mono ?_
  rintro e w3 ⟨rfl, b⟩
  replace h0 := h0.on b
  replace g0 := g0.on b
  replace h1 := h1.on b
  replace g1 := g1.on b
  replace h2 := h2.on b
  rewrite [cR b pal] at pa0 pa1 pa2 pa3 pa4 pa5
  replace pal := lK b pal
  rewrite [cR b pbl] at pb0 pb1 pb2 pb3 pb4 pb5
  replace pbl := lK b pbl
  rewrite [cR b pxl] at px0 px1 px2
  replace pxl := lK b pxl
  replace cc := bK cc b
  clear b
  go_wp2_with fail
  refine (G2 _ cc).mono ?_
  rintro e w4 ⟨rfl, b⟩
  replace h0 := h0.on b
  replace g0 := g0.on b
  replace h1 := h1.on b
  replace g1 := g1.on b
  replace h2 := h2.on b
  rewrite [cR b pal] at pa0 pa1 pa2 pa3 pa4 pa5
  replace pal := lK b pal
  rewrite [cR b pbl] at pb0 pb1 pb2 pb3 pb4 pb5
  replace pbl := lK b pbl
  rewrite [cR b pxl] at px0 px1 px2
  replace pxl := lK b pxl
  replace cc := bK cc b
  clear b
  go_upto_region 3 with fail
  go_cut [7, 8] (fun ux uy wx => ∃ (gx gy : Nat) (bx_ : Bool) (Ax_ : Option Addr) (nx_ cx_ : Nat) (Bx_ : Option Addr) (mx_ dx_ : Nat) (px_ : Bool) (Vx_ : Option Addr) (rx_ kx_ : Nat) (Ux_ : Option Addr) (ox_ qx_ : Nat) (by_ : Bool) (Ay_ : Option Addr) (ny_ cy_ : Nat) (By_ : Option Addr) (my_ dy_ : Nat) (py_ : Bool) (Vy_ : Option Addr) (ry_ ky_ : Nat) (Uy_ : Option Addr) (oy_ qy_ : Nat), ux = .pointer (some ⟨gx, 0, none⟩) ∧ uy = .pointer (some ⟨gy, 0, none⟩) ∧ BothS w4 wx gx gy bx_ Ax_ nx_ cx_ Bx_ mx_ dx_ px_ Vx_ rx_ kx_ Ux_ ox_ qx_ by_ Ay_ ny_ cy_ By_ my_ dy_ py_ Vy_ ry_ ky_ Uy_ oy_ qy_ (x0) (x0) (y1) (y1))
  case first =>
    have BB0 : Below w4.heap.size w4 w4.drew := below_drewN (Below.refl _ w4) 1
    have BB1 : Below w4.heap.size w4 (w4.alloc (.cells #[.bool false, .slice none 0 0, .slice none 0 0, .bool false, .slice none 0 0, .slice none 0 0] 29)).drew := below_drewN (below_one _ _) 1
    have BB2 : Below w4.heap.size w4 ((w4.alloc (.cells #[.bool false, .slice none 0 0, .slice none 0 0, .bool false, .slice none 0 0, .slice none 0 0] 29)).alloc (.cells #[.bool false, .slice none 0 0, .slice none 0 0, .bool false, .slice none 0 0, .slice none 0 0] 29)).drew := below_drewN (below_two _ _ _) 1
    go_region_held3 (fun w' => w'.cell? ⟨w.heap.size, 0, none⟩ = some (.bool b0) ∧ w'.cell? ⟨w.heap.size, 1, none⟩ = some (.slice A0 n0 c0) ∧ w'.cell? ⟨w.heap.size, 2, none⟩ = some (.slice B0 m0 d0) ∧ w'.cell? ⟨w.heap.size, 3, none⟩ = some (.bool p0) ∧ w'.cell? ⟨w.heap.size, 4, none⟩ = some (.slice V0 r0 k0) ∧ w'.cell? ⟨w.heap.size, 5, none⟩ = some (.slice U0 o0 q0) ∧ w'.cell? ⟨w.heap.size + 1, 0, none⟩ = some (.bool b1) ∧ w'.cell? ⟨w.heap.size + 1, 1, none⟩ = some (.slice A1 n1 c1) ∧ w'.cell? ⟨w.heap.size + 1, 2, none⟩ = some (.slice B1 m1 d1) ∧ w'.cell? ⟨w.heap.size + 1, 3, none⟩ = some (.bool p1) ∧ w'.cell? ⟨w.heap.size + 1, 4, none⟩ = some (.slice V1 r1 k1) ∧ w'.cell? ⟨w.heap.size + 1, 5, none⟩ = some (.slice U1 o1 q1) ∧ w'.cell? ⟨w.heap.size + 1 + 1, 0, none⟩ = some (.bool b2) ∧ w'.cell? ⟨w.heap.size + 1 + 1, 1, none⟩ = some (.slice A2 n2 c2) ∧ w'.cell? ⟨w.heap.size + 1 + 1, 2, none⟩ = some (.slice B2 m2 d2))
      (first | with_reducible exact ⟨(cK qq pa0 pal), (cK qq pa1 pal), (cK qq pa2 pal), (cK qq pa3 pal), (cK qq pa4 pal), (cK qq pa5 pal), (cK qq pb0 pbl), (cK qq pb1 pbl), (cK qq pb2 pbl), (cK qq pb3 pbl), (cK qq pb4 pbl), (cK qq pb5 pbl), (cK qq px0 pxl), (cK qq px1 pxl), (cK qq px2 pxl)⟩ | with_reducible exact ⟨keep_alloc ((cK qq pa0 pal)), keep_alloc ((cK qq pa1 pal)), keep_alloc ((cK qq pa2 pal)), keep_alloc ((cK qq pa3 pal)), keep_alloc ((cK qq pa4 pal)), keep_alloc ((cK qq pa5 pal)), keep_alloc ((cK qq pb0 pbl)), keep_alloc ((cK qq pb1 pbl)), keep_alloc ((cK qq pb2 pbl)), keep_alloc ((cK qq pb3 pbl)), keep_alloc ((cK qq pb4 pbl)), keep_alloc ((cK qq pb5 pbl)), keep_alloc ((cK qq px0 pxl)), keep_alloc ((cK qq px1 pxl)), keep_alloc ((cK qq px2 pxl))⟩ | with_reducible exact ⟨keep_alloc (keep_alloc ((cK qq pa0 pal))), keep_alloc (keep_alloc ((cK qq pa1 pal))), keep_alloc (keep_alloc ((cK qq pa2 pal))), keep_alloc (keep_alloc ((cK qq pa3 pal))), keep_alloc (keep_alloc ((cK qq pa4 pal))), keep_alloc (keep_alloc ((cK qq pa5 pal))), keep_alloc (keep_alloc ((cK qq pb0 pbl))), keep_alloc (keep_alloc ((cK qq pb1 pbl))), keep_alloc (keep_alloc ((cK qq pb2 pbl))), keep_alloc (keep_alloc ((cK qq pb3 pbl))), keep_alloc (keep_alloc ((cK qq pb4 pbl))), keep_alloc (keep_alloc ((cK qq pb5 pbl))), keep_alloc (keep_alloc ((cK qq px0 pxl))), keep_alloc (keep_alloc ((cK qq px1 pxl))), keep_alloc (keep_alloc ((cK qq px2 pxl)))⟩ | with_reducible exact ⟨((cell_putS (by omega)).trans (cK qq pa0 pal)), ((cell_putS (by omega)).trans (cK qq pa1 pal)), ((cell_putS (by omega)).trans (cK qq pa2 pal)), ((cell_putS (by omega)).trans (cK qq pa3 pal)), ((cell_putS (by omega)).trans (cK qq pa4 pal)), ((cell_putS (by omega)).trans (cK qq pa5 pal)), ((cell_putS (by omega)).trans (cK qq pb0 pbl)), ((cell_putS (by omega)).trans (cK qq pb1 pbl)), ((cell_putS (by omega)).trans (cK qq pb2 pbl)), ((cell_putS (by omega)).trans (cK qq pb3 pbl)), ((cell_putS (by omega)).trans (cK qq pb4 pbl)), ((cell_putS (by omega)).trans (cK qq pb5 pbl)), ((cell_putS (by omega)).trans (cK qq px0 pxl)), ((cell_putS (by omega)).trans (cK qq px1 pxl)), ((cell_putS (by omega)).trans (cK qq px2 pxl))⟩ | with_reducible exact ⟨keep_alloc (((cell_putS (by omega)).trans (cK qq pa0 pal))), keep_alloc (((cell_putS (by omega)).trans (cK qq pa1 pal))), keep_alloc (((cell_putS (by omega)).trans (cK qq pa2 pal))), keep_alloc (((cell_putS (by omega)).trans (cK qq pa3 pal))), keep_alloc (((cell_putS (by omega)).trans (cK qq pa4 pal))), keep_alloc (((cell_putS (by omega)).trans (cK qq pa5 pal))), keep_alloc (((cell_putS (by omega)).trans (cK qq pb0 pbl))), keep_alloc (((cell_putS (by omega)).trans (cK qq pb1 pbl))), keep_alloc (((cell_putS (by omega)).trans (cK qq pb2 pbl))), keep_alloc (((cell_putS (by omega)).trans (cK qq pb3 pbl))), keep_alloc (((cell_putS (by omega)).trans (cK qq pb4 pbl))), keep_alloc (((cell_putS (by omega)).trans (cK qq pb5 pbl))), keep_alloc (((cell_putS (by omega)).trans (cK qq px0 pxl))), keep_alloc (((cell_putS (by omega)).trans (cK qq px1 pxl))), keep_alloc (((cell_putS (by omega)).trans (cK qq px2 pxl)))⟩ | with_reducible exact ⟨((cell_putS (by omega)).trans ((cell_putS (by omega)).trans (cK qq pa0 pal))), ((cell_putS (by omega)).trans ((cell_putS (by omega)).trans (cK qq pa1 pal))), ((cell_putS (by omega)).trans ((cell_putS (by omega)).trans (cK qq pa2 pal))), ((cell_putS (by omega)).trans ((cell_putS (by omega)).trans (cK qq pa3 pal))), ((cell_putS (by omega)).trans ((cell_putS (by omega)).trans (cK qq pa4 pal))), ((cell_putS (by omega)).trans ((cell_putS (by omega)).trans (cK qq pa5 pal))), ((cell_putS (by omega)).trans ((cell_putS (by omega)).trans (cK qq pb0 pbl))), ((cell_putS (by omega)).trans ((cell_putS (by omega)).trans (cK qq pb1 pbl))), ((cell_putS (by omega)).trans ((cell_putS (by omega)).trans (cK qq pb2 pbl))), ((cell_putS (by omega)).trans ((cell_putS (by omega)).trans (cK qq pb3 pbl))), ((cell_putS (by omega)).trans ((cell_putS (by omega)).trans (cK qq pb4 pbl))), ((cell_putS (by omega)).trans ((cell_putS (by omega)).trans (cK qq pb5 pbl))), ((cell_putS (by omega)).trans ((cell_putS (by omega)).trans (cK qq px0 pxl))), ((cell_putS (by omega)).trans ((cell_putS (by omega)).trans (cK qq px1 pxl))), ((cell_putS (by omega)).trans ((cell_putS (by omega)).trans (cK qq px2 pxl)))⟩ | go_keep)
      (first
        | (go_at_call 15; (with_reducible refine (iof_N (h0.on BB0) (s0.le (by omega))).mono ?_); rintro e wy ⟨bx_, Ax_, nx_, cx_, Bx_, mx_, dx_, px_, Vx_, rx_, kx_, Ux_, ox_, qx_, rfl, ⟨hx, gx_⟩, q⟩; have qq := BB0.trans (q.mono BB0.size); have qs := qq.size; clear q)
        | (go_at_call 15; (with_reducible refine (iof_N (h0.on BB1) (s0.le (by omega))).mono ?_); rintro e wy ⟨bx_, Ax_, nx_, cx_, Bx_, mx_, dx_, px_, Vx_, rx_, kx_, Ux_, ox_, qx_, rfl, ⟨hx, gx_⟩, q⟩; have qq := BB1.trans (q.mono BB1.size); have qs := qq.size; obtain ⟨c00, d00, c01, d01, c02, d02, c03, d03, c04, d04, c05, d05, l0⟩ := zb6 (g := w4.heap.size) q (by simp <;> omega) (by simp [Cs6, go_sem]) (by simp [Fz6, go_sem]); clear q)
        | (go_at_call 15; (with_reducible refine (iof_N (h0.on BB2) (s0.le (by omega))).mono ?_); rintro e wy ⟨bx_, Ax_, nx_, cx_, Bx_, mx_, dx_, px_, Vx_, rx_, kx_, Ux_, ox_, qx_, rfl, ⟨hx, gx_⟩, q⟩; have qq := BB2.trans (q.mono BB2.size); have qs := qq.size; obtain ⟨c00, d00, c01, d01, c02, d02, c03, d03, c04, d04, c05, d05, l0⟩ := zb6 (g := w4.heap.size) q (by simp <;> omega) (by simp [Cs6, go_sem]) (by simp [Fz6, go_sem]); obtain ⟨c10, d10, c11, d11, c12, d12, c13, d13, c14, d14, c15, d15, l1⟩ := zb6 (g := w4.heap.size + 1) q (by simp <;> omega) (by simp [Cs6, go_sem]) (by simp [Fz6, go_sem]); clear q)
        | (go_at_call 15; have up := Below.refl wy.heap.size wy; (with_reducible refine (iof_N ((g1.on qq).on up) (t1.le (by omega))).mono ?_); rintro e wz ⟨by_, Ay_, ny_, cy_, By_, my_, dy_, py_, Vy_, ry_, ky_, Uy_, oy_, qy_, rfl, ⟨hy, gy_⟩, q⟩; (try (rewrite [cR up l0, cR q (lK up l0)] at c00 c01 c02 c03 c04 c05; rewrite [fR up l0, fR q (lK up l0)] at d00 d01 d02 d03 d04 d05; have l0' := lK q (lK up l0))); (try (rewrite [cR up l1, cR q (lK up l1)] at c10 c11 c12 c13 c14 c15; rewrite [fR up l1, fR q (lK up l1)] at d10 d11 d12 d13 d14 d15; have l1' := lK q (lK up l1))); replace hx := (hx.on up).on q; replace gx_ := (gx_.on up).on q; replace qq := uK qq up q; have qs2 := qq.size; clear q up)
        | (go_at_call 15; have up := below_one wy (.cells #[.bool false, .slice none 0 0, .slice none 0 0, .bool false, .slice none 0 0, .slice none 0 0] 29); (with_reducible refine (iof_N ((g1.on qq).on up) (t1.le (by omega))).mono ?_); rintro e wz ⟨by_, Ay_, ny_, cy_, By_, my_, dy_, py_, Vy_, ry_, ky_, Uy_, oy_, qy_, rfl, ⟨hy, gy_⟩, q⟩; (try (rewrite [cR up l0, cR q (lK up l0)] at c00 c01 c02 c03 c04 c05; rewrite [fR up l0, fR q (lK up l0)] at d00 d01 d02 d03 d04 d05; have l0' := lK q (lK up l0))); (try (rewrite [cR up l1, cR q (lK up l1)] at c10 c11 c12 c13 c14 c15; rewrite [fR up l1, fR q (lK up l1)] at d10 d11 d12 d13 d14 d15; have l1' := lK q (lK up l1))); obtain ⟨e00, f00, e01, f01, e02, f02, e03, f03, e04, f04, e05, f05, n0⟩ := zb6 (g := wy.heap.size) q (by simp <;> omega) (by simp [Cs6, go_sem]) (by simp [Fz6, go_sem]); replace hx := (hx.on up).on q; replace gx_ := (gx_.on up).on q; replace qq := uK qq up q; have qs2 := qq.size; clear q up)
        | (go_at_call 15; have up := below_two wy (.cells #[.bool false, .slice none 0 0, .slice none 0 0, .bool false, .slice none 0 0, .slice none 0 0] 29) (.cells #[.bool false, .slice none 0 0, .slice none 0 0, .bool false, .slice none 0 0, .slice none 0 0] 29); (with_reducible refine (iof_N ((g1.on qq).on up) (t1.le (by omega))).mono ?_); rintro e wz ⟨by_, Ay_, ny_, cy_, By_, my_, dy_, py_, Vy_, ry_, ky_, Uy_, oy_, qy_, rfl, ⟨hy, gy_⟩, q⟩; (try (rewrite [cR up l0, cR q (lK up l0)] at c00 c01 c02 c03 c04 c05; rewrite [fR up l0, fR q (lK up l0)] at d00 d01 d02 d03 d04 d05; have l0' := lK q (lK up l0))); (try (rewrite [cR up l1, cR q (lK up l1)] at c10 c11 c12 c13 c14 c15; rewrite [fR up l1, fR q (lK up l1)] at d10 d11 d12 d13 d14 d15; have l1' := lK q (lK up l1))); obtain ⟨e00, f00, e01, f01, e02, f02, e03, f03, e04, f04, e05, f05, n0⟩ := zb6 (g := wy.heap.size) q (by simp <;> omega) (by simp [Cs6, go_sem]) (by simp [Fz6, go_sem]); obtain ⟨e10, f10, e11, f11, e12, f12, e13, f13, e14, f14, e15, f15, n1⟩ := zb6 (g := wy.heap.size + 1) q (by simp <;> omega) (by simp [Cs6, go_sem]) (by simp [Fz6, go_sem]); replace hx := (hx.on up).on q; replace gx_ := (gx_.on up).on q; replace qq := uK qq up q; have qs2 := qq.size; clear q up))
    all_goals (go_wp2_with fail; go_meet)
    all_goals refine ⟨_, _, bx_, Ax_, nx_, cx_, Bx_, mx_, dx_, px_, Vx_, rx_, kx_, Ux_, ox_, qx_, by_, Ay_, ny_, cy_, By_, my_, dy_, py_, Vy_, ry_, ky_, Uy_, oy_, qy_, rfl, rfl, ?_⟩
    all_goals first
      | with_reducible exact pairSA hx gx_ hy gy_ qq _
      | with_reducible exact pairSA' hx gx_ hy gy_ qq _
      | with_reducible exact pairSB (by assumption) (by assumption) (by assumption) (by assumption) (by assumption) (by assumption) hx gx_ hy gy_ qq (by omega) _
      | with_reducible exact pairSB' (by assumption) (by assumption) (by assumption) (by assumption) (by assumption) (by assumption) hx gx_ hy gy_ qq (by omega) _
      | with_reducible exact pairSC (by assumption) (by assumption) (by assumption) (by assumption) (by assumption) (by assumption) (by assumption) (by assumption) (by assumption) (by assumption) (by assumption) (by assumption) hx gx_ hy gy_ qq (by omega) (by omega) (by omega)
  case rest =>
    obtain ⟨gpp, gqz, bpp, App, npp, cpp, Bpp, mpp, dpp, ppp, Vpp, rpp, kpp, Upp, opp, qpp, bqz, Aqz, nqz, cqz, Bqz, mqz, dqz, pqz, Vqz, rqz, kqz, Uqz, oqz, qqz, rfl, rfl, ⟨pp0, pp1, pp2, pp3, pp4, pp5⟩, ⟨qz0, qz1, qz2, qz3, qz4, qz5⟩, ⟨hpp, gpp_⟩, ⟨hqz, gqz_⟩, b, ppge, qzge, ppqqz⟩ := hcut
    have ppl := cell_lt pp0
    have qzl := cell_lt qz0
    simp only at ppl qzl
    have ppqpa : w.heap.size < gpp := Nat.lt_of_lt_of_le pal ppge
    have ppqpb : w.heap.size + 1 < gpp := Nat.lt_of_lt_of_le pbl ppge
    have ppqpx : w.heap.size + 1 + 1 < gpp := Nat.lt_of_lt_of_le pxl ppge
    have qzqpa : w.heap.size < gqz := Nat.lt_of_lt_of_le pal qzge
    have qzqpb : w.heap.size + 1 < gqz := Nat.lt_of_lt_of_le pbl qzge
    have qzqpx : w.heap.size + 1 + 1 < gqz := Nat.lt_of_lt_of_le pxl qzge
    replace h0 := h0.on b
    replace g0 := g0.on b
    replace h1 := h1.on b
    replace g1 := g1.on b
    replace h2 := h2.on b
    rewrite [cR b pal] at pa0 pa1 pa2 pa3 pa4 pa5
    replace pal := lK b pal
    rewrite [cR b pbl] at pb0 pb1 pb2 pb3 pb4 pb5
    replace pbl := lK b pbl
    rewrite [cR b pxl] at px0 px1 px2
    replace pxl := lK b pxl
    replace cc := bK cc b
    clear b
    go_wp2_with fail
    refine (RA_ h0 g1).mono ?_
    rintro e w5 ⟨be, Ae, ne, ce, Be, me, de, rfl, he, b⟩
    replace h0 := h0.on b
    replace g0 := g0.on b
    replace h1 := h1.on b
    replace g1 := g1.on b
    replace h2 := h2.on b
    replace hpp := hpp.on b
    replace gpp_ := gpp_.on b
    replace hqz := hqz.on b
    replace gqz_ := gqz_.on b
    rewrite [cR b pal] at pa0 pa1 pa2 pa3 pa4 pa5
    replace pal := lK b pal
    rewrite [cR b pbl] at pb0 pb1 pb2 pb3 pb4 pb5
    replace pbl := lK b pbl
    rewrite [cR b pxl] at px0 px1 px2
    replace pxl := lK b pxl
    rewrite [cR b ppl] at pp0 pp1 pp2 pp3 pp4 pp5
    replace ppl := lK b ppl
    rewrite [cR b qzl] at qz0 qz1 qz2 qz3 qz4 qz5
    replace qzl := lK b qzl
    replace cc := bK cc b
    clear b
    go_wp2_with fail
    refine (iof_N he (zs_.le (by omega))).mono ?_
    rintro e w6 ⟨bf, Af, nf, cf, Bf, mf, df, pf, Vf, rf, kf, Uf, of, qf, rfl, ⟨hf, gf⟩, b⟩
    replace h0 := h0.on b
    replace g0 := g0.on b
    replace h1 := h1.on b
    replace g1 := g1.on b
    replace h2 := h2.on b
    replace hpp := hpp.on b
    replace gpp_ := gpp_.on b
    replace hqz := hqz.on b
    replace gqz_ := gqz_.on b
    replace he := he.on b
    rewrite [cR b pal] at pa0 pa1 pa2 pa3 pa4 pa5
    replace pal := lK b pal
    rewrite [cR b pbl] at pb0 pb1 pb2 pb3 pb4 pb5
    replace pbl := lK b pbl
    rewrite [cR b pxl] at px0 px1 px2
    replace pxl := lK b pxl
    rewrite [cR b ppl] at pp0 pp1 pp2 pp3 pp4 pp5
    replace ppl := lK b ppl
    rewrite [cR b qzl] at qz0 qz1 qz2 qz3 qz4 qz5
    replace qzl := lK b qzl
    replace cc := bK cc b
    clear b
    go_wp2_with fail
    generalize hv_ : w6.alloc (.cells #[.bool bf, .slice Af nf cf, .slice Bf mf df, .bool pf, .slice Vf rf kf, .slice Uf of qf] 29) = v7
    have bA : Below w6.heap.size w6 v7 := by rw [← hv_]; exact below_one _ _
    replace h0 := h0.on bA
    replace g0 := g0.on bA
    replace h1 := h1.on bA
    replace g1 := g1.on bA
    replace h2 := h2.on bA
    replace hpp := hpp.on bA
    replace gpp_ := gpp_.on bA
    replace hqz := hqz.on bA
    replace gqz_ := gqz_.on bA
    replace he := he.on bA
    replace hf := hf.on bA
    replace gf := gf.on bA
    rewrite [cR bA pal] at pa0 pa1 pa2 pa3 pa4 pa5
    replace pal := lK bA pal
    rewrite [cR bA pbl] at pb0 pb1 pb2 pb3 pb4 pb5
    replace pbl := lK bA pbl
    rewrite [cR bA pxl] at px0 px1 px2
    replace pxl := lK bA pxl
    rewrite [cR bA ppl] at pp0 pp1 pp2 pp3 pp4 pp5
    replace ppl := lK bA ppl
    rewrite [cR bA qzl] at qz0 qz1 qz2 qz3 qz4 qz5
    replace qzl := lK bA qzl
    replace cc := bK cc bA
    clear bA
    obtain ⟨sm0, sm1, sm2, sm3, sm4, sm5⟩ : Cs6 v7 w6.heap.size (.bool bf) (.slice Af nf cf) (.slice Bf mf df) (.bool pf) (.slice Vf rf kf) (.slice Uf of qf) := by simp [Cs6, ← hv_, go_sem]
    have sml : w6.heap.size < v7.heap.size := by simp [← hv_]
    clear hv_
    clear he
    go_wp2_with fail
    refine (RM_ h0 g1).mono ?_
    rintro e w8 ⟨be, Ae, ne, ce, Be, me, de, rfl, he, b⟩
    replace h0 := h0.on b
    replace g0 := g0.on b
    replace h1 := h1.on b
    replace g1 := g1.on b
    replace h2 := h2.on b
    replace hpp := hpp.on b
    replace gpp_ := gpp_.on b
    replace hqz := hqz.on b
    replace gqz_ := gqz_.on b
    replace hf := hf.on b
    replace gf := gf.on b
    rewrite [cR b pal] at pa0 pa1 pa2 pa3 pa4 pa5
    replace pal := lK b pal
    rewrite [cR b pbl] at pb0 pb1 pb2 pb3 pb4 pb5
    replace pbl := lK b pbl
    rewrite [cR b pxl] at px0 px1 px2
    replace pxl := lK b pxl
    rewrite [cR b ppl] at pp0 pp1 pp2 pp3 pp4 pp5
    replace ppl := lK b ppl
    rewrite [cR b qzl] at qz0 qz1 qz2 qz3 qz4 qz5
    replace qzl := lK b qzl
    rewrite [cR b sml] at sm0 sm1 sm2 sm3 sm4 sm5
    replace sml := lK b sml
    replace cc := bK cc b
    clear b
    go_wp2_with fail
    refine (iof_N he (zp_.le (by omega))).mono ?_
    rintro e w9 ⟨bj, Aj, nj, cj, Bj, mj, dj, pj, Vj, rj, kj, Uj, oj, qj, rfl, ⟨hj, gj⟩, b⟩
    replace h0 := h0.on b
    replace g0 := g0.on b
    replace h1 := h1.on b
    replace g1 := g1.on b
    replace h2 := h2.on b
    replace hpp := hpp.on b
    replace gpp_ := gpp_.on b
    replace hqz := hqz.on b
    replace gqz_ := gqz_.on b
    replace hf := hf.on b
    replace gf := gf.on b
    replace he := he.on b
    rewrite [cR b pal] at pa0 pa1 pa2 pa3 pa4 pa5
    replace pal := lK b pal
    rewrite [cR b pbl] at pb0 pb1 pb2 pb3 pb4 pb5
    replace pbl := lK b pbl
    rewrite [cR b pxl] at px0 px1 px2
    replace pxl := lK b pxl
    rewrite [cR b ppl] at pp0 pp1 pp2 pp3 pp4 pp5
    replace ppl := lK b ppl
    rewrite [cR b qzl] at qz0 qz1 qz2 qz3 qz4 qz5
    replace qzl := lK b qzl
    rewrite [cR b sml] at sm0 sm1 sm2 sm3 sm4 sm5
    replace sml := lK b sml
    replace cc := bK cc b
    clear b
    go_wp2_with fail
    generalize hv_ : w9.alloc (.cells #[.bool bj, .slice Aj nj cj, .slice Bj mj dj, .bool pj, .slice Vj rj kj, .slice Uj oj qj] 29) = v10
    have bA : Below w9.heap.size w9 v10 := by rw [← hv_]; exact below_one _ _
    replace h0 := h0.on bA
    replace g0 := g0.on bA
    replace h1 := h1.on bA
    replace g1 := g1.on bA
    replace h2 := h2.on bA
    replace hpp := hpp.on bA
    replace gpp_ := gpp_.on bA
    replace hqz := hqz.on bA
    replace gqz_ := gqz_.on bA
    replace hf := hf.on bA
    replace gf := gf.on bA
    replace he := he.on bA
    replace hj := hj.on bA
    replace gj := gj.on bA
    rewrite [cR bA pal] at pa0 pa1 pa2 pa3 pa4 pa5
    replace pal := lK bA pal
    rewrite [cR bA pbl] at pb0 pb1 pb2 pb3 pb4 pb5
    replace pbl := lK bA pbl
    rewrite [cR bA pxl] at px0 px1 px2
    replace pxl := lK bA pxl
    rewrite [cR bA ppl] at pp0 pp1 pp2 pp3 pp4 pp5
    replace ppl := lK bA ppl
    rewrite [cR bA qzl] at qz0 qz1 qz2 qz3 qz4 qz5
    replace qzl := lK bA qzl
    rewrite [cR bA sml] at sm0 sm1 sm2 sm3 sm4 sm5
    replace sml := lK bA sml
    replace cc := bK cc bA
    clear bA
    obtain ⟨pr0, pr1, pr2, pr3, pr4, pr5⟩ : Cs6 v10 w9.heap.size (.bool bj) (.slice Aj nj cj) (.slice Bj mj dj) (.bool pj) (.slice Vj rj kj) (.slice Uj oj qj) := by simp [Cs6, ← hv_, go_sem]
    have prl : w9.heap.size < v10.heap.size := by simp [← hv_]
    clear hv_
    clear he
    go_wp2_with fail
    have bD : Below v10.heap.size v10 v10.drew := below_drewN (Below.refl _ v10) 1
    replace h0 := h0.on bD
    replace g0 := g0.on bD
    replace h1 := h1.on bD
    replace g1 := g1.on bD
    replace h2 := h2.on bD
    replace hpp := hpp.on bD
    replace gpp_ := gpp_.on bD
    replace hqz := hqz.on bD
    replace gqz_ := gqz_.on bD
    replace hf := hf.on bD
    replace gf := gf.on bD
    replace hj := hj.on bD
    replace gj := gj.on bD
    rewrite [cR bD pal] at pa0 pa1 pa2 pa3 pa4 pa5
    replace pal := lK bD pal
    rewrite [cR bD pbl] at pb0 pb1 pb2 pb3 pb4 pb5
    replace pbl := lK bD pbl
    rewrite [cR bD pxl] at px0 px1 px2
    replace pxl := lK bD pxl
    rewrite [cR bD ppl] at pp0 pp1 pp2 pp3 pp4 pp5
    replace ppl := lK bD ppl
    rewrite [cR bD qzl] at qz0 qz1 qz2 qz3 qz4 qz5
    replace qzl := lK bD qzl
    rewrite [cR bD sml] at sm0 sm1 sm2 sm3 sm4 sm5
    replace sml := lK bD sml
    rewrite [cR bD prl] at pr0 pr1 pr2 pr3 pr4 pr5
    replace prl := lK bD prl
    replace cc := bK cc bD
    clear bD
    refine wp_region_held_drew (S := fun w' => w'.cell? ⟨w.heap.size, 0, none⟩ = some (.bool b0) ∧ w'.cell? ⟨w.heap.size, 1, none⟩ = some (.slice A0 n0 c0) ∧ w'.cell? ⟨w.heap.size, 2, none⟩ = some (.slice B0 m0 d0) ∧ w'.cell? ⟨w.heap.size, 3, none⟩ = some (.bool p0) ∧ w'.cell? ⟨w.heap.size, 4, none⟩ = some (.slice V0 r0 k0) ∧ w'.cell? ⟨w.heap.size, 5, none⟩ = some (.slice U0 o0 q0) ∧ w'.cell? ⟨w.heap.size + 1, 0, none⟩ = some (.bool b1) ∧ w'.cell? ⟨w.heap.size + 1, 1, none⟩ = some (.slice A1 n1 c1) ∧ w'.cell? ⟨w.heap.size + 1, 2, none⟩ = some (.slice B1 m1 d1) ∧ w'.cell? ⟨w.heap.size + 1, 3, none⟩ = some (.bool p1) ∧ w'.cell? ⟨w.heap.size + 1, 4, none⟩ = some (.slice V1 r1 k1) ∧ w'.cell? ⟨w.heap.size + 1, 5, none⟩ = some (.slice U1 o1 q1) ∧ w'.cell? ⟨w.heap.size + 1 + 1, 0, none⟩ = some (.bool b2) ∧ w'.cell? ⟨w.heap.size + 1 + 1, 1, none⟩ = some (.slice A2 n2 c2) ∧ w'.cell? ⟨w.heap.size + 1 + 1, 2, none⟩ = some (.slice B2 m2 d2) ∧ w'.cell? ⟨gpp, 0, none⟩ = some (.bool bpp) ∧ w'.cell? ⟨gpp, 1, none⟩ = some (.slice App npp cpp) ∧ w'.cell? ⟨gpp, 2, none⟩ = some (.slice Bpp mpp dpp) ∧ w'.cell? ⟨gpp, 3, none⟩ = some (.bool ppp) ∧ w'.cell? ⟨gpp, 4, none⟩ = some (.slice Vpp rpp kpp) ∧ w'.cell? ⟨gpp, 5, none⟩ = some (.slice Upp opp qpp) ∧ w'.cell? ⟨gqz, 0, none⟩ = some (.bool bqz) ∧ w'.cell? ⟨gqz, 1, none⟩ = some (.slice Aqz nqz cqz) ∧ w'.cell? ⟨gqz, 2, none⟩ = some (.slice Bqz mqz dqz) ∧ w'.cell? ⟨gqz, 3, none⟩ = some (.bool pqz) ∧ w'.cell? ⟨gqz, 4, none⟩ = some (.slice Vqz rqz kqz) ∧ w'.cell? ⟨gqz, 5, none⟩ = some (.slice Uqz oqz qqz) ∧ w'.cell? ⟨w6.heap.size, 0, none⟩ = some (.bool bf) ∧ w'.cell? ⟨w6.heap.size, 1, none⟩ = some (.slice Af nf cf) ∧ w'.cell? ⟨w6.heap.size, 2, none⟩ = some (.slice Bf mf df) ∧ w'.cell? ⟨w6.heap.size, 3, none⟩ = some (.bool pf) ∧ w'.cell? ⟨w6.heap.size, 4, none⟩ = some (.slice Vf rf kf) ∧ w'.cell? ⟨w6.heap.size, 5, none⟩ = some (.slice Uf of qf) ∧ w'.cell? ⟨w9.heap.size, 0, none⟩ = some (.bool bj) ∧ w'.cell? ⟨w9.heap.size, 1, none⟩ = some (.slice Aj nj cj) ∧ w'.cell? ⟨w9.heap.size, 2, none⟩ = some (.slice Bj mj dj) ∧ w'.cell? ⟨w9.heap.size, 3, none⟩ = some (.bool pj) ∧ w'.cell? ⟨w9.heap.size, 4, none⟩ = some (.slice Vj rj kj) ∧ w'.cell? ⟨w9.heap.size, 5, none⟩ = some (.slice Uj oj qj)) (by kernel_rfl) ?_ (fun hHeld => ?_)
    · exact ⟨pa0, pa1, pa2, pa3, pa4, pa5, pb0, pb1, pb2, pb3, pb4, pb5, px0, px1, px2, pp0, pp1, pp2, pp3, pp4, pp5, qz0, qz1, qz2, qz3, qz4, qz5, sm0, sm1, sm2, sm3, sm4, sm5, pr0, pr1, pr2, pr3, pr4, pr5⟩
    refine wpAnyH_take (i := 0) (v := ?_) rfl (by kernel_rfl) (by kernel_rfl) (by kernel_rfl) (fun _ _ _ h => h) (Or.inl ⟨by rfl, ?_⟩) hHeld ?_
    rotate_left
    · (intro w hSw; (try dsimp only at hSw); go_simp; (try with_reducible rfl))
    try simp only [Act.put, pT]
    refine wpAnyH_take (i := 1) (v := ?_) rfl (by kernel_rfl) (by kernel_rfl) (by kernel_rfl) (fun _ _ _ h => h) (Or.inl ⟨by rfl, ?_⟩) hHeld ?_
    rotate_left
    · (intro w hSw; (try dsimp only at hSw); go_simp; (try with_reducible rfl))
    try simp only [Act.put, pT]
    refine wpAnyH_take (i := 3) (v := ?_) rfl (by kernel_rfl) (by kernel_rfl) (by kernel_rfl) (fun _ _ _ h => h) (Or.inl ⟨by rfl, ?_⟩) hHeld ?_
    rotate_left
    · (intro w hSw; (try dsimp only at hSw); go_simp; (try with_reducible rfl))
    try simp only [Act.put, pT]
    refine wpAnyH_ready (rs := [2]) (by kernel_rfl) (by simp) ?_
    refine AllReadyH.cons rfl (fun K hK => ?_) AllReadyH.nil
    (try simp only [pT])
    rw [if_pos (by rfl)]
    go_simp
    go_at_call 24
    refine (CA3 hpp gpp_ hqz gqz_).mono ?_
    rintro e w11 ⟨bu, Au, nu, cu, Bu, mu, du, pu, Vu, ru, ku, Uu, ou, qu, rfl, ⟨hu, gu⟩, b⟩
    replace h0 := h0.on b
    replace g0 := g0.on b
    replace h1 := h1.on b
    replace g1 := g1.on b
    replace h2 := h2.on b
    replace hpp := hpp.on b
    replace gpp_ := gpp_.on b
    replace hqz := hqz.on b
    replace gqz_ := gqz_.on b
    replace hf := hf.on b
    replace gf := gf.on b
    replace hj := hj.on b
    replace gj := gj.on b
    rewrite [cR b pal] at pa0 pa1 pa2 pa3 pa4 pa5
    replace pal := lK b pal
    rewrite [cR b pbl] at pb0 pb1 pb2 pb3 pb4 pb5
    replace pbl := lK b pbl
    rewrite [cR b pxl] at px0 px1 px2
    replace pxl := lK b pxl
    rewrite [cR b ppl] at pp0 pp1 pp2 pp3 pp4 pp5
    replace ppl := lK b ppl
    rewrite [cR b qzl] at qz0 qz1 qz2 qz3 qz4 qz5
    replace qzl := lK b qzl
    rewrite [cR b sml] at sm0 sm1 sm2 sm3 sm4 sm5
    replace sml := lK b sml
    rewrite [cR b prl] at pr0 pr1 pr2 pr3 pr4 pr5
    replace prl := lK b prl
    replace cc := bK cc b
    clear b
    refine hK.out _ _ ?_ (fun hHeld => ?_)
    · exact ⟨pa0, pa1, pa2, pa3, pa4, pa5, pb0, pb1, pb2, pb3, pb4, pb5, px0, px1, px2, pp0, pp1, pp2, pp3, pp4, pp5, qz0, qz1, qz2, qz3, qz4, qz5, sm0, sm1, sm2, sm3, sm4, sm5, pr0, pr1, pr2, pr3, pr4, pr5⟩
    clear hK K
    try simp only [Act.put, pT]
    refine wpAnyH_ready (rs := [4]) (by kernel_rfl) (by simp) ?_
    refine AllReadyH.cons rfl (fun K hK => ?_) AllReadyH.nil
    (try simp only [pT])
    rw [if_pos (by rfl)]
    go_simp
    go_at_call 14
    refine (stsame_N hu gu (zs_.le (by omega)) (zs_.le (by omega)) hf gf (zs_.le (by omega)) (zs_.le (by omega)) true two_eq).mono ?_
    rintro e w12 ⟨rfl, b⟩
    replace h0 := h0.on b
    replace g0 := g0.on b
    replace h1 := h1.on b
    replace g1 := g1.on b
    replace h2 := h2.on b
    replace hpp := hpp.on b
    replace gpp_ := gpp_.on b
    replace hqz := hqz.on b
    replace gqz_ := gqz_.on b
    replace hf := hf.on b
    replace gf := gf.on b
    replace hj := hj.on b
    replace gj := gj.on b
    replace hu := hu.on b
    replace gu := gu.on b
    rewrite [cR b pal] at pa0 pa1 pa2 pa3 pa4 pa5
    replace pal := lK b pal
    rewrite [cR b pbl] at pb0 pb1 pb2 pb3 pb4 pb5
    replace pbl := lK b pbl
    rewrite [cR b pxl] at px0 px1 px2
    replace pxl := lK b pxl
    rewrite [cR b ppl] at pp0 pp1 pp2 pp3 pp4 pp5
    replace ppl := lK b ppl
    rewrite [cR b qzl] at qz0 qz1 qz2 qz3 qz4 qz5
    replace qzl := lK b qzl
    rewrite [cR b sml] at sm0 sm1 sm2 sm3 sm4 sm5
    replace sml := lK b sml
    rewrite [cR b prl] at pr0 pr1 pr2 pr3 pr4 pr5
    replace prl := lK b prl
    replace cc := bK cc b
    clear b
    refine hK.out _ _ ?_ (fun hHeld => ?_)
    · exact ⟨pa0, pa1, pa2, pa3, pa4, pa5, pb0, pb1, pb2, pb3, pb4, pb5, px0, px1, px2, pp0, pp1, pp2, pp3, pp4, pp5, qz0, qz1, qz2, qz3, qz4, qz5, sm0, sm1, sm2, sm3, sm4, sm5, pr0, pr1, pr2, pr3, pr4, pr5⟩
    clear hK K
    try simp only [Act.put, pT]
    refine wpAnyH_take (i := 5) (v := ?_) rfl (by kernel_rfl) (by kernel_rfl) (by kernel_rfl) (fun _ _ _ h => h) (Or.inl ⟨by rfl, ?_⟩) hHeld ?_
    rotate_left
    · (intro w hSw; (try dsimp only at hSw); go_simp; (try with_reducible rfl))
    try simp only [Act.put, pT]
    refine wpAnyH_take (i := 6) (v := ?_) rfl (by kernel_rfl) (by kernel_rfl) (by kernel_rfl) (fun _ _ _ h => h) (Or.inl ⟨by rfl, ?_⟩) hHeld ?_
    rotate_left
    · (intro w hSw; (try dsimp only at hSw); go_simp; (try with_reducible rfl))
    try simp only [Act.put, pT]
    refine wpAnyH_take (i := 7) (v := ?_) rfl (by kernel_rfl) (by kernel_rfl) (by kernel_rfl) (fun _ _ _ h => h) (Or.inl ⟨by rfl, ?_⟩) hHeld ?_
    rotate_left
    · (intro w hSw; (try dsimp only at hSw); go_simp; (try with_reducible rfl))
    try simp only [Act.put, pT]
    refine wpAnyH_take (i := 9) (v := ?_) rfl (by kernel_rfl) (by kernel_rfl) (by kernel_rfl) (fun _ _ _ h => h) (Or.inl ⟨by rfl, ?_⟩) hHeld ?_
    rotate_left
    · (intro w hSw; (try dsimp only at hSw); go_simp; (try with_reducible rfl))
    try simp only [Act.put, pT]
    refine wpAnyH_ready (rs := [8]) (by kernel_rfl) (by simp) ?_
    refine AllReadyH.cons rfl (fun K hK => ?_) AllReadyH.nil
    (try simp only [pT])
    rw [if_pos (by rfl)]
    go_simp
    go_at_call 26
    refine (CM3 hpp gpp_ hqz gqz_).mono ?_
    rintro e w13 ⟨bw, Aw, nw, cw, Bw, mw, dw, pw, Vw, rw, kw, Uw, ow, qw, rfl, ⟨hw, gw⟩, b⟩
    replace h0 := h0.on b
    replace g0 := g0.on b
    replace h1 := h1.on b
    replace g1 := g1.on b
    replace h2 := h2.on b
    replace hpp := hpp.on b
    replace gpp_ := gpp_.on b
    replace hqz := hqz.on b
    replace gqz_ := gqz_.on b
    replace hf := hf.on b
    replace gf := gf.on b
    replace hj := hj.on b
    replace gj := gj.on b
    replace hu := hu.on b
    replace gu := gu.on b
    rewrite [cR b pal] at pa0 pa1 pa2 pa3 pa4 pa5
    replace pal := lK b pal
    rewrite [cR b pbl] at pb0 pb1 pb2 pb3 pb4 pb5
    replace pbl := lK b pbl
    rewrite [cR b pxl] at px0 px1 px2
    replace pxl := lK b pxl
    rewrite [cR b ppl] at pp0 pp1 pp2 pp3 pp4 pp5
    replace ppl := lK b ppl
    rewrite [cR b qzl] at qz0 qz1 qz2 qz3 qz4 qz5
    replace qzl := lK b qzl
    rewrite [cR b sml] at sm0 sm1 sm2 sm3 sm4 sm5
    replace sml := lK b sml
    rewrite [cR b prl] at pr0 pr1 pr2 pr3 pr4 pr5
    replace prl := lK b prl
    replace cc := bK cc b
    clear b
    refine hK.out _ _ ?_ (fun hHeld => ?_)
    · exact ⟨pa0, pa1, pa2, pa3, pa4, pa5, pb0, pb1, pb2, pb3, pb4, pb5, px0, px1, px2, pp0, pp1, pp2, pp3, pp4, pp5, qz0, qz1, qz2, qz3, qz4, qz5, sm0, sm1, sm2, sm3, sm4, sm5, pr0, pr1, pr2, pr3, pr4, pr5⟩
    clear hK K
    try simp only [Act.put, pT]
    refine wpAnyH_ready (rs := [10]) (by kernel_rfl) (by simp) ?_
    refine AllReadyH.cons rfl (fun K hK => ?_) AllReadyH.nil
    (try simp only [pT])
    rw [if_pos (by rfl)]
    go_simp
    go_at_call 14
    refine (stsame_N hw gw (zp_.le (by omega)) (zp_.le (by omega)) hj gj (zp_.le (by omega)) (zp_.le (by omega)) true two_eq).mono ?_
    rintro e w14 ⟨rfl, b⟩
    replace h0 := h0.on b
    replace g0 := g0.on b
    replace h1 := h1.on b
    replace g1 := g1.on b
    replace h2 := h2.on b
    replace hpp := hpp.on b
    replace gpp_ := gpp_.on b
    replace hqz := hqz.on b
    replace gqz_ := gqz_.on b
    replace hf := hf.on b
    replace gf := gf.on b
    replace hj := hj.on b
    replace gj := gj.on b
    replace hu := hu.on b
    replace gu := gu.on b
    replace hw := hw.on b
    replace gw := gw.on b
    rewrite [cR b pal] at pa0 pa1 pa2 pa3 pa4 pa5
    replace pal := lK b pal
    rewrite [cR b pbl] at pb0 pb1 pb2 pb3 pb4 pb5
    replace pbl := lK b pbl
    rewrite [cR b pxl] at px0 px1 px2
    replace pxl := lK b pxl
    rewrite [cR b ppl] at pp0 pp1 pp2 pp3 pp4 pp5
    replace ppl := lK b ppl
    rewrite [cR b qzl] at qz0 qz1 qz2 qz3 qz4 qz5
    replace qzl := lK b qzl
    rewrite [cR b sml] at sm0 sm1 sm2 sm3 sm4 sm5
    replace sml := lK b sml
    rewrite [cR b prl] at pr0 pr1 pr2 pr3 pr4 pr5
    replace prl := lK b prl
    replace cc := bK cc b
    clear b
    refine hK.out _ _ ?_ (fun hHeld => ?_)
    · exact ⟨pa0, pa1, pa2, pa3, pa4, pa5, pb0, pb1, pb2, pb3, pb4, pb5, px0, px1, px2, pp0, pp1, pp2, pp3, pp4, pp5, qz0, qz1, qz2, qz3, qz4, qz5, sm0, sm1, sm2, sm3, sm4, sm5, pr0, pr1, pr2, pr3, pr4, pr5⟩
    clear hK K
    try simp only [Act.put, pT]
    refine wpAnyH_take (i := 11) (v := ?_) rfl (by kernel_rfl) (by kernel_rfl) (by kernel_rfl) (fun _ _ _ h => h) (Or.inl ⟨by rfl, ?_⟩) hHeld ?_
    rotate_left
    · (intro w hSw; (try dsimp only at hSw); go_simp; (try with_reducible rfl))
    try simp only [Act.put, pT]
    refine wpAnyH_take (i := 12) (v := ?_) rfl (by kernel_rfl) (by kernel_rfl) (by kernel_rfl) (fun _ _ _ h => h) (Or.inl ⟨by rfl, ?_⟩) hHeld ?_
    rotate_left
    · (intro w hSw; (try dsimp only at hSw); go_simp; (try with_reducible rfl))
    try simp only [Act.put, pT]
    refine wpAnyH_done (by kernel_rfl) ?_ _
    clear hHeld
    clear hu gu hw gw hf gf hj gj hpp gpp_ hqz gqz_
    go_wp2_with fail
    have bD : Below w14.heap.size w14 w14.drew := below_drewN (Below.refl _ w14) 1
    replace h0 := h0.on bD
    replace g0 := g0.on bD
    replace h1 := h1.on bD
    replace g1 := g1.on bD
    replace h2 := h2.on bD
    rewrite [cR bD pal] at pa0 pa1 pa2 pa3 pa4 pa5
    replace pal := lK bD pal
    rewrite [cR bD pbl] at pb0 pb1 pb2 pb3 pb4 pb5
    replace pbl := lK bD pbl
    rewrite [cR bD pxl] at px0 px1 px2
    replace pxl := lK bD pxl
    rewrite [cR bD ppl] at pp0 pp1 pp2 pp3 pp4 pp5
    replace ppl := lK bD ppl
    rewrite [cR bD qzl] at qz0 qz1 qz2 qz3 qz4 qz5
    replace qzl := lK bD qzl
    rewrite [cR bD sml] at sm0 sm1 sm2 sm3 sm4 sm5
    replace sml := lK bD sml
    rewrite [cR bD prl] at pr0 pr1 pr2 pr3 pr4 pr5
    replace prl := lK bD prl
    replace cc := bK cc bD
    clear bD
    refine wp_region_held_drew (S := fun w' => w'.cell? ⟨w.heap.size, 0, none⟩ = some (.bool b0) ∧ w'.cell? ⟨w.heap.size, 1, none⟩ = some (.slice A0 n0 c0) ∧ w'.cell? ⟨w.heap.size, 2, none⟩ = some (.slice B0 m0 d0) ∧ w'.cell? ⟨w.heap.size, 3, none⟩ = some (.bool p0) ∧ w'.cell? ⟨w.heap.size, 4, none⟩ = some (.slice V0 r0 k0) ∧ w'.cell? ⟨w.heap.size, 5, none⟩ = some (.slice U0 o0 q0) ∧ w'.cell? ⟨w.heap.size + 1, 0, none⟩ = some (.bool b1) ∧ w'.cell? ⟨w.heap.size + 1, 1, none⟩ = some (.slice A1 n1 c1) ∧ w'.cell? ⟨w.heap.size + 1, 2, none⟩ = some (.slice B1 m1 d1) ∧ w'.cell? ⟨w.heap.size + 1, 3, none⟩ = some (.bool p1) ∧ w'.cell? ⟨w.heap.size + 1, 4, none⟩ = some (.slice V1 r1 k1) ∧ w'.cell? ⟨w.heap.size + 1, 5, none⟩ = some (.slice U1 o1 q1) ∧ w'.cell? ⟨w.heap.size + 1 + 1, 0, none⟩ = some (.bool b2) ∧ w'.cell? ⟨w.heap.size + 1 + 1, 1, none⟩ = some (.slice A2 n2 c2) ∧ w'.cell? ⟨w.heap.size + 1 + 1, 2, none⟩ = some (.slice B2 m2 d2) ∧ w'.cell? ⟨gpp, 0, none⟩ = some (.bool bpp) ∧ w'.cell? ⟨gpp, 1, none⟩ = some (.slice App npp cpp) ∧ w'.cell? ⟨gpp, 2, none⟩ = some (.slice Bpp mpp dpp) ∧ w'.cell? ⟨gpp, 3, none⟩ = some (.bool ppp) ∧ w'.cell? ⟨gpp, 4, none⟩ = some (.slice Vpp rpp kpp) ∧ w'.cell? ⟨gpp, 5, none⟩ = some (.slice Upp opp qpp) ∧ w'.cell? ⟨gqz, 0, none⟩ = some (.bool bqz) ∧ w'.cell? ⟨gqz, 1, none⟩ = some (.slice Aqz nqz cqz) ∧ w'.cell? ⟨gqz, 2, none⟩ = some (.slice Bqz mqz dqz) ∧ w'.cell? ⟨gqz, 3, none⟩ = some (.bool pqz) ∧ w'.cell? ⟨gqz, 4, none⟩ = some (.slice Vqz rqz kqz) ∧ w'.cell? ⟨gqz, 5, none⟩ = some (.slice Uqz oqz qqz) ∧ w'.cell? ⟨w6.heap.size, 0, none⟩ = some (.bool bf) ∧ w'.cell? ⟨w6.heap.size, 1, none⟩ = some (.slice Af nf cf) ∧ w'.cell? ⟨w6.heap.size, 2, none⟩ = some (.slice Bf mf df) ∧ w'.cell? ⟨w6.heap.size, 3, none⟩ = some (.bool pf) ∧ w'.cell? ⟨w6.heap.size, 4, none⟩ = some (.slice Vf rf kf) ∧ w'.cell? ⟨w6.heap.size, 5, none⟩ = some (.slice Uf of qf) ∧ w'.cell? ⟨w9.heap.size, 0, none⟩ = some (.bool bj) ∧ w'.cell? ⟨w9.heap.size, 1, none⟩ = some (.slice Aj nj cj) ∧ w'.cell? ⟨w9.heap.size, 2, none⟩ = some (.slice Bj mj dj) ∧ w'.cell? ⟨w9.heap.size, 3, none⟩ = some (.bool pj) ∧ w'.cell? ⟨w9.heap.size, 4, none⟩ = some (.slice Vj rj kj) ∧ w'.cell? ⟨w9.heap.size, 5, none⟩ = some (.slice Uj oj qj)) (by kernel_rfl) ?_ (fun hHeld => ?_)
    · exact ⟨pa0, pa1, pa2, pa3, pa4, pa5, pb0, pb1, pb2, pb3, pb4, pb5, px0, px1, px2, pp0, pp1, pp2, pp3, pp4, pp5, qz0, qz1, qz2, qz3, qz4, qz5, sm0, sm1, sm2, sm3, sm4, sm5, pr0, pr1, pr2, pr3, pr4, pr5⟩
    refine wpAnyH_take (i := 0) (v := ?_) rfl (by kernel_rfl) (by kernel_rfl) (by kernel_rfl) (fun _ _ _ h => h) (Or.inl ⟨by rfl, ?_⟩) hHeld ?_
    rotate_left
    · (intro w hSw; (try dsimp only at hSw); go_simp; (try with_reducible rfl))
    try simp only [Act.put, pT]
    refine wpAnyH_take (i := 1) (v := ?_) rfl (by kernel_rfl) (by kernel_rfl) (by kernel_rfl) (fun _ _ _ h => h) (Or.inl ⟨by rfl, ?_⟩) hHeld ?_
    rotate_left
    · (intro w hSw; (try dsimp only at hSw); go_simp; (try with_reducible rfl))
    try simp only [Act.put, pT]
    refine wpAnyH_take (i := 3) (v := ?_) rfl (by kernel_rfl) (by kernel_rfl) (by kernel_rfl) (fun _ _ _ h => h) (Or.inl ⟨by rfl, ?_⟩) hHeld ?_
    rotate_left
    · (intro w hSw; (try dsimp only at hSw); go_simp; (try with_reducible rfl))
    try simp only [Act.put, pT]
    refine wpAnyH_take (i := 4) (v := ?_) rfl (by kernel_rfl) (by kernel_rfl) (by kernel_rfl) (fun _ _ _ h => h) (Or.inl ⟨by rfl, ?_⟩) hHeld ?_
    rotate_left
    · (intro w hSw; (try dsimp only at hSw); go_simp; (try with_reducible rfl))
    try simp only [Act.put, pT]
    refine wpAnyH_ready (rs := [2]) (by kernel_rfl) (by simp) ?_
    refine AllReadyH.cons rfl (fun K hK => ?_) AllReadyH.nil
    (try simp only [pT])
    rw [if_pos (by rfl)]
    go_simp
    go_at_call 24
    refine (CA1 h0 g0 h1 g1).mono ?_
    rintro e w15 ⟨bu, Au, nu, cu, Bu, mu, du, pu, Vu, ru, ku, Uu, ou, qu, rfl, ⟨hu, gu⟩, b⟩
    replace h0 := h0.on b
    replace g0 := g0.on b
    replace h1 := h1.on b
    replace g1 := g1.on b
    replace h2 := h2.on b
    rewrite [cR b pal] at pa0 pa1 pa2 pa3 pa4 pa5
    replace pal := lK b pal
    rewrite [cR b pbl] at pb0 pb1 pb2 pb3 pb4 pb5
    replace pbl := lK b pbl
    rewrite [cR b pxl] at px0 px1 px2
    replace pxl := lK b pxl
    rewrite [cR b ppl] at pp0 pp1 pp2 pp3 pp4 pp5
    replace ppl := lK b ppl
    rewrite [cR b qzl] at qz0 qz1 qz2 qz3 qz4 qz5
    replace qzl := lK b qzl
    rewrite [cR b sml] at sm0 sm1 sm2 sm3 sm4 sm5
    replace sml := lK b sml
    rewrite [cR b prl] at pr0 pr1 pr2 pr3 pr4 pr5
    replace prl := lK b prl
    replace cc := bK cc b
    clear b
    refine hK.out _ _ ?_ (fun hHeld => ?_)
    · exact ⟨pa0, pa1, pa2, pa3, pa4, pa5, pb0, pb1, pb2, pb3, pb4, pb5, px0, px1, px2, pp0, pp1, pp2, pp3, pp4, pp5, qz0, qz1, qz2, qz3, qz4, qz5, sm0, sm1, sm2, sm3, sm4, sm5, pr0, pr1, pr2, pr3, pr4, pr5⟩
    clear hK K
    try simp only [Act.put, pT]
    refine wpAnyH_ready (rs := [5]) (by kernel_rfl) (by simp) ?_
    refine AllReadyH.cons rfl (fun K hK => ?_) AllReadyH.nil
    (try simp only [pT])
    rw [if_pos (by rfl)]
    go_simp
    go_at_call 24
    refine (CA2 h1 g1 h0 g0).mono ?_
    rintro e w16 ⟨bw, Aw, nw, cw, Bw, mw, dw, pw, Vw, rw, kw, Uw, ow, qw, rfl, ⟨hw, gw⟩, b⟩
    replace h0 := h0.on b
    replace g0 := g0.on b
    replace h1 := h1.on b
    replace g1 := g1.on b
    replace h2 := h2.on b
    replace hu := hu.on b
    replace gu := gu.on b
    rewrite [cR b pal] at pa0 pa1 pa2 pa3 pa4 pa5
    replace pal := lK b pal
    rewrite [cR b pbl] at pb0 pb1 pb2 pb3 pb4 pb5
    replace pbl := lK b pbl
    rewrite [cR b pxl] at px0 px1 px2
    replace pxl := lK b pxl
    rewrite [cR b ppl] at pp0 pp1 pp2 pp3 pp4 pp5
    replace ppl := lK b ppl
    rewrite [cR b qzl] at qz0 qz1 qz2 qz3 qz4 qz5
    replace qzl := lK b qzl
    rewrite [cR b sml] at sm0 sm1 sm2 sm3 sm4 sm5
    replace sml := lK b sml
    rewrite [cR b prl] at pr0 pr1 pr2 pr3 pr4 pr5
    replace prl := lK b prl
    replace cc := bK cc b
    clear b
    refine hK.out _ _ ?_ (fun hHeld => ?_)
    · exact ⟨pa0, pa1, pa2, pa3, pa4, pa5, pb0, pb1, pb2, pb3, pb4, pb5, px0, px1, px2, pp0, pp1, pp2, pp3, pp4, pp5, qz0, qz1, qz2, qz3, qz4, qz5, sm0, sm1, sm2, sm3, sm4, sm5, pr0, pr1, pr2, pr3, pr4, pr5⟩
    clear hK K
    try simp only [Act.put, pT]
    refine wpAnyH_ready (rs := [6]) (by kernel_rfl) (by simp) ?_
    refine AllReadyH.cons rfl (fun K hK => ?_) AllReadyH.nil
    (try simp only [pT])
    rw [if_pos (by rfl)]
    go_simp
    go_at_call 14
    refine (stsame_N hu gu (za_.le (by omega)) (zb_.le (by omega)) hw gw (za_.le (by omega)) (zb_.le (by omega)) true two_eq).mono ?_
    rintro e w17 ⟨rfl, b⟩
    replace h0 := h0.on b
    replace g0 := g0.on b
    replace h1 := h1.on b
    replace g1 := g1.on b
    replace h2 := h2.on b
    replace hu := hu.on b
    replace gu := gu.on b
    replace hw := hw.on b
    replace gw := gw.on b
    rewrite [cR b pal] at pa0 pa1 pa2 pa3 pa4 pa5
    replace pal := lK b pal
    rewrite [cR b pbl] at pb0 pb1 pb2 pb3 pb4 pb5
    replace pbl := lK b pbl
    rewrite [cR b pxl] at px0 px1 px2
    replace pxl := lK b pxl
    rewrite [cR b ppl] at pp0 pp1 pp2 pp3 pp4 pp5
    replace ppl := lK b ppl
    rewrite [cR b qzl] at qz0 qz1 qz2 qz3 qz4 qz5
    replace qzl := lK b qzl
    rewrite [cR b sml] at sm0 sm1 sm2 sm3 sm4 sm5
    replace sml := lK b sml
    rewrite [cR b prl] at pr0 pr1 pr2 pr3 pr4 pr5
    replace prl := lK b prl
    replace cc := bK cc b
    clear b
    refine hK.out _ _ ?_ (fun hHeld => ?_)
    · exact ⟨pa0, pa1, pa2, pa3, pa4, pa5, pb0, pb1, pb2, pb3, pb4, pb5, px0, px1, px2, pp0, pp1, pp2, pp3, pp4, pp5, qz0, qz1, qz2, qz3, qz4, qz5, sm0, sm1, sm2, sm3, sm4, sm5, pr0, pr1, pr2, pr3, pr4, pr5⟩
    clear hK K
    try simp only [Act.put, pT]
    refine wpAnyH_take (i := 7) (v := ?_) rfl (by kernel_rfl) (by kernel_rfl) (by kernel_rfl) (fun _ _ _ h => h) (Or.inl ⟨by rfl, ?_⟩) hHeld ?_
    rotate_left
    · (intro w hSw; (try dsimp only at hSw); go_simp; (try with_reducible rfl))
    try simp only [Act.put, pT]
    refine wpAnyH_take (i := 8) (v := ?_) rfl (by kernel_rfl) (by kernel_rfl) (by kernel_rfl) (fun _ _ _ h => h) (Or.inl ⟨by rfl, ?_⟩) hHeld ?_
    rotate_left
    · (intro w hSw; (try dsimp only at hSw); go_simp; (try with_reducible rfl))
    try simp only [Act.put, pT]
    refine wpAnyH_take (i := 9) (v := ?_) rfl (by kernel_rfl) (by kernel_rfl) (by kernel_rfl) (fun _ _ _ h => h) (Or.inl ⟨by rfl, ?_⟩) hHeld ?_
    rotate_left
    · (intro w hSw; (try dsimp only at hSw); go_simp; (try with_reducible rfl))
    try simp only [Act.put, pT]
    refine wpAnyH_take (i := 11) (v := ?_) rfl (by kernel_rfl) (by kernel_rfl) (by kernel_rfl) (fun _ _ _ h => h) (Or.inl ⟨by rfl, ?_⟩) hHeld ?_
    rotate_left
    · (intro w hSw; (try dsimp only at hSw); go_simp; (try with_reducible rfl))
    try simp only [Act.put, pT]
    refine wpAnyH_take (i := 12) (v := ?_) rfl (by kernel_rfl) (by kernel_rfl) (by kernel_rfl) (fun _ _ _ h => h) (Or.inl ⟨by rfl, ?_⟩) hHeld ?_
    rotate_left
    · (intro w hSw; (try dsimp only at hSw); go_simp; (try with_reducible rfl))
    try simp only [Act.put, pT]
    refine wpAnyH_ready (rs := [10]) (by kernel_rfl) (by simp) ?_
    refine AllReadyH.cons rfl (fun K hK => ?_) AllReadyH.nil
    (try simp only [pT])
    rw [if_pos (by rfl)]
    go_simp
    go_at_call 26
    refine (CM1 h0 g0 h1 g1).mono ?_
    rintro e w18 ⟨be, Ae, ne, ce, Be, me, de, pe, Ve, re, ke, Ue, oe, qe, rfl, ⟨he, ge_⟩, b⟩
    replace h0 := h0.on b
    replace g0 := g0.on b
    replace h1 := h1.on b
    replace g1 := g1.on b
    replace h2 := h2.on b
    replace hu := hu.on b
    replace gu := gu.on b
    replace hw := hw.on b
    replace gw := gw.on b
    rewrite [cR b pal] at pa0 pa1 pa2 pa3 pa4 pa5
    replace pal := lK b pal
    rewrite [cR b pbl] at pb0 pb1 pb2 pb3 pb4 pb5
    replace pbl := lK b pbl
    rewrite [cR b pxl] at px0 px1 px2
    replace pxl := lK b pxl
    rewrite [cR b ppl] at pp0 pp1 pp2 pp3 pp4 pp5
    replace ppl := lK b ppl
    rewrite [cR b qzl] at qz0 qz1 qz2 qz3 qz4 qz5
    replace qzl := lK b qzl
    rewrite [cR b sml] at sm0 sm1 sm2 sm3 sm4 sm5
    replace sml := lK b sml
    rewrite [cR b prl] at pr0 pr1 pr2 pr3 pr4 pr5
    replace prl := lK b prl
    replace cc := bK cc b
    clear b
    refine hK.out _ _ ?_ (fun hHeld => ?_)
    · exact ⟨pa0, pa1, pa2, pa3, pa4, pa5, pb0, pb1, pb2, pb3, pb4, pb5, px0, px1, px2, pp0, pp1, pp2, pp3, pp4, pp5, qz0, qz1, qz2, qz3, qz4, qz5, sm0, sm1, sm2, sm3, sm4, sm5, pr0, pr1, pr2, pr3, pr4, pr5⟩
    clear hK K
    try simp only [Act.put, pT]
    refine wpAnyH_ready (rs := [13]) (by kernel_rfl) (by simp) ?_
    refine AllReadyH.cons rfl (fun K hK => ?_) AllReadyH.nil
    (try simp only [pT])
    rw [if_pos (by rfl)]
    go_simp
    go_at_call 26
    refine (CM2 h1 g1 h0 g0).mono ?_
    rintro e w19 ⟨bz, Az, nz, cz, Bz, mz, dz, pz, Vz, rz, kz, Uz, oz, qz, rfl, ⟨hz, gz⟩, b⟩
    replace h0 := h0.on b
    replace g0 := g0.on b
    replace h1 := h1.on b
    replace g1 := g1.on b
    replace h2 := h2.on b
    replace hu := hu.on b
    replace gu := gu.on b
    replace hw := hw.on b
    replace gw := gw.on b
    replace he := he.on b
    replace ge_ := ge_.on b
    rewrite [cR b pal] at pa0 pa1 pa2 pa3 pa4 pa5
    replace pal := lK b pal
    rewrite [cR b pbl] at pb0 pb1 pb2 pb3 pb4 pb5
    replace pbl := lK b pbl
    rewrite [cR b pxl] at px0 px1 px2
    replace pxl := lK b pxl
    rewrite [cR b ppl] at pp0 pp1 pp2 pp3 pp4 pp5
    replace ppl := lK b ppl
    rewrite [cR b qzl] at qz0 qz1 qz2 qz3 qz4 qz5
    replace qzl := lK b qzl
    rewrite [cR b sml] at sm0 sm1 sm2 sm3 sm4 sm5
    replace sml := lK b sml
    rewrite [cR b prl] at pr0 pr1 pr2 pr3 pr4 pr5
    replace prl := lK b prl
    replace cc := bK cc b
    clear b
    refine hK.out _ _ ?_ (fun hHeld => ?_)
    · exact ⟨pa0, pa1, pa2, pa3, pa4, pa5, pb0, pb1, pb2, pb3, pb4, pb5, px0, px1, px2, pp0, pp1, pp2, pp3, pp4, pp5, qz0, qz1, qz2, qz3, qz4, qz5, sm0, sm1, sm2, sm3, sm4, sm5, pr0, pr1, pr2, pr3, pr4, pr5⟩
    clear hK K
    try simp only [Act.put, pT]
    refine wpAnyH_ready (rs := [14]) (by kernel_rfl) (by simp) ?_
    refine AllReadyH.cons rfl (fun K hK => ?_) AllReadyH.nil
    (try simp only [pT])
    rw [if_pos (by rfl)]
    go_simp
    go_at_call 14
    refine (stsame_N he ge_ (zm_.le (by omega)) (zn_.le (by omega)) hz gz (zm_.le (by omega)) (zn_.le (by omega)) true two_eq).mono ?_
    rintro e w20 ⟨rfl, b⟩
    replace h0 := h0.on b
    replace g0 := g0.on b
    replace h1 := h1.on b
    replace g1 := g1.on b
    replace h2 := h2.on b
    replace hu := hu.on b
    replace gu := gu.on b
    replace hw := hw.on b
    replace gw := gw.on b
    replace he := he.on b
    replace ge_ := ge_.on b
    replace hz := hz.on b
    replace gz := gz.on b
    rewrite [cR b pal] at pa0 pa1 pa2 pa3 pa4 pa5
    replace pal := lK b pal
    rewrite [cR b pbl] at pb0 pb1 pb2 pb3 pb4 pb5
    replace pbl := lK b pbl
    rewrite [cR b pxl] at px0 px1 px2
    replace pxl := lK b pxl
    rewrite [cR b ppl] at pp0 pp1 pp2 pp3 pp4 pp5
    replace ppl := lK b ppl
    rewrite [cR b qzl] at qz0 qz1 qz2 qz3 qz4 qz5
    replace qzl := lK b qzl
    rewrite [cR b sml] at sm0 sm1 sm2 sm3 sm4 sm5
    replace sml := lK b sml
    rewrite [cR b prl] at pr0 pr1 pr2 pr3 pr4 pr5
    replace prl := lK b prl
    replace cc := bK cc b
    clear b
    refine hK.out _ _ ?_ (fun hHeld => ?_)
    · exact ⟨pa0, pa1, pa2, pa3, pa4, pa5, pb0, pb1, pb2, pb3, pb4, pb5, px0, px1, px2, pp0, pp1, pp2, pp3, pp4, pp5, qz0, qz1, qz2, qz3, qz4, qz5, sm0, sm1, sm2, sm3, sm4, sm5, pr0, pr1, pr2, pr3, pr4, pr5⟩
    clear hK K
    try simp only [Act.put, pT]
    refine wpAnyH_take (i := 15) (v := ?_) rfl (by kernel_rfl) (by kernel_rfl) (by kernel_rfl) (fun _ _ _ h => h) (Or.inl ⟨by rfl, ?_⟩) hHeld ?_
    rotate_left
    · (intro w hSw; (try dsimp only at hSw); go_simp; (try with_reducible rfl))
    try simp only [Act.put, pT]
    refine wpAnyH_take (i := 16) (v := ?_) rfl (by kernel_rfl) (by kernel_rfl) (by kernel_rfl) (fun _ _ _ h => h) (Or.inl ⟨by rfl, ?_⟩) hHeld ?_
    rotate_left
    · (intro w hSw; (try dsimp only at hSw); go_simp; (try with_reducible rfl))
    try simp only [Act.put, pT]
    refine wpAnyH_done (by kernel_rfl) ?_ _
    clear hHeld
    clear hu gu hw gw he ge_ hz gz h1 g1
    go_wp2_with fail
    have bD : Below w20.heap.size w20 w20.drew := below_drewN (Below.refl _ w20) 1
    replace h0 := h0.on bD
    replace g0 := g0.on bD
    replace h2 := h2.on bD
    rewrite [cR bD pal] at pa0 pa1 pa2 pa3 pa4 pa5
    replace pal := lK bD pal
    rewrite [cR bD pbl] at pb0 pb1 pb2 pb3 pb4 pb5
    replace pbl := lK bD pbl
    rewrite [cR bD pxl] at px0 px1 px2
    replace pxl := lK bD pxl
    rewrite [cR bD ppl] at pp0 pp1 pp2 pp3 pp4 pp5
    replace ppl := lK bD ppl
    rewrite [cR bD qzl] at qz0 qz1 qz2 qz3 qz4 qz5
    replace qzl := lK bD qzl
    rewrite [cR bD sml] at sm0 sm1 sm2 sm3 sm4 sm5
    replace sml := lK bD sml
    rewrite [cR bD prl] at pr0 pr1 pr2 pr3 pr4 pr5
    replace prl := lK bD prl
    replace cc := bK cc bD
    clear bD
    refine wp_region_held_drew (S := fun w' => w'.cell? ⟨w.heap.size, 0, none⟩ = some (.bool b0) ∧ w'.cell? ⟨w.heap.size, 1, none⟩ = some (.slice A0 n0 c0) ∧ w'.cell? ⟨w.heap.size, 2, none⟩ = some (.slice B0 m0 d0) ∧ w'.cell? ⟨w.heap.size, 3, none⟩ = some (.bool p0) ∧ w'.cell? ⟨w.heap.size, 4, none⟩ = some (.slice V0 r0 k0) ∧ w'.cell? ⟨w.heap.size, 5, none⟩ = some (.slice U0 o0 q0) ∧ w'.cell? ⟨w.heap.size + 1, 0, none⟩ = some (.bool b1) ∧ w'.cell? ⟨w.heap.size + 1, 1, none⟩ = some (.slice A1 n1 c1) ∧ w'.cell? ⟨w.heap.size + 1, 2, none⟩ = some (.slice B1 m1 d1) ∧ w'.cell? ⟨w.heap.size + 1, 3, none⟩ = some (.bool p1) ∧ w'.cell? ⟨w.heap.size + 1, 4, none⟩ = some (.slice V1 r1 k1) ∧ w'.cell? ⟨w.heap.size + 1, 5, none⟩ = some (.slice U1 o1 q1) ∧ w'.cell? ⟨w.heap.size + 1 + 1, 0, none⟩ = some (.bool b2) ∧ w'.cell? ⟨w.heap.size + 1 + 1, 1, none⟩ = some (.slice A2 n2 c2) ∧ w'.cell? ⟨w.heap.size + 1 + 1, 2, none⟩ = some (.slice B2 m2 d2) ∧ w'.cell? ⟨gpp, 0, none⟩ = some (.bool bpp) ∧ w'.cell? ⟨gpp, 1, none⟩ = some (.slice App npp cpp) ∧ w'.cell? ⟨gpp, 2, none⟩ = some (.slice Bpp mpp dpp) ∧ w'.cell? ⟨gpp, 3, none⟩ = some (.bool ppp) ∧ w'.cell? ⟨gpp, 4, none⟩ = some (.slice Vpp rpp kpp) ∧ w'.cell? ⟨gpp, 5, none⟩ = some (.slice Upp opp qpp) ∧ w'.cell? ⟨gqz, 0, none⟩ = some (.bool bqz) ∧ w'.cell? ⟨gqz, 1, none⟩ = some (.slice Aqz nqz cqz) ∧ w'.cell? ⟨gqz, 2, none⟩ = some (.slice Bqz mqz dqz) ∧ w'.cell? ⟨gqz, 3, none⟩ = some (.bool pqz) ∧ w'.cell? ⟨gqz, 4, none⟩ = some (.slice Vqz rqz kqz) ∧ w'.cell? ⟨gqz, 5, none⟩ = some (.slice Uqz oqz qqz) ∧ w'.cell? ⟨w6.heap.size, 0, none⟩ = some (.bool bf) ∧ w'.cell? ⟨w6.heap.size, 1, none⟩ = some (.slice Af nf cf) ∧ w'.cell? ⟨w6.heap.size, 2, none⟩ = some (.slice Bf mf df) ∧ w'.cell? ⟨w6.heap.size, 3, none⟩ = some (.bool pf) ∧ w'.cell? ⟨w6.heap.size, 4, none⟩ = some (.slice Vf rf kf) ∧ w'.cell? ⟨w6.heap.size, 5, none⟩ = some (.slice Uf of qf) ∧ w'.cell? ⟨w9.heap.size, 0, none⟩ = some (.bool bj) ∧ w'.cell? ⟨w9.heap.size, 1, none⟩ = some (.slice Aj nj cj) ∧ w'.cell? ⟨w9.heap.size, 2, none⟩ = some (.slice Bj mj dj) ∧ w'.cell? ⟨w9.heap.size, 3, none⟩ = some (.bool pj) ∧ w'.cell? ⟨w9.heap.size, 4, none⟩ = some (.slice Vj rj kj) ∧ w'.cell? ⟨w9.heap.size, 5, none⟩ = some (.slice Uj oj qj)) (by kernel_rfl) ?_ (fun hHeld => ?_)
    · exact ⟨pa0, pa1, pa2, pa3, pa4, pa5, pb0, pb1, pb2, pb3, pb4, pb5, px0, px1, px2, pp0, pp1, pp2, pp3, pp4, pp5, qz0, qz1, qz2, qz3, qz4, qz5, sm0, sm1, sm2, sm3, sm4, sm5, pr0, pr1, pr2, pr3, pr4, pr5⟩
    refine wpAnyH_ready (rs := [0]) (by kernel_rfl) (by simp) ?_
    refine AllReadyH.cons rfl (fun K hK => ?_) AllReadyH.nil
    (try simp only [pT])
    rw [if_pos (by rfl)]
    go_simp
    go_at_call 11
    refine (alive7_any _).mono ?_
    rintro e w21 ⟨rfl, b⟩
    replace h0 := h0.on b
    replace g0 := g0.on b
    replace h2 := h2.on b
    rewrite [cR b pal] at pa0 pa1 pa2 pa3 pa4 pa5
    replace pal := lK b pal
    rewrite [cR b pbl] at pb0 pb1 pb2 pb3 pb4 pb5
    replace pbl := lK b pbl
    rewrite [cR b pxl] at px0 px1 px2
    replace pxl := lK b pxl
    rewrite [cR b ppl] at pp0 pp1 pp2 pp3 pp4 pp5
    replace ppl := lK b ppl
    rewrite [cR b qzl] at qz0 qz1 qz2 qz3 qz4 qz5
    replace qzl := lK b qzl
    rewrite [cR b sml] at sm0 sm1 sm2 sm3 sm4 sm5
    replace sml := lK b sml
    rewrite [cR b prl] at pr0 pr1 pr2 pr3 pr4 pr5
    replace prl := lK b prl
    replace cc := bK cc b
    clear b
    refine hK.out _ _ ?_ (fun hHeld => ?_)
    · exact ⟨pa0, pa1, pa2, pa3, pa4, pa5, pb0, pb1, pb2, pb3, pb4, pb5, px0, px1, px2, pp0, pp1, pp2, pp3, pp4, pp5, qz0, qz1, qz2, qz3, qz4, qz5, sm0, sm1, sm2, sm3, sm4, sm5, pr0, pr1, pr2, pr3, pr4, pr5⟩
    clear hK K
    try simp only [Act.put, pT]
    refine wpAnyH_take (i := 1) (v := ?_) rfl (by kernel_rfl) (by kernel_rfl) (by kernel_rfl) (fun _ _ _ h => h) (Or.inl ⟨by rfl, ?_⟩) hHeld ?_
    rotate_left
    · (intro w hSw; (try dsimp only at hSw); go_simp; (try with_reducible rfl))
    try simp only [Act.put, pT]
    refine wpAnyH_take (i := 2) (v := ?_) rfl (by kernel_rfl) (by kernel_rfl) (by kernel_rfl) (fun _ _ _ h => h) (Or.inl ⟨by rfl, ?_⟩) hHeld ?_
    rotate_left
    · (intro w hSw; (try dsimp only at hSw); go_simp; (try with_reducible rfl))
    try simp only [Act.put, pT]
    refine wpAnyH_take (i := 3) (v := ?_) rfl (by kernel_rfl) (by kernel_rfl) (by kernel_rfl) (fun _ _ _ h => h) (Or.inl ⟨by rfl, ?_⟩) hHeld ?_
    rotate_left
    · (intro w hSw; (try dsimp only at hSw); go_simp; (try with_reducible rfl))
    try simp only [Act.put, pT]
    refine wpAnyH_take (i := 4) (v := ?_) rfl (by kernel_rfl) (by kernel_rfl) (by kernel_rfl) (fun _ _ _ h => h) (Or.inl ⟨by rfl, ?_⟩) hHeld ?_
    rotate_left
    · (intro w hSw; (try dsimp only at hSw); go_simp; (try with_reducible rfl))
    try simp only [Act.put, pT]
    refine wpAnyH_take (i := 5) (v := ?_) rfl (by kernel_rfl) (by kernel_rfl) (by kernel_rfl) (fun _ _ _ h => h) (Or.inl ⟨by rfl, ?_⟩) hHeld ?_
    rotate_left
    · (intro w hSw; (try dsimp only at hSw); go_simp; (try with_reducible rfl))
    try simp only [Act.put, pT]
    refine wpAnyH_take (i := 6) (v := ?_) rfl (by kernel_rfl) (by kernel_rfl) (by kernel_rfl) (fun _ _ _ h => h) (Or.inl ⟨by rfl, ?_⟩) hHeld ?_
    rotate_left
    · (intro w hSw; (try dsimp only at hSw); go_simp; (try with_reducible rfl))
    try simp only [Act.put, pT]
    refine wpAnyH_take (i := 7) (v := ?_) rfl (by kernel_rfl) (by kernel_rfl) (by kernel_rfl) (fun _ _ _ h => h) (Or.inl ⟨by rfl, ?_⟩) hHeld ?_
    rotate_left
    · (intro w hSw; (try dsimp only at hSw); go_simp; (try with_reducible rfl))
    try simp only [Act.put, pT]
    refine wpAnyH_take (i := 8) (v := ?_) rfl (by kernel_rfl) (by kernel_rfl) (by kernel_rfl) (fun _ _ _ h => h) (Or.inl ⟨by rfl, ?_⟩) hHeld ?_
    rotate_left
    · (intro w hSw; (try dsimp only at hSw); go_simp; (try with_reducible rfl))
    try simp only [Act.put, pT]
    refine wpAnyH_take (i := 9) (v := ?_) rfl (by kernel_rfl) (by kernel_rfl) (by kernel_rfl) (fun _ _ _ h => h) (Or.inl ⟨by rfl, ?_⟩) hHeld ?_
    rotate_left
    · (intro w hSw; (try dsimp only at hSw); go_simp; (try with_reducible rfl))
    try simp only [Act.put, pT]
    refine wpAnyH_take (i := 10) (v := ?_) rfl (by kernel_rfl) (by kernel_rfl) (by kernel_rfl) (fun _ _ _ h => h) (Or.inl ⟨by rfl, ?_⟩) hHeld ?_
    rotate_left
    · (intro w hSw; (try dsimp only at hSw); go_simp; (try with_reducible rfl))
    try simp only [Act.put, pT]
    refine wpAnyH_ready (rs := [11]) (by kernel_rfl) (by simp) ?_
    refine AllReadyH.cons rfl (fun K hK => ?_) AllReadyH.nil
    (try simp only [pT])
    rw [if_pos (by rfl)]
    go_simp
    go_at_call 18
    refine (ihas_N h0 g0 (s0.le (by omega)) (t0.le (by omega)) h0 (s0.le (by omega)) true HL.out).mono ?_
    rintro e w22 ⟨rfl, b⟩
    replace h0 := h0.on b
    replace g0 := g0.on b
    replace h2 := h2.on b
    rewrite [cR b pal] at pa0 pa1 pa2 pa3 pa4 pa5
    replace pal := lK b pal
    rewrite [cR b pbl] at pb0 pb1 pb2 pb3 pb4 pb5
    replace pbl := lK b pbl
    rewrite [cR b pxl] at px0 px1 px2
    replace pxl := lK b pxl
    rewrite [cR b ppl] at pp0 pp1 pp2 pp3 pp4 pp5
    replace ppl := lK b ppl
    rewrite [cR b qzl] at qz0 qz1 qz2 qz3 qz4 qz5
    replace qzl := lK b qzl
    rewrite [cR b sml] at sm0 sm1 sm2 sm3 sm4 sm5
    replace sml := lK b sml
    rewrite [cR b prl] at pr0 pr1 pr2 pr3 pr4 pr5
    replace prl := lK b prl
    replace cc := bK cc b
    clear b
    refine hK.out _ _ ?_ (fun hHeld => ?_)
    · exact ⟨pa0, pa1, pa2, pa3, pa4, pa5, pb0, pb1, pb2, pb3, pb4, pb5, px0, px1, px2, pp0, pp1, pp2, pp3, pp4, pp5, qz0, qz1, qz2, qz3, qz4, qz5, sm0, sm1, sm2, sm3, sm4, sm5, pr0, pr1, pr2, pr3, pr4, pr5⟩
    clear hK K
    try simp only [Act.put, pT]
    refine wpAnyH_take (i := 12) (v := ?_) rfl (by kernel_rfl) (by kernel_rfl) (by kernel_rfl) (fun _ _ _ h => h) (Or.inl ⟨by rfl, ?_⟩) hHeld ?_
    rotate_left
    · (intro w hSw; (try dsimp only at hSw); go_simp; (try with_reducible rfl))
    try simp only [Act.put, pT]
    refine wpAnyH_take (i := 13) (v := ?_) rfl (by kernel_rfl) (by kernel_rfl) (by kernel_rfl) (fun _ _ _ h => h) (Or.inl ⟨by rfl, ?_⟩) hHeld ?_
    rotate_left
    · (intro w hSw; (try dsimp only at hSw); go_simp; (try with_reducible rfl))
    try simp only [Act.put, pT]
    refine wpAnyH_take (i := 14) (v := ?_) rfl (by kernel_rfl) (by kernel_rfl) (by kernel_rfl) (fun _ _ _ h => h) (Or.inl ⟨by rfl, ?_⟩) hHeld ?_
    rotate_left
    · (intro w hSw; (try dsimp only at hSw); go_simp; (try with_reducible rfl))
    try simp only [Act.put, pT]
    refine wpAnyH_take (i := 15) (v := ?_) rfl (by kernel_rfl) (by kernel_rfl) (by kernel_rfl) (fun _ _ _ h => h) (Or.inl ⟨by rfl, ?_⟩) hHeld ?_
    rotate_left
    · (intro w hSw; (try dsimp only at hSw); go_simp; (try with_reducible rfl))
    try simp only [Act.put, pT]
    refine wpAnyH_take (i := 16) (v := ?_) rfl (by kernel_rfl) (by kernel_rfl) (by kernel_rfl) (fun _ _ _ h => h) (Or.inl ⟨by rfl, ?_⟩) hHeld ?_
    rotate_left
    · (intro w hSw; (try dsimp only at hSw); go_simp; (try with_reducible rfl))
    try simp only [Act.put, pT]
    refine wpAnyH_ready (rs := [17]) (by kernel_rfl) (by simp) ?_
    refine AllReadyH.cons rfl (fun K hK => ?_) AllReadyH.nil
    (try simp only [pT])
    rw [if_pos (by rfl)]
    go_simp
    go_at_call 18
    refine (ihas_N h0 g0 (s0.le (by omega)) (t0.le (by omega)) g0 (t0.le (by omega)) true HU.out).mono ?_
    rintro e w23 ⟨rfl, b⟩
    replace h0 := h0.on b
    replace g0 := g0.on b
    replace h2 := h2.on b
    rewrite [cR b pal] at pa0 pa1 pa2 pa3 pa4 pa5
    replace pal := lK b pal
    rewrite [cR b pbl] at pb0 pb1 pb2 pb3 pb4 pb5
    replace pbl := lK b pbl
    rewrite [cR b pxl] at px0 px1 px2
    replace pxl := lK b pxl
    rewrite [cR b ppl] at pp0 pp1 pp2 pp3 pp4 pp5
    replace ppl := lK b ppl
    rewrite [cR b qzl] at qz0 qz1 qz2 qz3 qz4 qz5
    replace qzl := lK b qzl
    rewrite [cR b sml] at sm0 sm1 sm2 sm3 sm4 sm5
    replace sml := lK b sml
    rewrite [cR b prl] at pr0 pr1 pr2 pr3 pr4 pr5
    replace prl := lK b prl
    replace cc := bK cc b
    clear b
    refine hK.out _ _ ?_ (fun hHeld => ?_)
    · exact ⟨pa0, pa1, pa2, pa3, pa4, pa5, pb0, pb1, pb2, pb3, pb4, pb5, px0, px1, px2, pp0, pp1, pp2, pp3, pp4, pp5, qz0, qz1, qz2, qz3, qz4, qz5, sm0, sm1, sm2, sm3, sm4, sm5, pr0, pr1, pr2, pr3, pr4, pr5⟩
    clear hK K
    try simp only [Act.put, pT]
    refine wpAnyH_take (i := 18) (v := ?_) rfl (by kernel_rfl) (by kernel_rfl) (by kernel_rfl) (fun _ _ _ h => h) (Or.inl ⟨by rfl, ?_⟩) hHeld ?_
    rotate_left
    · (intro w hSw; (try dsimp only at hSw); go_simp; (try with_reducible rfl))
    try simp only [Act.put, pT]
    refine wpAnyH_take (i := 19) (v := ?_) rfl (by kernel_rfl) (by kernel_rfl) (by kernel_rfl) (fun _ _ _ h => h) (Or.inl ⟨by rfl, ?_⟩) hHeld ?_
    rotate_left
    · (intro w hSw; (try dsimp only at hSw); go_simp; (try with_reducible rfl))
    try simp only [Act.put, pT]
    refine wpAnyH_take (i := 20) (v := ?_) rfl (by kernel_rfl) (by kernel_rfl) (by kernel_rfl) (fun _ _ _ h => h) (Or.inl ⟨by rfl, ?_⟩) hHeld ?_
    rotate_left
    · (intro w hSw; (try dsimp only at hSw); go_simp; (try with_reducible rfl))
    try simp only [Act.put, pT]
    refine wpAnyH_take (i := 22) (v := ?_) rfl (by kernel_rfl) (by kernel_rfl) (by kernel_rfl) (fun _ _ _ h => h) (Or.inl ⟨by rfl, ?_⟩) hHeld ?_
    rotate_left
    · (intro w hSw; (try dsimp only at hSw); go_simp; (try with_reducible rfl))
    try simp only [Act.put, pT]
    refine wpAnyH_take (i := 24) (v := ?_) rfl (by kernel_rfl) (by kernel_rfl) (by kernel_rfl) (fun _ _ _ h => h) (Or.inl ⟨by rfl, ?_⟩) hHeld ?_
    rotate_left
    · (intro w hSw; (try dsimp only at hSw); go_simp; (try with_reducible rfl))
    try simp only [Act.put, pT]
    refine wpAnyH_take (i := 25) (v := ?_) rfl (by kernel_rfl) (by kernel_rfl) (by kernel_rfl) (fun _ _ _ h => h) (Or.inl ⟨by rfl, ?_⟩) hHeld ?_
    rotate_left
    · (intro w hSw; (try dsimp only at hSw); go_simp; (try with_reducible rfl))
    try simp only [Act.put, pT]
    refine wpAnyH_ready (rs := [21]) (by kernel_rfl) (by simp) ?_
    refine AllReadyH.cons rfl (fun K hK => ?_) AllReadyH.nil
    (try simp only [pT])
    rw [if_pos (by rfl)]
    go_simp
    go_at_call 15
    refine (iof_N h2 (s2.le (by omega))).mono ?_
    rintro e w24 ⟨bu, Au, nu, cu, Bu, mu, du, pu, Vu, ru, ku, Uu, ou, qu, rfl, ⟨hu, gu⟩, b⟩
    replace h0 := h0.on b
    replace g0 := g0.on b
    replace h2 := h2.on b
    rewrite [cR b pal] at pa0 pa1 pa2 pa3 pa4 pa5
    replace pal := lK b pal
    rewrite [cR b pbl] at pb0 pb1 pb2 pb3 pb4 pb5
    replace pbl := lK b pbl
    rewrite [cR b pxl] at px0 px1 px2
    replace pxl := lK b pxl
    rewrite [cR b ppl] at pp0 pp1 pp2 pp3 pp4 pp5
    replace ppl := lK b ppl
    rewrite [cR b qzl] at qz0 qz1 qz2 qz3 qz4 qz5
    replace qzl := lK b qzl
    rewrite [cR b sml] at sm0 sm1 sm2 sm3 sm4 sm5
    replace sml := lK b sml
    rewrite [cR b prl] at pr0 pr1 pr2 pr3 pr4 pr5
    replace prl := lK b prl
    replace cc := bK cc b
    clear b
    refine hK.out _ _ ?_ (fun hHeld => ?_)
    · exact ⟨pa0, pa1, pa2, pa3, pa4, pa5, pb0, pb1, pb2, pb3, pb4, pb5, px0, px1, px2, pp0, pp1, pp2, pp3, pp4, pp5, qz0, qz1, qz2, qz3, qz4, qz5, sm0, sm1, sm2, sm3, sm4, sm5, pr0, pr1, pr2, pr3, pr4, pr5⟩
    clear hK K
    try simp only [Act.put, pT]
    refine wpAnyH_ready (rs := [23]) (by kernel_rfl) (by simp) ?_
    refine AllReadyH.cons rfl (fun K hK => ?_) AllReadyH.nil
    (try simp only [pT])
    rw [if_pos (by rfl)]
    go_simp
    go_at_call 20
    refine (iin_N hu gu (s2.le (by omega)) (s2.le (by omega)) h0 g0 (s0.le (by omega)) (t0.le (by omega)) z HI.out).mono ?_
    rintro e w25 ⟨rfl, b⟩
    replace h0 := h0.on b
    replace g0 := g0.on b
    replace h2 := h2.on b
    replace hu := hu.on b
    replace gu := gu.on b
    rewrite [cR b pal] at pa0 pa1 pa2 pa3 pa4 pa5
    replace pal := lK b pal
    rewrite [cR b pbl] at pb0 pb1 pb2 pb3 pb4 pb5
    replace pbl := lK b pbl
    rewrite [cR b pxl] at px0 px1 px2
    replace pxl := lK b pxl
    rewrite [cR b ppl] at pp0 pp1 pp2 pp3 pp4 pp5
    replace ppl := lK b ppl
    rewrite [cR b qzl] at qz0 qz1 qz2 qz3 qz4 qz5
    replace qzl := lK b qzl
    rewrite [cR b sml] at sm0 sm1 sm2 sm3 sm4 sm5
    replace sml := lK b sml
    rewrite [cR b prl] at pr0 pr1 pr2 pr3 pr4 pr5
    replace prl := lK b prl
    replace cc := bK cc b
    clear b
    refine hK.out _ _ ?_ (fun hHeld => ?_)
    · exact ⟨pa0, pa1, pa2, pa3, pa4, pa5, pb0, pb1, pb2, pb3, pb4, pb5, px0, px1, px2, pp0, pp1, pp2, pp3, pp4, pp5, qz0, qz1, qz2, qz3, qz4, qz5, sm0, sm1, sm2, sm3, sm4, sm5, pr0, pr1, pr2, pr3, pr4, pr5⟩
    clear hK K
    try simp only [Act.put, pT]
    refine wpAnyH_ready (rs := [26]) (by kernel_rfl) (by simp) ?_
    refine AllReadyH.cons rfl (fun K hK => ?_) AllReadyH.nil
    (try simp only [pT])
    rw [if_pos (by rfl)]
    go_simp
    go_at_call 18
    refine (ihas_N h0 g0 (s0.le (by omega)) (t0.le (by omega)) h2 (s2.le (by omega)) z HH.out).mono ?_
    rintro e w26 ⟨rfl, b⟩
    replace h0 := h0.on b
    replace g0 := g0.on b
    replace h2 := h2.on b
    replace hu := hu.on b
    replace gu := gu.on b
    rewrite [cR b pal] at pa0 pa1 pa2 pa3 pa4 pa5
    replace pal := lK b pal
    rewrite [cR b pbl] at pb0 pb1 pb2 pb3 pb4 pb5
    replace pbl := lK b pbl
    rewrite [cR b pxl] at px0 px1 px2
    replace pxl := lK b pxl
    rewrite [cR b ppl] at pp0 pp1 pp2 pp3 pp4 pp5
    replace ppl := lK b ppl
    rewrite [cR b qzl] at qz0 qz1 qz2 qz3 qz4 qz5
    replace qzl := lK b qzl
    rewrite [cR b sml] at sm0 sm1 sm2 sm3 sm4 sm5
    replace sml := lK b sml
    rewrite [cR b prl] at pr0 pr1 pr2 pr3 pr4 pr5
    replace prl := lK b prl
    replace cc := bK cc b
    clear b
    refine hK.out _ _ ?_ (fun hHeld => ?_)
    · exact ⟨pa0, pa1, pa2, pa3, pa4, pa5, pb0, pb1, pb2, pb3, pb4, pb5, px0, px1, px2, pp0, pp1, pp2, pp3, pp4, pp5, qz0, qz1, qz2, qz3, qz4, qz5, sm0, sm1, sm2, sm3, sm4, sm5, pr0, pr1, pr2, pr3, pr4, pr5⟩
    clear hK K
    try simp only [Act.put, pT]
    refine wpAnyH_take (i := 27) (v := ?_) rfl (by kernel_rfl) (by kernel_rfl) (by kernel_rfl) (fun _ _ _ h => h) (Or.inl ⟨by rfl, ?_⟩) hHeld ?_
    rotate_left
    · (intro w hSw; (try dsimp only at hSw); go_simp; (try with_reducible rfl))
    try simp only [Act.put, pT]
    refine wpAnyH_take (i := 28) (v := ?_) rfl (by kernel_rfl) (by kernel_rfl) (by kernel_rfl) (fun _ _ _ h => h) (Or.inl ⟨by rfl, ?_⟩) hHeld ?_
    rotate_left
    · (intro w hSw; (try dsimp only at hSw); go_simp; (try with_reducible rfl))
    try simp only [Act.put, pT]
    refine wpAnyH_take (i := 29) (v := ?_) rfl (by kernel_rfl) (by kernel_rfl) (by kernel_rfl) (fun _ _ _ h => h) (Or.inl ⟨by rfl, ?_⟩) hHeld ?_
    rotate_left
    · (intro w hSw; (try dsimp only at hSw); go_simp; (try with_reducible rfl))
    try simp only [Act.put, pT]
    refine wpAnyH_done (by kernel_rfl) ?_ _
    clear hHeld
    go_wp2_with fail
    go_ret
    exact ⟨rfl, cc⟩

end Go.Proofs.YtanpklbconflmaaGreat
