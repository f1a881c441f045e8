/-
  The walk of IvalTells.
-/
import Derived.Test.YtanpklbconflmaaGreatFT
import Derived.Test.YtanpklbconflmaaGreatA3
namespace Go.Proofs.YtanpklbconflmaaGreat
set_option maxRecDepth 100000
set_option maxHeartbeats 8000000
open Go.RowKit
set_option linter.unusedVariables false
set_option linter.unusedSimpArgs false

theorem IvalTells_big0 {w : World} {b0 p0 : Bool} {A0 B0 V0 U0 : Option Addr} {n0 c0 m0 d0 r0 k0 o0 q0 : Nat} {b1 p1 : Bool} {A1 B1 V1 U1 : Option Addr} {n1 c1 m1 d1 r1 k1 o1 q1 : Nat} {b2 : Bool} {A2 B2 : Option Addr} {n2 c2 m2 d2 : Nat} (v0_ : 3 < n0) :
    Calls Tryz.prog 3 #[.agg #[.bool b0, .slice A0 n0 c0, .slice B0 m0 d0, .bool p0, .slice V0 r0 k0, .slice U0 o0 q0], .agg #[.bool b1, .slice A1 n1 c1, .slice B1 m1 d1, .bool p1, .slice V1 r1 k1, .slice U1 o1 q1], .agg #[.bool b2, .slice A2 n2 c2, .slice B2 m2 d2]] w (fun e w' => e = .returned (.bool true) ∧ Below w.heap.size w w') := by
  have tb0 : decide ((3 : Int) < (n0 : Int)) = true := decide_eq_true (by omega)
  have tn0 : decide (3 < n0) = true := decide_eq_true (by omega)
  clear v0_
  have cc := Below.refl w.heap.size w
  go_enter Tryz.func3, Tryz.ntmps3
  go_wp2_with fail
  generalize hv_ : ((w.alloc (.cells #[.bool b0, .slice A0 n0 c0, .slice B0 m0 d0, .bool p0, .slice V0 r0 k0, .slice U0 o0 q0] 29)).alloc (.cells #[.bool b1, .slice A1 n1 c1, .slice B1 m1 d1, .bool p1, .slice V1 r1 k1, .slice U1 o1 q1] 29)).alloc (.cells #[.bool b2, .slice A2 n2 c2, .slice B2 m2 d2] 27) = v1
  have bA : Below w.heap.size w v1 := by rw [← hv_]; exact ((((Below.refl _ w).alloc (by simp) _).alloc (by simp) _).alloc (by simp <;> omega) _)
  replace cc := bK cc bA
  clear bA
  obtain ⟨pa0, pa1, pa2, pa3, pa4, pa5⟩ : Cs6 v1 w.heap.size (.bool b0) (.slice A0 n0 c0) (.slice B0 m0 d0) (.bool p0) (.slice V0 r0 k0) (.slice U0 o0 q0) := by simp [Cs6, ← hv_, go_sem]
  have pal : w.heap.size < v1.heap.size := by simp [← hv_] <;> omega
  obtain ⟨pb0, pb1, pb2, pb3, pb4, pb5⟩ : Cs6 v1 (w.heap.size + 1) (.bool b1) (.slice A1 n1 c1) (.slice B1 m1 d1) (.bool p1) (.slice V1 r1 k1) (.slice U1 o1 q1) := by simp [Cs6, ← hv_, go_sem]
  have pbl : w.heap.size + 1 < v1.heap.size := by simp [← hv_] <;> omega
  obtain ⟨px0, px1, px2⟩ : Cs3 v1 (w.heap.size + 1 + 1) (.bool b2) (.slice A2 n2 c2) (.slice B2 m2 d2) := by simp [Cs3, ← hv_, go_sem]
  have pxl : w.heap.size + 1 + 1 < v1.heap.size := by simp [← hv_] <;> omega
  clear hv_
  refine (alive7_any _).mono ?_
  rintro e w2 ⟨rfl, b⟩
  rewrite [cR b pal] at pa0 pa1 pa2 pa3 pa4 pa5
  replace pal := lK b pal
  rewrite [cR b pbl] at pb0 pb1 pb2 pb3 pb4 pb5
  replace pbl := lK b pbl
  rewrite [cR b pxl] at px0 px1 px2
  replace pxl := lK b pxl
  replace cc := bK cc b
  clear b
  go_wp2_with fail
  go_ret
  exact ⟨rfl, cc⟩

theorem IvalTells_big1 {w : World} {b0 p0 : Bool} {A0 B0 V0 U0 : Option Addr} {n0 c0 m0 d0 r0 k0 o0 q0 : Nat} {b1 p1 : Bool} {A1 B1 V1 U1 : Option Addr} {n1 c1 m1 d1 r1 k1 o1 q1 : Nat} {b2 : Bool} {A2 B2 : Option Addr} {n2 c2 m2 d2 : Nat} (v0_ : n0 ≤ 3) (v1_ : 3 < m0) :
    Calls Tryz.prog 3 #[.agg #[.bool b0, .slice A0 n0 c0, .slice B0 m0 d0, .bool p0, .slice V0 r0 k0, .slice U0 o0 q0], .agg #[.bool b1, .slice A1 n1 c1, .slice B1 m1 d1, .bool p1, .slice V1 r1 k1, .slice U1 o1 q1], .agg #[.bool b2, .slice A2 n2 c2, .slice B2 m2 d2]] w (fun e w' => e = .returned (.bool true) ∧ Below w.heap.size w w') := by
  have tb0 : decide ((3 : Int) < (n0 : Int)) = false := decide_eq_false (by omega)
  have tn0 : decide (3 < n0) = false := decide_eq_false (by omega)
  have tb1 : decide ((3 : Int) < (m0 : Int)) = true := decide_eq_true (by omega)
  have tn1 : decide (3 < m0) = true := decide_eq_true (by omega)
  clear v0_ v1_
  have cc := Below.refl w.heap.size w
  go_enter Tryz.func3, Tryz.ntmps3
  go_wp2_with fail
  generalize hv_ : ((w.alloc (.cells #[.bool b0, .slice A0 n0 c0, .slice B0 m0 d0, .bool p0, .slice V0 r0 k0, .slice U0 o0 q0] 29)).alloc (.cells #[.bool b1, .slice A1 n1 c1, .slice B1 m1 d1, .bool p1, .slice V1 r1 k1, .slice U1 o1 q1] 29)).alloc (.cells #[.bool b2, .slice A2 n2 c2, .slice B2 m2 d2] 27) = v1
  have bA : Below w.heap.size w v1 := by rw [← hv_]; exact ((((Below.refl _ w).alloc (by simp) _).alloc (by simp) _).alloc (by simp <;> omega) _)
  replace cc := bK cc bA
  clear bA
  obtain ⟨pa0, pa1, pa2, pa3, pa4, pa5⟩ : Cs6 v1 w.heap.size (.bool b0) (.slice A0 n0 c0) (.slice B0 m0 d0) (.bool p0) (.slice V0 r0 k0) (.slice U0 o0 q0) := by simp [Cs6, ← hv_, go_sem]
  have pal : w.heap.size < v1.heap.size := by simp [← hv_] <;> omega
  obtain ⟨pb0, pb1, pb2, pb3, pb4, pb5⟩ : Cs6 v1 (w.heap.size + 1) (.bool b1) (.slice A1 n1 c1) (.slice B1 m1 d1) (.bool p1) (.slice V1 r1 k1) (.slice U1 o1 q1) := by simp [Cs6, ← hv_, go_sem]
  have pbl : w.heap.size + 1 < v1.heap.size := by simp [← hv_] <;> omega
  obtain ⟨px0, px1, px2⟩ : Cs3 v1 (w.heap.size + 1 + 1) (.bool b2) (.slice A2 n2 c2) (.slice B2 m2 d2) := by simp [Cs3, ← hv_, go_sem]
  have pxl : w.heap.size + 1 + 1 < v1.heap.size := by simp [← hv_] <;> omega
  clear hv_
  refine (alive7_any _).mono ?_
  rintro e w2 ⟨rfl, b⟩
  rewrite [cR b pal] at pa0 pa1 pa2 pa3 pa4 pa5
  replace pal := lK b pal
  rewrite [cR b pbl] at pb0 pb1 pb2 pb3 pb4 pb5
  replace pbl := lK b pbl
  rewrite [cR b pxl] at px0 px1 px2
  replace pxl := lK b pxl
  replace cc := bK cc b
  clear b
  go_wp2_with fail
  go_ret
  exact ⟨rfl, cc⟩

theorem IvalTells_big2 {w : World} {b0 p0 : Bool} {A0 B0 V0 U0 : Option Addr} {n0 c0 m0 d0 r0 k0 o0 q0 : Nat} {b1 p1 : Bool} {A1 B1 V1 U1 : Option Addr} {n1 c1 m1 d1 r1 k1 o1 q1 : Nat} {b2 : Bool} {A2 B2 : Option Addr} {n2 c2 m2 d2 : Nat} (v0_ : n0 ≤ 3) (v1_ : m0 ≤ 3) (v2_ : 3 < r0) :
    Calls Tryz.prog 3 #[.agg #[.bool b0, .slice A0 n0 c0, .slice B0 m0 d0, .bool p0, .slice V0 r0 k0, .slice U0 o0 q0], .agg #[.bool b1, .slice A1 n1 c1, .slice B1 m1 d1, .bool p1, .slice V1 r1 k1, .slice U1 o1 q1], .agg #[.bool b2, .slice A2 n2 c2, .slice B2 m2 d2]] w (fun e w' => e = .returned (.bool true) ∧ Below w.heap.size w w') := by
  have tb0 : decide ((3 : Int) < (n0 : Int)) = false := decide_eq_false (by omega)
  have tn0 : decide (3 < n0) = false := decide_eq_false (by omega)
  have tb1 : decide ((3 : Int) < (m0 : Int)) = false := decide_eq_false (by omega)
  have tn1 : decide (3 < m0) = false := decide_eq_false (by omega)
  have tb2 : decide ((3 : Int) < (r0 : Int)) = true := decide_eq_true (by omega)
  have tn2 : decide (3 < r0) = true := decide_eq_true (by omega)
  clear v0_ v1_ v2_
  have cc := Below.refl w.heap.size w
  go_enter Tryz.func3, Tryz.ntmps3
  go_wp2_with fail
  generalize hv_ : ((w.alloc (.cells #[.bool b0, .slice A0 n0 c0, .slice B0 m0 d0, .bool p0, .slice V0 r0 k0, .slice U0 o0 q0] 29)).alloc (.cells #[.bool b1, .slice A1 n1 c1, .slice B1 m1 d1, .bool p1, .slice V1 r1 k1, .slice U1 o1 q1] 29)).alloc (.cells #[.bool b2, .slice A2 n2 c2, .slice B2 m2 d2] 27) = v1
  have bA : Below w.heap.size w v1 := by rw [← hv_]; exact ((((Below.refl _ w).alloc (by simp) _).alloc (by simp) _).alloc (by simp <;> omega) _)
  replace cc := bK cc bA
  clear bA
  obtain ⟨pa0, pa1, pa2, pa3, pa4, pa5⟩ : Cs6 v1 w.heap.size (.bool b0) (.slice A0 n0 c0) (.slice B0 m0 d0) (.bool p0) (.slice V0 r0 k0) (.slice U0 o0 q0) := by simp [Cs6, ← hv_, go_sem]
  have pal : w.heap.size < v1.heap.size := by simp [← hv_] <;> omega
  obtain ⟨pb0, pb1, pb2, pb3, pb4, pb5⟩ : Cs6 v1 (w.heap.size + 1) (.bool b1) (.slice A1 n1 c1) (.slice B1 m1 d1) (.bool p1) (.slice V1 r1 k1) (.slice U1 o1 q1) := by simp [Cs6, ← hv_, go_sem]
  have pbl : w.heap.size + 1 < v1.heap.size := by simp [← hv_] <;> omega
  obtain ⟨px0, px1, px2⟩ : Cs3 v1 (w.heap.size + 1 + 1) (.bool b2) (.slice A2 n2 c2) (.slice B2 m2 d2) := by simp [Cs3, ← hv_, go_sem]
  have pxl : w.heap.size + 1 + 1 < v1.heap.size := by simp [← hv_] <;> omega
  clear hv_
  refine (alive7_any _).mono ?_
  rintro e w2 ⟨rfl, b⟩
  rewrite [cR b pal] at pa0 pa1 pa2 pa3 pa4 pa5
  replace pal := lK b pal
  rewrite [cR b pbl] at pb0 pb1 pb2 pb3 pb4 pb5
  replace pbl := lK b pbl
  rewrite [cR b pxl] at px0 px1 px2
  replace pxl := lK b pxl
  replace cc := bK cc b
  clear b
  go_wp2_with fail
  go_ret
  exact ⟨rfl, cc⟩

theorem IvalTells_big3 {w : World} {b0 p0 : Bool} {A0 B0 V0 U0 : Option Addr} {n0 c0 m0 d0 r0 k0 o0 q0 : Nat} {b1 p1 : Bool} {A1 B1 V1 U1 : Option Addr} {n1 c1 m1 d1 r1 k1 o1 q1 : Nat} {b2 : Bool} {A2 B2 : Option Addr} {n2 c2 m2 d2 : Nat} (v0_ : n0 ≤ 3) (v1_ : m0 ≤ 3) (v2_ : r0 ≤ 3) (v3_ : 3 < o0) :
    Calls Tryz.prog 3 #[.agg #[.bool b0, .slice A0 n0 c0, .slice B0 m0 d0, .bool p0, .slice V0 r0 k0, .slice U0 o0 q0], .agg #[.bool b1, .slice A1 n1 c1, .slice B1 m1 d1, .bool p1, .slice V1 r1 k1, .slice U1 o1 q1], .agg #[.bool b2, .slice A2 n2 c2, .slice B2 m2 d2]] w (fun e w' => e = .returned (.bool true) ∧ Below w.heap.size w w') := by
  have tb0 : decide ((3 : Int) < (n0 : Int)) = false := decide_eq_false (by omega)
  have tn0 : decide (3 < n0) = false := decide_eq_false (by omega)
  have tb1 : decide ((3 : Int) < (m0 : Int)) = false := decide_eq_false (by omega)
  have tn1 : decide (3 < m0) = false := decide_eq_false (by omega)
  have tb2 : decide ((3 : Int) < (r0 : Int)) = false := decide_eq_false (by omega)
  have tn2 : decide (3 < r0) = false := decide_eq_false (by omega)
  have tb3 : decide ((3 : Int) < (o0 : Int)) = true := decide_eq_true (by omega)
  have tn3 : decide (3 < o0) = true := decide_eq_true (by omega)
  clear v0_ v1_ v2_ v3_
  have cc := Below.refl w.heap.size w
  go_enter Tryz.func3, Tryz.ntmps3
  go_wp2_with fail
  generalize hv_ : ((w.alloc (.cells #[.bool b0, .slice A0 n0 c0, .slice B0 m0 d0, .bool p0, .slice V0 r0 k0, .slice U0 o0 q0] 29)).alloc (.cells #[.bool b1, .slice A1 n1 c1, .slice B1 m1 d1, .bool p1, .slice V1 r1 k1, .slice U1 o1 q1] 29)).alloc (.cells #[.bool b2, .slice A2 n2 c2, .slice B2 m2 d2] 27) = v1
  have bA : Below w.heap.size w v1 := by rw [← hv_]; exact ((((Below.refl _ w).alloc (by simp) _).alloc (by simp) _).alloc (by simp <;> omega) _)
  replace cc := bK cc bA
  clear bA
  obtain ⟨pa0, pa1, pa2, pa3, pa4, pa5⟩ : Cs6 v1 w.heap.size (.bool b0) (.slice A0 n0 c0) (.slice B0 m0 d0) (.bool p0) (.slice V0 r0 k0) (.slice U0 o0 q0) := by simp [Cs6, ← hv_, go_sem]
  have pal : w.heap.size < v1.heap.size := by simp [← hv_] <;> omega
  obtain ⟨pb0, pb1, pb2, pb3, pb4, pb5⟩ : Cs6 v1 (w.heap.size + 1) (.bool b1) (.slice A1 n1 c1) (.slice B1 m1 d1) (.bool p1) (.slice V1 r1 k1) (.slice U1 o1 q1) := by simp [Cs6, ← hv_, go_sem]
  have pbl : w.heap.size + 1 < v1.heap.size := by simp [← hv_] <;> omega
  obtain ⟨px0, px1, px2⟩ : Cs3 v1 (w.heap.size + 1 + 1) (.bool b2) (.slice A2 n2 c2) (.slice B2 m2 d2) := by simp [Cs3, ← hv_, go_sem]
  have pxl : w.heap.size + 1 + 1 < v1.heap.size := by simp [← hv_] <;> omega
  clear hv_
  refine (alive7_any _).mono ?_
  rintro e w2 ⟨rfl, b⟩
  rewrite [cR b pal] at pa0 pa1 pa2 pa3 pa4 pa5
  replace pal := lK b pal
  rewrite [cR b pbl] at pb0 pb1 pb2 pb3 pb4 pb5
  replace pbl := lK b pbl
  rewrite [cR b pxl] at px0 px1 px2
  replace pxl := lK b pxl
  replace cc := bK cc b
  clear b
  go_wp2_with fail
  go_ret
  exact ⟨rfl, cc⟩

theorem IvalTells_fx {w : World} {b0 p0 : Bool} {A0 B0 V0 U0 : Option Addr} {n0 c0 m0 d0 r0 k0 o0 q0 : Nat} {b1 p1 : Bool} {A1 B1 V1 U1 : Option Addr} {n1 c1 m1 d1 r1 k1 o1 q1 : Nat} {b2 : Bool} {A2 B2 : Option Addr} {n2 c2 m2 d2 : Nat} (v0_ : n0 ≤ 3) (v1_ : m0 ≤ 3) (v2_ : r0 ≤ 3) (v3_ : o0 ≤ 3) (G2 : ∀ W : World, Below w.heap.size w W → Calls Tryz.prog 10 #[.agg #[.bool b2, .slice A2 n2 c2, .slice B2 m2 d2], .int .i64 3] W (GotV W (.bool false))) :
    Calls Tryz.prog 3 #[.agg #[.bool b0, .slice A0 n0 c0, .slice B0 m0 d0, .bool p0, .slice V0 r0 k0, .slice U0 o0 q0], .agg #[.bool b1, .slice A1 n1 c1, .slice B1 m1 d1, .bool p1, .slice V1 r1 k1, .slice U1 o1 q1], .agg #[.bool b2, .slice A2 n2 c2, .slice B2 m2 d2]] w (fun e w' => e = .returned (.bool true) ∧ Below w.heap.size w w') := by
  have tb0 : decide ((3 : Int) < (n0 : Int)) = false := decide_eq_false (by omega)
  have tn0 : decide (3 < n0) = false := decide_eq_false (by omega)
  have tb1 : decide ((3 : Int) < (m0 : Int)) = false := decide_eq_false (by omega)
  have tn1 : decide (3 < m0) = false := decide_eq_false (by omega)
  have tb2 : decide ((3 : Int) < (r0 : Int)) = false := decide_eq_false (by omega)
  have tn2 : decide (3 < r0) = false := decide_eq_false (by omega)
  have tb3 : decide ((3 : Int) < (o0 : Int)) = false := decide_eq_false (by omega)
  have tn3 : decide (3 < o0) = false := decide_eq_false (by omega)
  clear v0_ v1_ v2_ v3_
  have cc := Below.refl w.heap.size w
  go_enter Tryz.func3, Tryz.ntmps3
  go_wp2_with fail
  generalize hv_ : ((w.alloc (.cells #[.bool b0, .slice A0 n0 c0, .slice B0 m0 d0, .bool p0, .slice V0 r0 k0, .slice U0 o0 q0] 29)).alloc (.cells #[.bool b1, .slice A1 n1 c1, .slice B1 m1 d1, .bool p1, .slice V1 r1 k1, .slice U1 o1 q1] 29)).alloc (.cells #[.bool b2, .slice A2 n2 c2, .slice B2 m2 d2] 27) = v1
  have bA : Below w.heap.size w v1 := by rw [← hv_]; exact ((((Below.refl _ w).alloc (by simp) _).alloc (by simp) _).alloc (by simp <;> omega) _)
  replace cc := bK cc bA
  clear bA
  obtain ⟨pa0, pa1, pa2, pa3, pa4, pa5⟩ : Cs6 v1 w.heap.size (.bool b0) (.slice A0 n0 c0) (.slice B0 m0 d0) (.bool p0) (.slice V0 r0 k0) (.slice U0 o0 q0) := by simp [Cs6, ← hv_, go_sem]
  have pal : w.heap.size < v1.heap.size := by simp [← hv_] <;> omega
  obtain ⟨pb0, pb1, pb2, pb3, pb4, pb5⟩ : Cs6 v1 (w.heap.size + 1) (.bool b1) (.slice A1 n1 c1) (.slice B1 m1 d1) (.bool p1) (.slice V1 r1 k1) (.slice U1 o1 q1) := by simp [Cs6, ← hv_, go_sem]
  have pbl : w.heap.size + 1 < v1.heap.size := by simp [← hv_] <;> omega
  obtain ⟨px0, px1, px2⟩ : Cs3 v1 (w.heap.size + 1 + 1) (.bool b2) (.slice A2 n2 c2) (.slice B2 m2 d2) := by simp [Cs3, ← hv_, go_sem]
  have pxl : w.heap.size + 1 + 1 < v1.heap.size := by simp [← hv_] <;> omega
  clear hv_
  refine (G2 _ cc).mono ?_
  rintro e w2 ⟨rfl, b⟩
  rewrite [cR b pal] at pa0 pa1 pa2 pa3 pa4 pa5
  replace pal := lK b pal
  rewrite [cR b pbl] at pb0 pb1 pb2 pb3 pb4 pb5
  replace pbl := lK b pbl
  rewrite [cR b pxl] at px0 px1 px2
  replace pxl := lK b pxl
  replace cc := bK cc b
  clear b
  go_wp2_with fail
  refine (alive7_any _).mono ?_
  rintro e w3 ⟨rfl, b⟩
  rewrite [cR b pal] at pa0 pa1 pa2 pa3 pa4 pa5
  replace pal := lK b pal
  rewrite [cR b pbl] at pb0 pb1 pb2 pb3 pb4 pb5
  replace pbl := lK b pbl
  rewrite [cR b pxl] at px0 px1 px2
  replace pxl := lK b pxl
  replace cc := bK cc b
  clear b
  go_wp2_with fail
  go_ret
  exact ⟨rfl, cc⟩

theorem IvalTells_fa {w : World} {b0 p0 : Bool} {A0 B0 V0 U0 : Option Addr} {n0 c0 m0 d0 r0 k0 o0 q0 : Nat} {b1 p1 : Bool} {A1 B1 V1 U1 : Option Addr} {n1 c1 m1 d1 r1 k1 o1 q1 : Nat} {b2 : Bool} {A2 B2 : Option Addr} {n2 c2 m2 d2 : Nat} (v0_ : n0 ≤ 3) (v1_ : m0 ≤ 3) (v2_ : r0 ≤ 3) (v3_ : o0 ≤ 3) (G2 : ∀ W : World, Below w.heap.size w W → Calls Tryz.prog 10 #[.agg #[.bool b2, .slice A2 n2 c2, .slice B2 m2 d2], .int .i64 3] W (GotV W (.bool true))) {x2 : Rat} (h2 : Rt w b2 A2 n2 c2 B2 m2 d2 x2) (s2 : Sz x2 3) (z : Bool) (RI : (∀ W : World, Below w.heap.size w W → Calls Tryz.prog 12 #[.agg #[.bool b0, .slice A0 n0 c0, .slice B0 m0 d0, .bool p0, .slice V0 r0 k0, .slice U0 o0 q0]] W (GotV W (.bool z)))) (RR : (∀ W : World, Below w.heap.size w W → Calls Tryz.prog 13 #[.agg #[.bool b0, .slice A0 n0 c0, .slice B0 m0 d0, .bool p0, .slice V0 r0 k0, .slice U0 o0 q0]] W (GotV W (.bool z)))) (G0 : ∀ W : World, Below w.heap.size w W → Calls Tryz.prog 17 #[.agg #[.bool b0, .slice A0 n0 c0, .slice B0 m0 d0, .bool p0, .slice V0 r0 k0, .slice U0 o0 q0], .int .i64 3] W (GotV W (.bool false))) :
    Calls Tryz.prog 3 #[.agg #[.bool b0, .slice A0 n0 c0, .slice B0 m0 d0, .bool p0, .slice V0 r0 k0, .slice U0 o0 q0], .agg #[.bool b1, .slice A1 n1 c1, .slice B1 m1 d1, .bool p1, .slice V1 r1 k1, .slice U1 o1 q1], .agg #[.bool b2, .slice A2 n2 c2, .slice B2 m2 d2]] w (fun e w' => e = .returned (.bool true) ∧ Below w.heap.size w w') := by
  have tb0 : decide ((3 : Int) < (n0 : Int)) = false := decide_eq_false (by omega)
  have tn0 : decide (3 < n0) = false := decide_eq_false (by omega)
  have tb1 : decide ((3 : Int) < (m0 : Int)) = false := decide_eq_false (by omega)
  have tn1 : decide (3 < m0) = false := decide_eq_false (by omega)
  have tb2 : decide ((3 : Int) < (r0 : Int)) = false := decide_eq_false (by omega)
  have tn2 : decide (3 < r0) = false := decide_eq_false (by omega)
  have tb3 : decide ((3 : Int) < (o0 : Int)) = false := decide_eq_false (by omega)
  have tn3 : decide (3 < o0) = false := decide_eq_false (by omega)
  clear v0_ v1_ v2_ v3_
  have cc := Below.refl w.heap.size w
  go_enter Tryz.func3, Tryz.ntmps3
  go_wp2_with fail
  generalize hv_ : ((w.alloc (.cells #[.bool b0, .slice A0 n0 c0, .slice B0 m0 d0, .bool p0, .slice V0 r0 k0, .slice U0 o0 q0] 29)).alloc (.cells #[.bool b1, .slice A1 n1 c1, .slice B1 m1 d1, .bool p1, .slice V1 r1 k1, .slice U1 o1 q1] 29)).alloc (.cells #[.bool b2, .slice A2 n2 c2, .slice B2 m2 d2] 27) = v1
  have bA : Below w.heap.size w v1 := by rw [← hv_]; exact ((((Below.refl _ w).alloc (by simp) _).alloc (by simp) _).alloc (by simp <;> omega) _)
  replace h2 := h2.on bA
  replace cc := bK cc bA
  clear bA
  obtain ⟨pa0, pa1, pa2, pa3, pa4, pa5⟩ : Cs6 v1 w.heap.size (.bool b0) (.slice A0 n0 c0) (.slice B0 m0 d0) (.bool p0) (.slice V0 r0 k0) (.slice U0 o0 q0) := by simp [Cs6, ← hv_, go_sem]
  have pal : w.heap.size < v1.heap.size := by simp [← hv_] <;> omega
  obtain ⟨pb0, pb1, pb2, pb3, pb4, pb5⟩ : Cs6 v1 (w.heap.size + 1) (.bool b1) (.slice A1 n1 c1) (.slice B1 m1 d1) (.bool p1) (.slice V1 r1 k1) (.slice U1 o1 q1) := by simp [Cs6, ← hv_, go_sem]
  have pbl : w.heap.size + 1 < v1.heap.size := by simp [← hv_] <;> omega
  obtain ⟨px0, px1, px2⟩ : Cs3 v1 (w.heap.size + 1 + 1) (.bool b2) (.slice A2 n2 c2) (.slice B2 m2 d2) := by simp [Cs3, ← hv_, go_sem]
  have pxl : w.heap.size + 1 + 1 < v1.heap.size := by simp [← hv_] <;> omega
  clear hv_
  refine (G2 _ cc).mono ?_
  rintro e w2 ⟨rfl, b⟩
  replace h2 := h2.on b
  rewrite [cR b pal] at pa0 pa1 pa2 pa3 pa4 pa5
  replace pal := lK b pal
  rewrite [cR b pbl] at pb0 pb1 pb2 pb3 pb4 pb5
  replace pbl := lK b pbl
  rewrite [cR b pxl] at px0 px1 px2
  replace pxl := lK b pxl
  replace cc := bK cc b
  clear b
  go_wp2_with fail
  have bD : Below w2.heap.size w2 w2.drew := below_drewN (Below.refl _ w2) 1
  replace h2 := h2.on bD
  rewrite [cR bD pal] at pa0 pa1 pa2 pa3 pa4 pa5
  replace pal := lK bD pal
  rewrite [cR bD pbl] at pb0 pb1 pb2 pb3 pb4 pb5
  replace pbl := lK bD pbl
  rewrite [cR bD pxl] at px0 px1 px2
  replace pxl := lK bD pxl
  replace cc := bK cc bD
  clear bD
  refine wp_region_held_drew (S := fun w' => w'.cell? ⟨w.heap.size, 0, none⟩ = some (.bool b0) ∧ w'.cell? ⟨w.heap.size, 1, none⟩ = some (.slice A0 n0 c0) ∧ w'.cell? ⟨w.heap.size, 2, none⟩ = some (.slice B0 m0 d0) ∧ w'.cell? ⟨w.heap.size, 3, none⟩ = some (.bool p0) ∧ w'.cell? ⟨w.heap.size, 4, none⟩ = some (.slice V0 r0 k0) ∧ w'.cell? ⟨w.heap.size, 5, none⟩ = some (.slice U0 o0 q0) ∧ w'.cell? ⟨w.heap.size + 1, 0, none⟩ = some (.bool b1) ∧ w'.cell? ⟨w.heap.size + 1, 1, none⟩ = some (.slice A1 n1 c1) ∧ w'.cell? ⟨w.heap.size + 1, 2, none⟩ = some (.slice B1 m1 d1) ∧ w'.cell? ⟨w.heap.size + 1, 3, none⟩ = some (.bool p1) ∧ w'.cell? ⟨w.heap.size + 1, 4, none⟩ = some (.slice V1 r1 k1) ∧ w'.cell? ⟨w.heap.size + 1, 5, none⟩ = some (.slice U1 o1 q1) ∧ w'.cell? ⟨w.heap.size + 1 + 1, 0, none⟩ = some (.bool b2) ∧ w'.cell? ⟨w.heap.size + 1 + 1, 1, none⟩ = some (.slice A2 n2 c2) ∧ w'.cell? ⟨w.heap.size + 1 + 1, 2, none⟩ = some (.slice B2 m2 d2)) (by kernel_rfl) ?_ (fun hHeld => ?_)
  · exact ⟨pa0, pa1, pa2, pa3, pa4, pa5, pb0, pb1, pb2, pb3, pb4, pb5, px0, px1, px2⟩
  refine wpAnyH_take (i := 0) (v := ?_) rfl (by kernel_rfl) (by kernel_rfl) (by kernel_rfl) (fun _ _ _ h => h) (Or.inl ⟨by rfl, ?_⟩) hHeld ?_
  rotate_left
  · (intro w hSw; (try dsimp only at hSw); go_simp; (try with_reducible rfl))
  try simp only [Act.put, pT]
  refine wpAnyH_take (i := 2) (v := ?_) rfl (by kernel_rfl) (by kernel_rfl) (by kernel_rfl) (fun _ _ _ h => h) (Or.inl ⟨by rfl, ?_⟩) hHeld ?_
  rotate_left
  · (intro w hSw; (try dsimp only at hSw); go_simp; (try with_reducible rfl))
  try simp only [Act.put, pT]
  refine wpAnyH_ready (rs := [1]) (by kernel_rfl) (by simp) ?_
  refine AllReadyH.cons rfl (fun K hK => ?_) AllReadyH.nil
  (try simp only [pT])
  rw [if_pos (by rfl)]
  go_simp
  go_at_call 12
  refine (RI _ cc).mono ?_
  rintro e w3 ⟨rfl, b⟩
  replace h2 := h2.on b
  rewrite [cR b pal] at pa0 pa1 pa2 pa3 pa4 pa5
  replace pal := lK b pal
  rewrite [cR b pbl] at pb0 pb1 pb2 pb3 pb4 pb5
  replace pbl := lK b pbl
  rewrite [cR b pxl] at px0 px1 px2
  replace pxl := lK b pxl
  replace cc := bK cc b
  clear b
  refine hK.out _ _ ?_ (fun hHeld => ?_)
  · exact ⟨pa0, pa1, pa2, pa3, pa4, pa5, pb0, pb1, pb2, pb3, pb4, pb5, px0, px1, px2⟩
  clear hK K
  try simp only [Act.put, pT]
  refine wpAnyH_ready (rs := [3]) (by kernel_rfl) (by simp) ?_
  refine AllReadyH.cons rfl (fun K hK => ?_) AllReadyH.nil
  (try simp only [pT])
  rw [if_pos (by rfl)]
  go_simp
  go_at_call 13
  refine (RR _ cc).mono ?_
  rintro e w4 ⟨rfl, b⟩
  replace h2 := h2.on b
  rewrite [cR b pal] at pa0 pa1 pa2 pa3 pa4 pa5
  replace pal := lK b pal
  rewrite [cR b pbl] at pb0 pb1 pb2 pb3 pb4 pb5
  replace pbl := lK b pbl
  rewrite [cR b pxl] at px0 px1 px2
  replace pxl := lK b pxl
  replace cc := bK cc b
  clear b
  refine hK.out _ _ ?_ (fun hHeld => ?_)
  · exact ⟨pa0, pa1, pa2, pa3, pa4, pa5, pb0, pb1, pb2, pb3, pb4, pb5, px0, px1, px2⟩
  clear hK K
  try simp only [Act.put, pT]
  refine wpAnyH_take (i := 4) (v := ?_) rfl (by kernel_rfl) (by kernel_rfl) (by kernel_rfl) (fun _ _ _ h => h) (Or.inl ⟨by rfl, ?_⟩) hHeld ?_
  rotate_left
  · (intro w hSw; (try dsimp only at hSw); go_simp; (try with_reducible rfl))
  try simp only [Act.put, pT]
  refine wpAnyH_take (i := 5) (v := ?_) rfl (by kernel_rfl) (by kernel_rfl) (by kernel_rfl) (fun _ _ _ h => h) (Or.inl ⟨by rfl, ?_⟩) hHeld ?_
  rotate_left
  · (intro w hSw; (try dsimp only at hSw); go_simp; (try with_reducible rfl))
  try simp only [Act.put, pT]
  refine wpAnyH_take (i := 6) (v := ?_) rfl (by kernel_rfl) (by kernel_rfl) (by kernel_rfl) (fun _ _ _ h => h) (Or.inl ⟨by rfl, ?_⟩) hHeld ?_
  rotate_left
  · (intro w hSw; (try dsimp only at hSw); go_simp; (try with_reducible rfl))
  try simp only [Act.put, pT]
  refine wpAnyH_take (i := 8) (v := ?_) rfl (by kernel_rfl) (by kernel_rfl) (by kernel_rfl) (fun _ _ _ h => h) (Or.inl ⟨by rfl, ?_⟩) hHeld ?_
  rotate_left
  · (intro w hSw; (try dsimp only at hSw); go_simp; (try with_reducible rfl))
  try simp only [Act.put, pT]
  refine wpAnyH_ready (rs := [7]) (by kernel_rfl) (by simp) ?_
  refine AllReadyH.cons rfl (fun K hK => ?_) AllReadyH.nil
  (try simp only [pT])
  rw [if_pos (by rfl)]
  go_simp
  go_at_call 15
  refine (iof_N h2 (s2.le (by omega))).mono ?_
  rintro e w5 ⟨be, Ae, ne, ce, Be, me, de, pe, Ve, re, ke, Ue, oe, qe, rfl, ⟨he, ge_⟩, b⟩
  replace h2 := h2.on b
  rewrite [cR b pal] at pa0 pa1 pa2 pa3 pa4 pa5
  replace pal := lK b pal
  rewrite [cR b pbl] at pb0 pb1 pb2 pb3 pb4 pb5
  replace pbl := lK b pbl
  rewrite [cR b pxl] at px0 px1 px2
  replace pxl := lK b pxl
  replace cc := bK cc b
  clear b
  refine hK.out _ _ ?_ (fun hHeld => ?_)
  · exact ⟨pa0, pa1, pa2, pa3, pa4, pa5, pb0, pb1, pb2, pb3, pb4, pb5, px0, px1, px2⟩
  clear hK K
  try simp only [Act.put, pT]
  refine wpAnyH_ready (rs := [9]) (by kernel_rfl) (by simp) ?_
  refine AllReadyH.cons rfl (fun K hK => ?_) AllReadyH.nil
  (try simp only [pT])
  rw [if_pos (by rfl)]
  go_simp
  go_at_call 16
  refine (stof_N h2).mono ?_
  rintro e w6 ⟨bf, Af, nf, cf, Bf, mf, df, pf, Vf, rf, kf, Uf, of, qf, rfl, ⟨hf, gf⟩, b⟩
  replace h2 := h2.on b
  replace he := he.on b
  replace ge_ := ge_.on b
  rewrite [cR b pal] at pa0 pa1 pa2 pa3 pa4 pa5
  replace pal := lK b pal
  rewrite [cR b pbl] at pb0 pb1 pb2 pb3 pb4 pb5
  replace pbl := lK b pbl
  rewrite [cR b pxl] at px0 px1 px2
  replace pxl := lK b pxl
  replace cc := bK cc b
  clear b
  refine hK.out _ _ ?_ (fun hHeld => ?_)
  · exact ⟨pa0, pa1, pa2, pa3, pa4, pa5, pb0, pb1, pb2, pb3, pb4, pb5, px0, px1, px2⟩
  clear hK K
  try simp only [Act.put, pT]
  refine wpAnyH_ready (rs := [10]) (by kernel_rfl) (by simp) ?_
  refine AllReadyH.cons rfl (fun K hK => ?_) AllReadyH.nil
  (try simp only [pT])
  rw [if_pos (by rfl)]
  go_simp
  go_at_call 14
  refine (stsame_N he ge_ (s2.le (by omega)) (s2.le (by omega)) hf gf (s2.le (by omega)) (s2.le (by omega)) true two_eq).mono ?_
  rintro e w7 ⟨rfl, b⟩
  replace h2 := h2.on b
  replace he := he.on b
  replace ge_ := ge_.on b
  replace hf := hf.on b
  replace gf := gf.on b
  rewrite [cR b pal] at pa0 pa1 pa2 pa3 pa4 pa5
  replace pal := lK b pal
  rewrite [cR b pbl] at pb0 pb1 pb2 pb3 pb4 pb5
  replace pbl := lK b pbl
  rewrite [cR b pxl] at px0 px1 px2
  replace pxl := lK b pxl
  replace cc := bK cc b
  clear b
  refine hK.out _ _ ?_ (fun hHeld => ?_)
  · exact ⟨pa0, pa1, pa2, pa3, pa4, pa5, pb0, pb1, pb2, pb3, pb4, pb5, px0, px1, px2⟩
  clear hK K
  try simp only [Act.put, pT]
  refine wpAnyH_take (i := 11) (v := ?_) rfl (by kernel_rfl) (by kernel_rfl) (by kernel_rfl) (fun _ _ _ h => h) (Or.inl ⟨by rfl, ?_⟩) hHeld ?_
  rotate_left
  · (intro w hSw; (try dsimp only at hSw); go_simp; (try with_reducible rfl))
  try simp only [Act.put, pT]
  refine wpAnyH_take (i := 12) (v := ?_) rfl (by kernel_rfl) (by kernel_rfl) (by kernel_rfl) (fun _ _ _ h => h) (Or.inl ⟨by rfl, ?_⟩) hHeld ?_
  rotate_left
  · (intro w hSw; (try dsimp only at hSw); go_simp; (try with_reducible rfl))
  try simp only [Act.put, pT]
  refine wpAnyH_done (by kernel_rfl) ?_ _
  clear hHeld
  clear he ge_ hf gf
  go_wp2_with fail
  refine (G0 _ cc).mono ?_
  rintro e w8 ⟨rfl, b⟩
  replace h2 := h2.on b
  rewrite [cR b pal] at pa0 pa1 pa2 pa3 pa4 pa5
  replace pal := lK b pal
  rewrite [cR b pbl] at pb0 pb1 pb2 pb3 pb4 pb5
  replace pbl := lK b pbl
  rewrite [cR b pxl] at px0 px1 px2
  replace pxl := lK b pxl
  replace cc := bK cc b
  clear b
  go_wp2_with fail
  refine (alive7_any _).mono ?_
  rintro e w9 ⟨rfl, b⟩
  replace h2 := h2.on b
  rewrite [cR b pal] at pa0 pa1 pa2 pa3 pa4 pa5
  replace pal := lK b pal
  rewrite [cR b pbl] at pb0 pb1 pb2 pb3 pb4 pb5
  replace pbl := lK b pbl
  rewrite [cR b pxl] at px0 px1 px2
  replace pxl := lK b pxl
  replace cc := bK cc b
  clear b
  go_wp2_with fail
  go_ret
  exact ⟨rfl, cc⟩

theorem IvalTells_fb {w : World} {b0 p0 : Bool} {A0 B0 V0 U0 : Option Addr} {n0 c0 m0 d0 r0 k0 o0 q0 : Nat} {b1 p1 : Bool} {A1 B1 V1 U1 : Option Addr} {n1 c1 m1 d1 r1 k1 o1 q1 : Nat} {b2 : Bool} {A2 B2 : Option Addr} {n2 c2 m2 d2 : Nat} (v0_ : n0 ≤ 3) (v1_ : m0 ≤ 3) (v2_ : r0 ≤ 3) (v3_ : o0 ≤ 3) (G2 : ∀ W : World, Below w.heap.size w W → Calls Tryz.prog 10 #[.agg #[.bool b2, .slice A2 n2 c2, .slice B2 m2 d2], .int .i64 3] W (GotV W (.bool true))) {x2 : Rat} (h2 : Rt w b2 A2 n2 c2 B2 m2 d2 x2) (s2 : Sz x2 3) (z : Bool) (RI : (∀ W : World, Below w.heap.size w W → Calls Tryz.prog 12 #[.agg #[.bool b0, .slice A0 n0 c0, .slice B0 m0 d0, .bool p0, .slice V0 r0 k0, .slice U0 o0 q0]] W (GotV W (.bool z)))) (RR : (∀ W : World, Below w.heap.size w W → Calls Tryz.prog 13 #[.agg #[.bool b0, .slice A0 n0 c0, .slice B0 m0 d0, .bool p0, .slice V0 r0 k0, .slice U0 o0 q0]] W (GotV W (.bool z)))) (G0 : ∀ W : World, Below w.heap.size w W → Calls Tryz.prog 17 #[.agg #[.bool b0, .slice A0 n0 c0, .slice B0 m0 d0, .bool p0, .slice V0 r0 k0, .slice U0 o0 q0], .int .i64 3] W (GotV W (.bool true))) (G1 : ∀ W : World, Below w.heap.size w W → Calls Tryz.prog 17 #[.agg #[.bool b1, .slice A1 n1 c1, .slice B1 m1 d1, .bool p1, .slice V1 r1 k1, .slice U1 o1 q1], .int .i64 3] W (GotV W (.bool false))) :
    Calls Tryz.prog 3 #[.agg #[.bool b0, .slice A0 n0 c0, .slice B0 m0 d0, .bool p0, .slice V0 r0 k0, .slice U0 o0 q0], .agg #[.bool b1, .slice A1 n1 c1, .slice B1 m1 d1, .bool p1, .slice V1 r1 k1, .slice U1 o1 q1], .agg #[.bool b2, .slice A2 n2 c2, .slice B2 m2 d2]] w (fun e w' => e = .returned (.bool true) ∧ Below w.heap.size w w') := by
  have tb0 : decide ((3 : Int) < (n0 : Int)) = false := decide_eq_false (by omega)
  have tn0 : decide (3 < n0) = false := decide_eq_false (by omega)
  have tb1 : decide ((3 : Int) < (m0 : Int)) = false := decide_eq_false (by omega)
  have tn1 : decide (3 < m0) = false := decide_eq_false (by omega)
  have tb2 : decide ((3 : Int) < (r0 : Int)) = false := decide_eq_false (by omega)
  have tn2 : decide (3 < r0) = false := decide_eq_false (by omega)
  have tb3 : decide ((3 : Int) < (o0 : Int)) = false := decide_eq_false (by omega)
  have tn3 : decide (3 < o0) = false := decide_eq_false (by omega)
  clear v0_ v1_ v2_ v3_
  have cc := Below.refl w.heap.size w
  go_enter Tryz.func3, Tryz.ntmps3
  go_wp2_with fail
  generalize hv_ : ((w.alloc (.cells #[.bool b0, .slice A0 n0 c0, .slice B0 m0 d0, .bool p0, .slice V0 r0 k0, .slice U0 o0 q0] 29)).alloc (.cells #[.bool b1, .slice A1 n1 c1, .slice B1 m1 d1, .bool p1, .slice V1 r1 k1, .slice U1 o1 q1] 29)).alloc (.cells #[.bool b2, .slice A2 n2 c2, .slice B2 m2 d2] 27) = v1
  have bA : Below w.heap.size w v1 := by rw [← hv_]; exact ((((Below.refl _ w).alloc (by simp) _).alloc (by simp) _).alloc (by simp <;> omega) _)
  replace h2 := h2.on bA
  replace cc := bK cc bA
  clear bA
  obtain ⟨pa0, pa1, pa2, pa3, pa4, pa5⟩ : Cs6 v1 w.heap.size (.bool b0) (.slice A0 n0 c0) (.slice B0 m0 d0) (.bool p0) (.slice V0 r0 k0) (.slice U0 o0 q0) := by simp [Cs6, ← hv_, go_sem]
  have pal : w.heap.size < v1.heap.size := by simp [← hv_] <;> omega
  obtain ⟨pb0, pb1, pb2, pb3, pb4, pb5⟩ : Cs6 v1 (w.heap.size + 1) (.bool b1) (.slice A1 n1 c1) (.slice B1 m1 d1) (.bool p1) (.slice V1 r1 k1) (.slice U1 o1 q1) := by simp [Cs6, ← hv_, go_sem]
  have pbl : w.heap.size + 1 < v1.heap.size := by simp [← hv_] <;> omega
  obtain ⟨px0, px1, px2⟩ : Cs3 v1 (w.heap.size + 1 + 1) (.bool b2) (.slice A2 n2 c2) (.slice B2 m2 d2) := by simp [Cs3, ← hv_, go_sem]
  have pxl : w.heap.size + 1 + 1 < v1.heap.size := by simp [← hv_] <;> omega
  clear hv_
  refine (G2 _ cc).mono ?_
  rintro e w2 ⟨rfl, b⟩
  replace h2 := h2.on b
  rewrite [cR b pal] at pa0 pa1 pa2 pa3 pa4 pa5
  replace pal := lK b pal
  rewrite [cR b pbl] at pb0 pb1 pb2 pb3 pb4 pb5
  replace pbl := lK b pbl
  rewrite [cR b pxl] at px0 px1 px2
  replace pxl := lK b pxl
  replace cc := bK cc b
  clear b
  go_wp2_with fail
  have bD : Below w2.heap.size w2 w2.drew := below_drewN (Below.refl _ w2) 1
  replace h2 := h2.on bD
  rewrite [cR bD pal] at pa0 pa1 pa2 pa3 pa4 pa5
  replace pal := lK bD pal
  rewrite [cR bD pbl] at pb0 pb1 pb2 pb3 pb4 pb5
  replace pbl := lK bD pbl
  rewrite [cR bD pxl] at px0 px1 px2
  replace pxl := lK bD pxl
  replace cc := bK cc bD
  clear bD
  refine wp_region_held_drew (S := fun w' => w'.cell? ⟨w.heap.size, 0, none⟩ = some (.bool b0) ∧ w'.cell? ⟨w.heap.size, 1, none⟩ = some (.slice A0 n0 c0) ∧ w'.cell? ⟨w.heap.size, 2, none⟩ = some (.slice B0 m0 d0) ∧ w'.cell? ⟨w.heap.size, 3, none⟩ = some (.bool p0) ∧ w'.cell? ⟨w.heap.size, 4, none⟩ = some (.slice V0 r0 k0) ∧ w'.cell? ⟨w.heap.size, 5, none⟩ = some (.slice U0 o0 q0) ∧ w'.cell? ⟨w.heap.size + 1, 0, none⟩ = some (.bool b1) ∧ w'.cell? ⟨w.heap.size + 1, 1, none⟩ = some (.slice A1 n1 c1) ∧ w'.cell? ⟨w.heap.size + 1, 2, none⟩ = some (.slice B1 m1 d1) ∧ w'.cell? ⟨w.heap.size + 1, 3, none⟩ = some (.bool p1) ∧ w'.cell? ⟨w.heap.size + 1, 4, none⟩ = some (.slice V1 r1 k1) ∧ w'.cell? ⟨w.heap.size + 1, 5, none⟩ = some (.slice U1 o1 q1) ∧ w'.cell? ⟨w.heap.size + 1 + 1, 0, none⟩ = some (.bool b2) ∧ w'.cell? ⟨w.heap.size + 1 + 1, 1, none⟩ = some (.slice A2 n2 c2) ∧ w'.cell? ⟨w.heap.size + 1 + 1, 2, none⟩ = some (.slice B2 m2 d2)) (by kernel_rfl) ?_ (fun hHeld => ?_)
  · exact ⟨pa0, pa1, pa2, pa3, pa4, pa5, pb0, pb1, pb2, pb3, pb4, pb5, px0, px1, px2⟩
  refine wpAnyH_take (i := 0) (v := ?_) rfl (by kernel_rfl) (by kernel_rfl) (by kernel_rfl) (fun _ _ _ h => h) (Or.inl ⟨by rfl, ?_⟩) hHeld ?_
  rotate_left
  · (intro w hSw; (try dsimp only at hSw); go_simp; (try with_reducible rfl))
  try simp only [Act.put, pT]
  refine wpAnyH_take (i := 2) (v := ?_) rfl (by kernel_rfl) (by kernel_rfl) (by kernel_rfl) (fun _ _ _ h => h) (Or.inl ⟨by rfl, ?_⟩) hHeld ?_
  rotate_left
  · (intro w hSw; (try dsimp only at hSw); go_simp; (try with_reducible rfl))
  try simp only [Act.put, pT]
  refine wpAnyH_ready (rs := [1]) (by kernel_rfl) (by simp) ?_
  refine AllReadyH.cons rfl (fun K hK => ?_) AllReadyH.nil
  (try simp only [pT])
  rw [if_pos (by rfl)]
  go_simp
  go_at_call 12
  refine (RI _ cc).mono ?_
  rintro e w3 ⟨rfl, b⟩
  replace h2 := h2.on b
  rewrite [cR b pal] at pa0 pa1 pa2 pa3 pa4 pa5
  replace pal := lK b pal
  rewrite [cR b pbl] at pb0 pb1 pb2 pb3 pb4 pb5
  replace pbl := lK b pbl
  rewrite [cR b pxl] at px0 px1 px2
  replace pxl := lK b pxl
  replace cc := bK cc b
  clear b
  refine hK.out _ _ ?_ (fun hHeld => ?_)
  · exact ⟨pa0, pa1, pa2, pa3, pa4, pa5, pb0, pb1, pb2, pb3, pb4, pb5, px0, px1, px2⟩
  clear hK K
  try simp only [Act.put, pT]
  refine wpAnyH_ready (rs := [3]) (by kernel_rfl) (by simp) ?_
  refine AllReadyH.cons rfl (fun K hK => ?_) AllReadyH.nil
  (try simp only [pT])
  rw [if_pos (by rfl)]
  go_simp
  go_at_call 13
  refine (RR _ cc).mono ?_
  rintro e w4 ⟨rfl, b⟩
  replace h2 := h2.on b
  rewrite [cR b pal] at pa0 pa1 pa2 pa3 pa4 pa5
  replace pal := lK b pal
  rewrite [cR b pbl] at pb0 pb1 pb2 pb3 pb4 pb5
  replace pbl := lK b pbl
  rewrite [cR b pxl] at px0 px1 px2
  replace pxl := lK b pxl
  replace cc := bK cc b
  clear b
  refine hK.out _ _ ?_ (fun hHeld => ?_)
  · exact ⟨pa0, pa1, pa2, pa3, pa4, pa5, pb0, pb1, pb2, pb3, pb4, pb5, px0, px1, px2⟩
  clear hK K
  try simp only [Act.put, pT]
  refine wpAnyH_take (i := 4) (v := ?_) rfl (by kernel_rfl) (by kernel_rfl) (by kernel_rfl) (fun _ _ _ h => h) (Or.inl ⟨by rfl, ?_⟩) hHeld ?_
  rotate_left
  · (intro w hSw; (try dsimp only at hSw); go_simp; (try with_reducible rfl))
  try simp only [Act.put, pT]
  refine wpAnyH_take (i := 5) (v := ?_) rfl (by kernel_rfl) (by kernel_rfl) (by kernel_rfl) (fun _ _ _ h => h) (Or.inl ⟨by rfl, ?_⟩) hHeld ?_
  rotate_left
  · (intro w hSw; (try dsimp only at hSw); go_simp; (try with_reducible rfl))
  try simp only [Act.put, pT]
  refine wpAnyH_take (i := 6) (v := ?_) rfl (by kernel_rfl) (by kernel_rfl) (by kernel_rfl) (fun _ _ _ h => h) (Or.inl ⟨by rfl, ?_⟩) hHeld ?_
  rotate_left
  · (intro w hSw; (try dsimp only at hSw); go_simp; (try with_reducible rfl))
  try simp only [Act.put, pT]
  refine wpAnyH_take (i := 8) (v := ?_) rfl (by kernel_rfl) (by kernel_rfl) (by kernel_rfl) (fun _ _ _ h => h) (Or.inl ⟨by rfl, ?_⟩) hHeld ?_
  rotate_left
  · (intro w hSw; (try dsimp only at hSw); go_simp; (try with_reducible rfl))
  try simp only [Act.put, pT]
  refine wpAnyH_ready (rs := [7]) (by kernel_rfl) (by simp) ?_
  refine AllReadyH.cons rfl (fun K hK => ?_) AllReadyH.nil
  (try simp only [pT])
  rw [if_pos (by rfl)]
  go_simp
  go_at_call 15
  refine (iof_N h2 (s2.le (by omega))).mono ?_
  rintro e w5 ⟨be, Ae, ne, ce, Be, me, de, pe, Ve, re, ke, Ue, oe, qe, rfl, ⟨he, ge_⟩, b⟩
  replace h2 := h2.on b
  rewrite [cR b pal] at pa0 pa1 pa2 pa3 pa4 pa5
  replace pal := lK b pal
  rewrite [cR b pbl] at pb0 pb1 pb2 pb3 pb4 pb5
  replace pbl := lK b pbl
  rewrite [cR b pxl] at px0 px1 px2
  replace pxl := lK b pxl
  replace cc := bK cc b
  clear b
  refine hK.out _ _ ?_ (fun hHeld => ?_)
  · exact ⟨pa0, pa1, pa2, pa3, pa4, pa5, pb0, pb1, pb2, pb3, pb4, pb5, px0, px1, px2⟩
  clear hK K
  try simp only [Act.put, pT]
  refine wpAnyH_ready (rs := [9]) (by kernel_rfl) (by simp) ?_
  refine AllReadyH.cons rfl (fun K hK => ?_) AllReadyH.nil
  (try simp only [pT])
  rw [if_pos (by rfl)]
  go_simp
  go_at_call 16
  refine (stof_N h2).mono ?_
  rintro e w6 ⟨bf, Af, nf, cf, Bf, mf, df, pf, Vf, rf, kf, Uf, of, qf, rfl, ⟨hf, gf⟩, b⟩
  replace h2 := h2.on b
  replace he := he.on b
  replace ge_ := ge_.on b
  rewrite [cR b pal] at pa0 pa1 pa2 pa3 pa4 pa5
  replace pal := lK b pal
  rewrite [cR b pbl] at pb0 pb1 pb2 pb3 pb4 pb5
  replace pbl := lK b pbl
  rewrite [cR b pxl] at px0 px1 px2
  replace pxl := lK b pxl
  replace cc := bK cc b
  clear b
  refine hK.out _ _ ?_ (fun hHeld => ?_)
  · exact ⟨pa0, pa1, pa2, pa3, pa4, pa5, pb0, pb1, pb2, pb3, pb4, pb5, px0, px1, px2⟩
  clear hK K
  try simp only [Act.put, pT]
  refine wpAnyH_ready (rs := [10]) (by kernel_rfl) (by simp) ?_
  refine AllReadyH.cons rfl (fun K hK => ?_) AllReadyH.nil
  (try simp only [pT])
  rw [if_pos (by rfl)]
  go_simp
  go_at_call 14
  refine (stsame_N he ge_ (s2.le (by omega)) (s2.le (by omega)) hf gf (s2.le (by omega)) (s2.le (by omega)) true two_eq).mono ?_
  rintro e w7 ⟨rfl, b⟩
  replace h2 := h2.on b
  replace he := he.on b
  replace ge_ := ge_.on b
  replace hf := hf.on b
  replace gf := gf.on b
  rewrite [cR b pal] at pa0 pa1 pa2 pa3 pa4 pa5
  replace pal := lK b pal
  rewrite [cR b pbl] at pb0 pb1 pb2 pb3 pb4 pb5
  replace pbl := lK b pbl
  rewrite [cR b pxl] at px0 px1 px2
  replace pxl := lK b pxl
  replace cc := bK cc b
  clear b
  refine hK.out _ _ ?_ (fun hHeld => ?_)
  · exact ⟨pa0, pa1, pa2, pa3, pa4, pa5, pb0, pb1, pb2, pb3, pb4, pb5, px0, px1, px2⟩
  clear hK K
  try simp only [Act.put, pT]
  refine wpAnyH_take (i := 11) (v := ?_) rfl (by kernel_rfl) (by kernel_rfl) (by kernel_rfl) (fun _ _ _ h => h) (Or.inl ⟨by rfl, ?_⟩) hHeld ?_
  rotate_left
  · (intro w hSw; (try dsimp only at hSw); go_simp; (try with_reducible rfl))
  try simp only [Act.put, pT]
  refine wpAnyH_take (i := 12) (v := ?_) rfl (by kernel_rfl) (by kernel_rfl) (by kernel_rfl) (fun _ _ _ h => h) (Or.inl ⟨by rfl, ?_⟩) hHeld ?_
  rotate_left
  · (intro w hSw; (try dsimp only at hSw); go_simp; (try with_reducible rfl))
  try simp only [Act.put, pT]
  refine wpAnyH_done (by kernel_rfl) ?_ _
  clear hHeld
  clear he ge_ hf gf
  go_wp2_with fail
  refine (G0 _ cc).mono ?_
  rintro e w8 ⟨rfl, b⟩
  replace h2 := h2.on b
  rewrite [cR b pal] at pa0 pa1 pa2 pa3 pa4 pa5
  replace pal := lK b pal
  rewrite [cR b pbl] at pb0 pb1 pb2 pb3 pb4 pb5
  replace pbl := lK b pbl
  rewrite [cR b pxl] at px0 px1 px2
  replace pxl := lK b pxl
  replace cc := bK cc b
  clear b
  go_wp2_with fail
  refine (G1 _ cc).mono ?_
  rintro e w9 ⟨rfl, b⟩
  replace h2 := h2.on b
  rewrite [cR b pal] at pa0 pa1 pa2 pa3 pa4 pa5
  replace pal := lK b pal
  rewrite [cR b pbl] at pb0 pb1 pb2 pb3 pb4 pb5
  replace pbl := lK b pbl
  rewrite [cR b pxl] at px0 px1 px2
  replace pxl := lK b pxl
  replace cc := bK cc b
  clear b
  go_wp2_with fail
  refine (alive7_any _).mono ?_
  rintro e w10 ⟨rfl, b⟩
  replace h2 := h2.on b
  rewrite [cR b pal] at pa0 pa1 pa2 pa3 pa4 pa5
  replace pal := lK b pal
  rewrite [cR b pbl] at pb0 pb1 pb2 pb3 pb4 pb5
  replace pbl := lK b pbl
  rewrite [cR b pxl] at px0 px1 px2
  replace pxl := lK b pxl
  replace cc := bK cc b
  clear b
  go_wp2_with fail
  go_ret
  exact ⟨rfl, cc⟩

theorem IvalTells_ok {w : World} {b0 p0 : Bool} {A0 B0 V0 U0 : Option Addr} {n0 c0 m0 d0 r0 k0 o0 q0 : Nat} {b1 p1 : Bool} {A1 B1 V1 U1 : Option Addr} {n1 c1 m1 d1 r1 k1 o1 q1 : Nat} {b2 : Bool} {A2 B2 : Option Addr} {n2 c2 m2 d2 : Nat} (v0_ : n0 ≤ 3) (v1_ : m0 ≤ 3) (v2_ : r0 ≤ 3) (v3_ : o0 ≤ 3) (G2 : ∀ W : World, Below w.heap.size w W → Calls Tryz.prog 10 #[.agg #[.bool b2, .slice A2 n2 c2, .slice B2 m2 d2], .int .i64 3] W (GotV W (.bool true))) {x2 : Rat} (h2 : Rt w b2 A2 n2 c2 B2 m2 d2 x2) (s2 : Sz x2 3) (z : Bool) (RI : (∀ W : World, Below w.heap.size w W → Calls Tryz.prog 12 #[.agg #[.bool b0, .slice A0 n0 c0, .slice B0 m0 d0, .bool p0, .slice V0 r0 k0, .slice U0 o0 q0]] W (GotV W (.bool z)))) (RR : (∀ W : World, Below w.heap.size w W → Calls Tryz.prog 13 #[.agg #[.bool b0, .slice A0 n0 c0, .slice B0 m0 d0, .bool p0, .slice V0 r0 k0, .slice U0 o0 q0]] W (GotV W (.bool z)))) (G0 : ∀ W : World, Below w.heap.size w W → Calls Tryz.prog 17 #[.agg #[.bool b0, .slice A0 n0 c0, .slice B0 m0 d0, .bool p0, .slice V0 r0 k0, .slice U0 o0 q0], .int .i64 3] W (GotV W (.bool true))) (G1 : ∀ W : World, Below w.heap.size w W → Calls Tryz.prog 17 #[.agg #[.bool b1, .slice A1 n1 c1, .slice B1 m1 d1, .bool p1, .slice V1 r1 k1, .slice U1 o1 q1], .int .i64 3] W (GotV W (.bool true))) {x0 y0 : Rat} (h0 : Rt w b0 A0 n0 c0 B0 m0 d0 x0) (g0 : Rt w p0 V0 r0 k0 U0 o0 q0 y0) (s0 : Sz x0 3) (t0 : Sz y0 3) {x1 y1 : Rat} (h1 : Rt w b1 A1 n1 c1 B1 m1 d1 x1) (g1 : Rt w p1 V1 r1 k1 U1 o1 q1 y1) (s1 : Sz x1 3) (t1 : Sz y1 3) (zh zi : Bool) (hz : decide (x0 ≤ x2 ∧ x2 ≤ y0) = zh) (hi : decide ((x1 ≤ x0 ∧ x0 ≤ y1) ∧ (x1 ≤ y0 ∧ y0 ≤ y1)) = zi) :
    Calls Tryz.prog 3 #[.agg #[.bool b0, .slice A0 n0 c0, .slice B0 m0 d0, .bool p0, .slice V0 r0 k0, .slice U0 o0 q0], .agg #[.bool b1, .slice A1 n1 c1, .slice B1 m1 d1, .bool p1, .slice V1 r1 k1, .slice U1 o1 q1], .agg #[.bool b2, .slice A2 n2 c2, .slice B2 m2 d2]] w (fun e w' => e = .returned (.bool true) ∧ Below w.heap.size w w') := by
  have tb0 : decide ((3 : Int) < (n0 : Int)) = false := decide_eq_false (by omega)
  have tn0 : decide (3 < n0) = false := decide_eq_false (by omega)
  have tb1 : decide ((3 : Int) < (m0 : Int)) = false := decide_eq_false (by omega)
  have tn1 : decide (3 < m0) = false := decide_eq_false (by omega)
  have tb2 : decide ((3 : Int) < (r0 : Int)) = false := decide_eq_false (by omega)
  have tn2 : decide (3 < r0) = false := decide_eq_false (by omega)
  have tb3 : decide ((3 : Int) < (o0 : Int)) = false := decide_eq_false (by omega)
  have tn3 : decide (3 < o0) = false := decide_eq_false (by omega)
  clear v0_ v1_ v2_ v3_
  have HZ := Lib.hid hz
  have HI := Lib.hid hi
  clear hz hi
  have cc := Below.refl w.heap.size w
  go_enter Tryz.func3, Tryz.ntmps3
  go_wp2_with fail
  generalize hv_ : ((w.alloc (.cells #[.bool b0, .slice A0 n0 c0, .slice B0 m0 d0, .bool p0, .slice V0 r0 k0, .slice U0 o0 q0] 29)).alloc (.cells #[.bool b1, .slice A1 n1 c1, .slice B1 m1 d1, .bool p1, .slice V1 r1 k1, .slice U1 o1 q1] 29)).alloc (.cells #[.bool b2, .slice A2 n2 c2, .slice B2 m2 d2] 27) = v1
  have bA : Below w.heap.size w v1 := by rw [← hv_]; exact ((((Below.refl _ w).alloc (by simp) _).alloc (by simp) _).alloc (by simp <;> omega) _)
  replace h2 := h2.on bA
  replace h0 := h0.on bA
  replace g0 := g0.on bA
  replace h1 := h1.on bA
  replace g1 := g1.on bA
  replace cc := bK cc bA
  clear bA
  obtain ⟨pa0, pa1, pa2, pa3, pa4, pa5⟩ : Cs6 v1 w.heap.size (.bool b0) (.slice A0 n0 c0) (.slice B0 m0 d0) (.bool p0) (.slice V0 r0 k0) (.slice U0 o0 q0) := by simp [Cs6, ← hv_, go_sem]
  have pal : w.heap.size < v1.heap.size := by simp [← hv_] <;> omega
  obtain ⟨pb0, pb1, pb2, pb3, pb4, pb5⟩ : Cs6 v1 (w.heap.size + 1) (.bool b1) (.slice A1 n1 c1) (.slice B1 m1 d1) (.bool p1) (.slice V1 r1 k1) (.slice U1 o1 q1) := by simp [Cs6, ← hv_, go_sem]
  have pbl : w.heap.size + 1 < v1.heap.size := by simp [← hv_] <;> omega
  obtain ⟨px0, px1, px2⟩ : Cs3 v1 (w.heap.size + 1 + 1) (.bool b2) (.slice A2 n2 c2) (.slice B2 m2 d2) := by simp [Cs3, ← hv_, go_sem]
  have pxl : w.heap.size + 1 + 1 < v1.heap.size := by simp [← hv_] <;> omega
  clear hv_
  refine (G2 _ cc).mono ?_
  rintro e w2 ⟨rfl, b⟩
  replace h2 := h2.on b
  replace h0 := h0.on b
  replace g0 := g0.on b
  replace h1 := h1.on b
  replace g1 := g1.on b
  rewrite [cR b pal] at pa0 pa1 pa2 pa3 pa4 pa5
  replace pal := lK b pal
  rewrite [cR b pbl] at pb0 pb1 pb2 pb3 pb4 pb5
  replace pbl := lK b pbl
  rewrite [cR b pxl] at px0 px1 px2
  replace pxl := lK b pxl
  replace cc := bK cc b
  clear b
  go_wp2_with fail
  have bD : Below w2.heap.size w2 w2.drew := below_drewN (Below.refl _ w2) 1
  replace h2 := h2.on bD
  replace h0 := h0.on bD
  replace g0 := g0.on bD
  replace h1 := h1.on bD
  replace g1 := g1.on bD
  rewrite [cR bD pal] at pa0 pa1 pa2 pa3 pa4 pa5
  replace pal := lK bD pal
  rewrite [cR bD pbl] at pb0 pb1 pb2 pb3 pb4 pb5
  replace pbl := lK bD pbl
  rewrite [cR bD pxl] at px0 px1 px2
  replace pxl := lK bD pxl
  replace cc := bK cc bD
  clear bD
  refine wp_region_held_drew (S := fun w' => w'.cell? ⟨w.heap.size, 0, none⟩ = some (.bool b0) ∧ w'.cell? ⟨w.heap.size, 1, none⟩ = some (.slice A0 n0 c0) ∧ w'.cell? ⟨w.heap.size, 2, none⟩ = some (.slice B0 m0 d0) ∧ w'.cell? ⟨w.heap.size, 3, none⟩ = some (.bool p0) ∧ w'.cell? ⟨w.heap.size, 4, none⟩ = some (.slice V0 r0 k0) ∧ w'.cell? ⟨w.heap.size, 5, none⟩ = some (.slice U0 o0 q0) ∧ w'.cell? ⟨w.heap.size + 1, 0, none⟩ = some (.bool b1) ∧ w'.cell? ⟨w.heap.size + 1, 1, none⟩ = some (.slice A1 n1 c1) ∧ w'.cell? ⟨w.heap.size + 1, 2, none⟩ = some (.slice B1 m1 d1) ∧ w'.cell? ⟨w.heap.size + 1, 3, none⟩ = some (.bool p1) ∧ w'.cell? ⟨w.heap.size + 1, 4, none⟩ = some (.slice V1 r1 k1) ∧ w'.cell? ⟨w.heap.size + 1, 5, none⟩ = some (.slice U1 o1 q1) ∧ w'.cell? ⟨w.heap.size + 1 + 1, 0, none⟩ = some (.bool b2) ∧ w'.cell? ⟨w.heap.size + 1 + 1, 1, none⟩ = some (.slice A2 n2 c2) ∧ w'.cell? ⟨w.heap.size + 1 + 1, 2, none⟩ = some (.slice B2 m2 d2)) (by kernel_rfl) ?_ (fun hHeld => ?_)
  · exact ⟨pa0, pa1, pa2, pa3, pa4, pa5, pb0, pb1, pb2, pb3, pb4, pb5, px0, px1, px2⟩
  refine wpAnyH_take (i := 0) (v := ?_) rfl (by kernel_rfl) (by kernel_rfl) (by kernel_rfl) (fun _ _ _ h => h) (Or.inl ⟨by rfl, ?_⟩) hHeld ?_
  rotate_left
  · (intro w hSw; (try dsimp only at hSw); go_simp; (try with_reducible rfl))
  try simp only [Act.put, pT]
  refine wpAnyH_take (i := 2) (v := ?_) rfl (by kernel_rfl) (by kernel_rfl) (by kernel_rfl) (fun _ _ _ h => h) (Or.inl ⟨by rfl, ?_⟩) hHeld ?_
  rotate_left
  · (intro w hSw; (try dsimp only at hSw); go_simp; (try with_reducible rfl))
  try simp only [Act.put, pT]
  refine wpAnyH_ready (rs := [1]) (by kernel_rfl) (by simp) ?_
  refine AllReadyH.cons rfl (fun K hK => ?_) AllReadyH.nil
  (try simp only [pT])
  rw [if_pos (by rfl)]
  go_simp
  go_at_call 12
  refine (RI _ cc).mono ?_
  rintro e w3 ⟨rfl, b⟩
  replace h2 := h2.on b
  replace h0 := h0.on b
  replace g0 := g0.on b
  replace h1 := h1.on b
  replace g1 := g1.on b
  rewrite [cR b pal] at pa0 pa1 pa2 pa3 pa4 pa5
  replace pal := lK b pal
  rewrite [cR b pbl] at pb0 pb1 pb2 pb3 pb4 pb5
  replace pbl := lK b pbl
  rewrite [cR b pxl] at px0 px1 px2
  replace pxl := lK b pxl
  replace cc := bK cc b
  clear b
  refine hK.out _ _ ?_ (fun hHeld => ?_)
  · exact ⟨pa0, pa1, pa2, pa3, pa4, pa5, pb0, pb1, pb2, pb3, pb4, pb5, px0, px1, px2⟩
  clear hK K
  try simp only [Act.put, pT]
  refine wpAnyH_ready (rs := [3]) (by kernel_rfl) (by simp) ?_
  refine AllReadyH.cons rfl (fun K hK => ?_) AllReadyH.nil
  (try simp only [pT])
  rw [if_pos (by rfl)]
  go_simp
  go_at_call 13
  refine (RR _ cc).mono ?_
  rintro e w4 ⟨rfl, b⟩
  replace h2 := h2.on b
  replace h0 := h0.on b
  replace g0 := g0.on b
  replace h1 := h1.on b
  replace g1 := g1.on b
  rewrite [cR b pal] at pa0 pa1 pa2 pa3 pa4 pa5
  replace pal := lK b pal
  rewrite [cR b pbl] at pb0 pb1 pb2 pb3 pb4 pb5
  replace pbl := lK b pbl
  rewrite [cR b pxl] at px0 px1 px2
  replace pxl := lK b pxl
  replace cc := bK cc b
  clear b
  refine hK.out _ _ ?_ (fun hHeld => ?_)
  · exact ⟨pa0, pa1, pa2, pa3, pa4, pa5, pb0, pb1, pb2, pb3, pb4, pb5, px0, px1, px2⟩
  clear hK K
  try simp only [Act.put, pT]
  refine wpAnyH_take (i := 4) (v := ?_) rfl (by kernel_rfl) (by kernel_rfl) (by kernel_rfl) (fun _ _ _ h => h) (Or.inl ⟨by rfl, ?_⟩) hHeld ?_
  rotate_left
  · (intro w hSw; (try dsimp only at hSw); go_simp; (try with_reducible rfl))
  try simp only [Act.put, pT]
  refine wpAnyH_take (i := 5) (v := ?_) rfl (by kernel_rfl) (by kernel_rfl) (by kernel_rfl) (fun _ _ _ h => h) (Or.inl ⟨by rfl, ?_⟩) hHeld ?_
  rotate_left
  · (intro w hSw; (try dsimp only at hSw); go_simp; (try with_reducible rfl))
  try simp only [Act.put, pT]
  refine wpAnyH_take (i := 6) (v := ?_) rfl (by kernel_rfl) (by kernel_rfl) (by kernel_rfl) (fun _ _ _ h => h) (Or.inl ⟨by rfl, ?_⟩) hHeld ?_
  rotate_left
  · (intro w hSw; (try dsimp only at hSw); go_simp; (try with_reducible rfl))
  try simp only [Act.put, pT]
  refine wpAnyH_take (i := 8) (v := ?_) rfl (by kernel_rfl) (by kernel_rfl) (by kernel_rfl) (fun _ _ _ h => h) (Or.inl ⟨by rfl, ?_⟩) hHeld ?_
  rotate_left
  · (intro w hSw; (try dsimp only at hSw); go_simp; (try with_reducible rfl))
  try simp only [Act.put, pT]
  refine wpAnyH_ready (rs := [7]) (by kernel_rfl) (by simp) ?_
  refine AllReadyH.cons rfl (fun K hK => ?_) AllReadyH.nil
  (try simp only [pT])
  rw [if_pos (by rfl)]
  go_simp
  go_at_call 15
  refine (iof_N h2 (s2.le (by omega))).mono ?_
  rintro e w5 ⟨be, Ae, ne, ce, Be, me, de, pe, Ve, re, ke, Ue, oe, qe, rfl, ⟨he, ge_⟩, b⟩
  replace h2 := h2.on b
  replace h0 := h0.on b
  replace g0 := g0.on b
  replace h1 := h1.on b
  replace g1 := g1.on b
  rewrite [cR b pal] at pa0 pa1 pa2 pa3 pa4 pa5
  replace pal := lK b pal
  rewrite [cR b pbl] at pb0 pb1 pb2 pb3 pb4 pb5
  replace pbl := lK b pbl
  rewrite [cR b pxl] at px0 px1 px2
  replace pxl := lK b pxl
  replace cc := bK cc b
  clear b
  refine hK.out _ _ ?_ (fun hHeld => ?_)
  · exact ⟨pa0, pa1, pa2, pa3, pa4, pa5, pb0, pb1, pb2, pb3, pb4, pb5, px0, px1, px2⟩
  clear hK K
  try simp only [Act.put, pT]
  refine wpAnyH_ready (rs := [9]) (by kernel_rfl) (by simp) ?_
  refine AllReadyH.cons rfl (fun K hK => ?_) AllReadyH.nil
  (try simp only [pT])
  rw [if_pos (by rfl)]
  go_simp
  go_at_call 16
  refine (stof_N h2).mono ?_
  rintro e w6 ⟨bf, Af, nf, cf, Bf, mf, df, pf, Vf, rf, kf, Uf, of, qf, rfl, ⟨hf, gf⟩, b⟩
  replace h2 := h2.on b
  replace h0 := h0.on b
  replace g0 := g0.on b
  replace h1 := h1.on b
  replace g1 := g1.on b
  replace he := he.on b
  replace ge_ := ge_.on b
  rewrite [cR b pal] at pa0 pa1 pa2 pa3 pa4 pa5
  replace pal := lK b pal
  rewrite [cR b pbl] at pb0 pb1 pb2 pb3 pb4 pb5
  replace pbl := lK b pbl
  rewrite [cR b pxl] at px0 px1 px2
  replace pxl := lK b pxl
  replace cc := bK cc b
  clear b
  refine hK.out _ _ ?_ (fun hHeld => ?_)
  · exact ⟨pa0, pa1, pa2, pa3, pa4, pa5, pb0, pb1, pb2, pb3, pb4, pb5, px0, px1, px2⟩
  clear hK K
  try simp only [Act.put, pT]
  refine wpAnyH_ready (rs := [10]) (by kernel_rfl) (by simp) ?_
  refine AllReadyH.cons rfl (fun K hK => ?_) AllReadyH.nil
  (try simp only [pT])
  rw [if_pos (by rfl)]
  go_simp
  go_at_call 14
  refine (stsame_N he ge_ (s2.le (by omega)) (s2.le (by omega)) hf gf (s2.le (by omega)) (s2.le (by omega)) true two_eq).mono ?_
  rintro e w7 ⟨rfl, b⟩
  replace h2 := h2.on b
  replace h0 := h0.on b
  replace g0 := g0.on b
  replace h1 := h1.on b
  replace g1 := g1.on b
  replace he := he.on b
  replace ge_ := ge_.on b
  replace hf := hf.on b
  replace gf := gf.on b
  rewrite [cR b pal] at pa0 pa1 pa2 pa3 pa4 pa5
  replace pal := lK b pal
  rewrite [cR b pbl] at pb0 pb1 pb2 pb3 pb4 pb5
  replace pbl := lK b pbl
  rewrite [cR b pxl] at px0 px1 px2
  replace pxl := lK b pxl
  replace cc := bK cc b
  clear b
  refine hK.out _ _ ?_ (fun hHeld => ?_)
  · exact ⟨pa0, pa1, pa2, pa3, pa4, pa5, pb0, pb1, pb2, pb3, pb4, pb5, px0, px1, px2⟩
  clear hK K
  try simp only [Act.put, pT]
  refine wpAnyH_take (i := 11) (v := ?_) rfl (by kernel_rfl) (by kernel_rfl) (by kernel_rfl) (fun _ _ _ h => h) (Or.inl ⟨by rfl, ?_⟩) hHeld ?_
  rotate_left
  · (intro w hSw; (try dsimp only at hSw); go_simp; (try with_reducible rfl))
  try simp only [Act.put, pT]
  refine wpAnyH_take (i := 12) (v := ?_) rfl (by kernel_rfl) (by kernel_rfl) (by kernel_rfl) (fun _ _ _ h => h) (Or.inl ⟨by rfl, ?_⟩) hHeld ?_
  rotate_left
  · (intro w hSw; (try dsimp only at hSw); go_simp; (try with_reducible rfl))
  try simp only [Act.put, pT]
  refine wpAnyH_done (by kernel_rfl) ?_ _
  clear hHeld
  clear he ge_ hf gf
  go_wp2_with fail
  refine (G0 _ cc).mono ?_
  rintro e w8 ⟨rfl, b⟩
  replace h2 := h2.on b
  replace h0 := h0.on b
  replace g0 := g0.on b
  replace h1 := h1.on b
  replace g1 := g1.on b
  rewrite [cR b pal] at pa0 pa1 pa2 pa3 pa4 pa5
  replace pal := lK b pal
  rewrite [cR b pbl] at pb0 pb1 pb2 pb3 pb4 pb5
  replace pbl := lK b pbl
  rewrite [cR b pxl] at px0 px1 px2
  replace pxl := lK b pxl
  replace cc := bK cc b
  clear b
  go_wp2_with fail
  refine (G1 _ cc).mono ?_
  rintro e w9 ⟨rfl, b⟩
  replace h2 := h2.on b
  replace h0 := h0.on b
  replace g0 := g0.on b
  replace h1 := h1.on b
  replace g1 := g1.on b
  rewrite [cR b pal] at pa0 pa1 pa2 pa3 pa4 pa5
  replace pal := lK b pal
  rewrite [cR b pbl] at pb0 pb1 pb2 pb3 pb4 pb5
  replace pbl := lK b pbl
  rewrite [cR b pxl] at px0 px1 px2
  replace pxl := lK b pxl
  replace cc := bK cc b
  clear b
  go_wp2_with fail
  have bD : Below w9.heap.size w9 w9.drew := below_drewN (Below.refl _ w9) 1
  replace h2 := h2.on bD
  replace h0 := h0.on bD
  replace g0 := g0.on bD
  replace h1 := h1.on bD
  replace g1 := g1.on bD
  rewrite [cR bD pal] at pa0 pa1 pa2 pa3 pa4 pa5
  replace pal := lK bD pal
  rewrite [cR bD pbl] at pb0 pb1 pb2 pb3 pb4 pb5
  replace pbl := lK bD pbl
  rewrite [cR bD pxl] at px0 px1 px2
  replace pxl := lK bD pxl
  replace cc := bK cc bD
  clear bD
  refine wp_region_held_drew (S := fun w' => w'.cell? ⟨w.heap.size, 0, none⟩ = some (.bool b0) ∧ w'.cell? ⟨w.heap.size, 1, none⟩ = some (.slice A0 n0 c0) ∧ w'.cell? ⟨w.heap.size, 2, none⟩ = some (.slice B0 m0 d0) ∧ w'.cell? ⟨w.heap.size, 3, none⟩ = some (.bool p0) ∧ w'.cell? ⟨w.heap.size, 4, none⟩ = some (.slice V0 r0 k0) ∧ w'.cell? ⟨w.heap.size, 5, none⟩ = some (.slice U0 o0 q0) ∧ w'.cell? ⟨w.heap.size + 1, 0, none⟩ = some (.bool b1) ∧ w'.cell? ⟨w.heap.size + 1, 1, none⟩ = some (.slice A1 n1 c1) ∧ w'.cell? ⟨w.heap.size + 1, 2, none⟩ = some (.slice B1 m1 d1) ∧ w'.cell? ⟨w.heap.size + 1, 3, none⟩ = some (.bool p1) ∧ w'.cell? ⟨w.heap.size + 1, 4, none⟩ = some (.slice V1 r1 k1) ∧ w'.cell? ⟨w.heap.size + 1, 5, none⟩ = some (.slice U1 o1 q1) ∧ w'.cell? ⟨w.heap.size + 1 + 1, 0, none⟩ = some (.bool b2) ∧ w'.cell? ⟨w.heap.size + 1 + 1, 1, none⟩ = some (.slice A2 n2 c2) ∧ w'.cell? ⟨w.heap.size + 1 + 1, 2, none⟩ = some (.slice B2 m2 d2)) (by kernel_rfl) ?_ (fun hHeld => ?_)
  · exact ⟨pa0, pa1, pa2, pa3, pa4, pa5, pb0, pb1, pb2, pb3, pb4, pb5, px0, px1, px2⟩
  refine wpAnyH_ready (rs := [0]) (by kernel_rfl) (by simp) ?_
  refine AllReadyH.cons rfl (fun K hK => ?_) AllReadyH.nil
  (try simp only [pT])
  rw [if_pos (by rfl)]
  go_simp
  go_at_call 11
  refine (alive7_any _).mono ?_
  rintro e w10 ⟨rfl, b⟩
  replace h2 := h2.on b
  replace h0 := h0.on b
  replace g0 := g0.on b
  replace h1 := h1.on b
  replace g1 := g1.on b
  rewrite [cR b pal] at pa0 pa1 pa2 pa3 pa4 pa5
  replace pal := lK b pal
  rewrite [cR b pbl] at pb0 pb1 pb2 pb3 pb4 pb5
  replace pbl := lK b pbl
  rewrite [cR b pxl] at px0 px1 px2
  replace pxl := lK b pxl
  replace cc := bK cc b
  clear b
  refine hK.out _ _ ?_ (fun hHeld => ?_)
  · exact ⟨pa0, pa1, pa2, pa3, pa4, pa5, pb0, pb1, pb2, pb3, pb4, pb5, px0, px1, px2⟩
  clear hK K
  try simp only [Act.put, pT]
  refine wpAnyH_take (i := 1) (v := ?_) rfl (by kernel_rfl) (by kernel_rfl) (by kernel_rfl) (fun _ _ _ h => h) (Or.inl ⟨by rfl, ?_⟩) hHeld ?_
  rotate_left
  · (intro w hSw; (try dsimp only at hSw); go_simp; (try with_reducible rfl))
  try simp only [Act.put, pT]
  refine wpAnyH_take (i := 2) (v := ?_) rfl (by kernel_rfl) (by kernel_rfl) (by kernel_rfl) (fun _ _ _ h => h) (Or.inl ⟨by rfl, ?_⟩) hHeld ?_
  rotate_left
  · (intro w hSw; (try dsimp only at hSw); go_simp; (try with_reducible rfl))
  try simp only [Act.put, pT]
  refine wpAnyH_take (i := 3) (v := ?_) rfl (by kernel_rfl) (by kernel_rfl) (by kernel_rfl) (fun _ _ _ h => h) (Or.inl ⟨by rfl, ?_⟩) hHeld ?_
  rotate_left
  · (intro w hSw; (try dsimp only at hSw); go_simp; (try with_reducible rfl))
  try simp only [Act.put, pT]
  refine wpAnyH_take (i := 5) (v := ?_) rfl (by kernel_rfl) (by kernel_rfl) (by kernel_rfl) (fun _ _ _ h => h) (Or.inl ⟨by rfl, ?_⟩) hHeld ?_
  rotate_left
  · (intro w hSw; (try dsimp only at hSw); go_simp; (try with_reducible rfl))
  try simp only [Act.put, pT]
  refine wpAnyH_take (i := 6) (v := ?_) rfl (by kernel_rfl) (by kernel_rfl) (by kernel_rfl) (fun _ _ _ h => h) (Or.inl ⟨by rfl, ?_⟩) hHeld ?_
  rotate_left
  · (intro w hSw; (try dsimp only at hSw); go_simp; (try with_reducible rfl))
  try simp only [Act.put, pT]
  refine wpAnyH_ready (rs := [4]) (by kernel_rfl) (by simp) ?_
  refine AllReadyH.cons rfl (fun K hK => ?_) AllReadyH.nil
  (try simp only [pT])
  rw [if_pos (by rfl)]
  go_simp
  go_at_call 18
  refine (ihas_N h0 g0 (s0.le (by omega)) (t0.le (by omega)) h2 (s2.le (by omega)) _ HZ.out).mono ?_
  rintro e w11 ⟨rfl, b⟩
  replace h2 := h2.on b
  replace h0 := h0.on b
  replace g0 := g0.on b
  replace h1 := h1.on b
  replace g1 := g1.on b
  rewrite [cR b pal] at pa0 pa1 pa2 pa3 pa4 pa5
  replace pal := lK b pal
  rewrite [cR b pbl] at pb0 pb1 pb2 pb3 pb4 pb5
  replace pbl := lK b pbl
  rewrite [cR b pxl] at px0 px1 px2
  replace pxl := lK b pxl
  replace cc := bK cc b
  clear b
  refine hK.out _ _ ?_ (fun hHeld => ?_)
  · exact ⟨pa0, pa1, pa2, pa3, pa4, pa5, pb0, pb1, pb2, pb3, pb4, pb5, px0, px1, px2⟩
  clear hK K
  try simp only [Act.put, pT]
  refine wpAnyH_ready (rs := [7]) (by kernel_rfl) (by simp) ?_
  refine AllReadyH.cons rfl (fun K hK => ?_) AllReadyH.nil
  (try simp only [pT])
  rw [if_pos (by rfl)]
  go_simp
  go_at_call 19
  refine (sthas_N h0 g0 (s0.le (by omega)) (t0.le (by omega)) h2 (s2.le (by omega)) _ HZ.out).mono ?_
  rintro e w12 ⟨rfl, b⟩
  replace h2 := h2.on b
  replace h0 := h0.on b
  replace g0 := g0.on b
  replace h1 := h1.on b
  replace g1 := g1.on b
  rewrite [cR b pal] at pa0 pa1 pa2 pa3 pa4 pa5
  replace pal := lK b pal
  rewrite [cR b pbl] at pb0 pb1 pb2 pb3 pb4 pb5
  replace pbl := lK b pbl
  rewrite [cR b pxl] at px0 px1 px2
  replace pxl := lK b pxl
  replace cc := bK cc b
  clear b
  refine hK.out _ _ ?_ (fun hHeld => ?_)
  · exact ⟨pa0, pa1, pa2, pa3, pa4, pa5, pb0, pb1, pb2, pb3, pb4, pb5, px0, px1, px2⟩
  clear hK K
  try simp only [Act.put, pT]
  refine wpAnyH_take (i := 8) (v := ?_) rfl (by kernel_rfl) (by kernel_rfl) (by kernel_rfl) (fun _ _ _ h => h) (Or.inl ⟨by rfl, ?_⟩) hHeld ?_
  rotate_left
  · (intro w hSw; (try dsimp only at hSw); go_simp; (try with_reducible rfl))
  try simp only [Act.put, pT]
  refine wpAnyH_take (i := 9) (v := ?_) rfl (by kernel_rfl) (by kernel_rfl) (by kernel_rfl) (fun _ _ _ h => h) (Or.inl ⟨by rfl, ?_⟩) hHeld ?_
  rotate_left
  · (intro w hSw; (try dsimp only at hSw); go_simp; (try with_reducible rfl))
  try simp only [Act.put, pT]
  refine wpAnyH_take (i := 10) (v := ?_) rfl (by kernel_rfl) (by kernel_rfl) (by kernel_rfl) (fun _ _ _ h => h) (Or.inl ⟨by rfl, ?_⟩) hHeld ?_
  rotate_left
  · (intro w hSw; (try dsimp only at hSw); go_simp; (try with_reducible rfl))
  try simp only [Act.put, pT]
  refine wpAnyH_take (i := 11) (v := ?_) rfl (by kernel_rfl) (by kernel_rfl) (by kernel_rfl) (fun _ _ _ h => h) (Or.inl ⟨by rfl, ?_⟩) hHeld ?_
  rotate_left
  · (intro w hSw; (try dsimp only at hSw); go_simp; (try with_reducible rfl))
  try simp only [Act.put, pT]
  refine wpAnyH_take (i := 12) (v := ?_) rfl (by kernel_rfl) (by kernel_rfl) (by kernel_rfl) (fun _ _ _ h => h) (Or.inl ⟨by rfl, ?_⟩) hHeld ?_
  rotate_left
  · (intro w hSw; (try dsimp only at hSw); go_simp; (try with_reducible rfl))
  try simp only [Act.put, pT]
  refine wpAnyH_take (i := 14) (v := ?_) rfl (by kernel_rfl) (by kernel_rfl) (by kernel_rfl) (fun _ _ _ h => h) (Or.inl ⟨by rfl, ?_⟩) hHeld ?_
  rotate_left
  · (intro w hSw; (try dsimp only at hSw); go_simp; (try with_reducible rfl))
  try simp only [Act.put, pT]
  refine wpAnyH_take (i := 15) (v := ?_) rfl (by kernel_rfl) (by kernel_rfl) (by kernel_rfl) (fun _ _ _ h => h) (Or.inl ⟨by rfl, ?_⟩) hHeld ?_
  rotate_left
  · (intro w hSw; (try dsimp only at hSw); go_simp; (try with_reducible rfl))
  try simp only [Act.put, pT]
  refine wpAnyH_ready (rs := [13]) (by kernel_rfl) (by simp) ?_
  refine AllReadyH.cons rfl (fun K hK => ?_) AllReadyH.nil
  (try simp only [pT])
  rw [if_pos (by rfl)]
  go_simp
  go_at_call 20
  refine (iin_N h0 g0 (s0.le (by omega)) (t0.le (by omega)) h1 g1 (s1.le (by omega)) (t1.le (by omega)) _ HI.out).mono ?_
  rintro e w13 ⟨rfl, b⟩
  replace h2 := h2.on b
  replace h0 := h0.on b
  replace g0 := g0.on b
  replace h1 := h1.on b
  replace g1 := g1.on b
  rewrite [cR b pal] at pa0 pa1 pa2 pa3 pa4 pa5
  replace pal := lK b pal
  rewrite [cR b pbl] at pb0 pb1 pb2 pb3 pb4 pb5
  replace pbl := lK b pbl
  rewrite [cR b pxl] at px0 px1 px2
  replace pxl := lK b pxl
  replace cc := bK cc b
  clear b
  refine hK.out _ _ ?_ (fun hHeld => ?_)
  · exact ⟨pa0, pa1, pa2, pa3, pa4, pa5, pb0, pb1, pb2, pb3, pb4, pb5, px0, px1, px2⟩
  clear hK K
  try simp only [Act.put, pT]
  refine wpAnyH_ready (rs := [16]) (by kernel_rfl) (by simp) ?_
  refine AllReadyH.cons rfl (fun K hK => ?_) AllReadyH.nil
  (try simp only [pT])
  rw [if_pos (by rfl)]
  go_simp
  go_at_call 21
  refine (stin_N h0 g0 (s0.le (by omega)) (t0.le (by omega)) h1 g1 (s1.le (by omega)) (t1.le (by omega)) _ HI.out).mono ?_
  rintro e w14 ⟨rfl, b⟩
  replace h2 := h2.on b
  replace h0 := h0.on b
  replace g0 := g0.on b
  replace h1 := h1.on b
  replace g1 := g1.on b
  rewrite [cR b pal] at pa0 pa1 pa2 pa3 pa4 pa5
  replace pal := lK b pal
  rewrite [cR b pbl] at pb0 pb1 pb2 pb3 pb4 pb5
  replace pbl := lK b pbl
  rewrite [cR b pxl] at px0 px1 px2
  replace pxl := lK b pxl
  replace cc := bK cc b
  clear b
  refine hK.out _ _ ?_ (fun hHeld => ?_)
  · exact ⟨pa0, pa1, pa2, pa3, pa4, pa5, pb0, pb1, pb2, pb3, pb4, pb5, px0, px1, px2⟩
  clear hK K
  try simp only [Act.put, pT]
  refine wpAnyH_take (i := 17) (v := ?_) rfl (by kernel_rfl) (by kernel_rfl) (by kernel_rfl) (fun _ _ _ h => h) (Or.inl ⟨by rfl, ?_⟩) hHeld ?_
  rotate_left
  · (intro w hSw; (try dsimp only at hSw); go_simp; (try with_reducible rfl))
  try simp only [Act.put, pT]
  refine wpAnyH_take (i := 18) (v := ?_) rfl (by kernel_rfl) (by kernel_rfl) (by kernel_rfl) (fun _ _ _ h => h) (Or.inl ⟨by rfl, ?_⟩) hHeld ?_
  rotate_left
  · (intro w hSw; (try dsimp only at hSw); go_simp; (try with_reducible rfl))
  try simp only [Act.put, pT]
  refine wpAnyH_take (i := 19) (v := ?_) rfl (by kernel_rfl) (by kernel_rfl) (by kernel_rfl) (fun _ _ _ h => h) (Or.inl ⟨by rfl, ?_⟩) hHeld ?_
  rotate_left
  · (intro w hSw; (try dsimp only at hSw); go_simp; (try with_reducible rfl))
  try simp only [Act.put, pT]
  refine wpAnyH_done (by kernel_rfl) ?_ _
  clear hHeld
  go_wp2_with fail
  go_ret
  exact ⟨rfl, cc⟩

theorem IvalTells_walk {w : World} (b0 : Bool) {A0 : Option Addr} {n0 c0 : Nat} {la0 : List Nat} {B0 : Option Addr} {m0 d0 : Nat} {lb0 : List Nat} (p0 : Bool) {V0 : Option Addr} {r0 k0 : Nat} {lc0 : List Nat} {U0 : Option Addr} {o0 q0 : Nat} {ld0 : List Nat} (ha0 : Lim w.heap.size w A0 n0 c0 la0) (hb0 : Lim w.heap.size w B0 m0 d0 lb0) (hc0 : Lim w.heap.size w V0 r0 k0 lc0) (hd0 : Lim w.heap.size w U0 o0 q0 ld0) (b1 : Bool) {A1 : Option Addr} {n1 c1 : Nat} {la1 : List Nat} {B1 : Option Addr} {m1 d1 : Nat} {lb1 : List Nat} (p1 : Bool) {V1 : Option Addr} {r1 k1 : Nat} {lc1 : List Nat} {U1 : Option Addr} {o1 q1 : Nat} {ld1 : List Nat} (ha1 : Lim w.heap.size w A1 n1 c1 la1) (hb1 : Lim w.heap.size w B1 m1 d1 lb1) (hc1 : Lim w.heap.size w V1 r1 k1 lc1) (hd1 : Lim w.heap.size w U1 o1 q1 ld1) (b2 : Bool) {A2 : Option Addr} {n2 c2 : Nat} {l2 : List Nat} {B2 : Option Addr} {m2 d2 : Nat} {k2 : List Nat} (hl2 : Lim w.heap.size w A2 n2 c2 l2) (hs2 : n2 ≤ 9223372036854775807) (hk2 : Lim w.heap.size w B2 m2 d2 k2) (ht2 : m2 ≤ 9223372036854775807) :
    Calls Tryz.prog 3 #[.agg #[.bool b0, .slice A0 n0 c0, .slice B0 m0 d0, .bool p0, .slice V0 r0 k0, .slice U0 o0 q0], .agg #[.bool b1, .slice A1 n1 c1, .slice B1 m1 d1, .bool p1, .slice V1 r1 k1, .slice U1 o1 q1], .agg #[.bool b2, .slice A2 n2 c2, .slice B2 m2 d2]] w (fun e w' => e = .returned (.bool true) ∧ Below w.heap.size w w') := by
  rcases Nat.lt_or_ge 3 n0 with v0_ | v0_
  · exact IvalTells_big0 v0_
  rcases Nat.lt_or_ge 3 m0 with v1_ | v1_
  · exact IvalTells_big1 v0_ v1_
  rcases Nat.lt_or_ge 3 r0 with v2_ | v2_
  · exact IvalTells_big2 v0_ v1_ v2_
  rcases Nat.lt_or_ge 3 o0 with v3_ | v3_
  · exact IvalTells_big3 v0_ v1_ v2_ v3_
  have GR : ∀ r : Bool, (decide ((n2 : Int) ≤ ((3 : Nat) : Int)) && (decide ((m2 : Int) ≤ ((3 : Nat) : Int)) && okR b2 n2 l2 m2 k2)) = r → ∀ W : World, Below w.heap.size w W → Calls Tryz.prog 10 #[.agg #[.bool b2, .slice A2 n2 c2, .slice B2 m2 d2], .int .i64 3] W (GotV W (.bool r)) := fun r hr W hW => rtfew_any (hl2.on hW) (hk2.on hW) 3 (by omega) r hr
  cases e2 : (decide ((n2 : Int) ≤ ((3 : Nat) : Int)) && (decide ((m2 : Int) ≤ ((3 : Nat) : Int)) && okR b2 n2 l2 m2 k2)) with
  | false => exact IvalTells_fx v0_ v1_ v2_ v3_ (GR false e2)
  | true =>
    obtain ⟨x2, h2, s2⟩ := few_rt 3 hl2 hk2 e2
    obtain ⟨z, RI, RR⟩ := rights_any ha0 hb0 hc0 hd0 v0_ v1_ v2_ v3_
    obtain ⟨z0, G0, K0⟩ := stfew_any ha0 hb0 hc0 hd0 3 (by omega)
    obtain ⟨z1, G1, K1⟩ := stfew_any ha1 hb1 hc1 hd1 3 (by omega)
    cases z0 with
    | false => exact IvalTells_fa v0_ v1_ v2_ v3_ (GR true e2) h2 s2 z RI RR G0
    | true =>
      cases z1 with
      | false => exact IvalTells_fb v0_ v1_ v2_ v3_ (GR true e2) h2 s2 z RI RR G0 G1
      | true =>
        obtain ⟨x0, y0, h0, g0, s0, t0, _⟩ := K0 rfl
        obtain ⟨x1, y1, h1, g1, s1, t1, _⟩ := K1 rfl
        exact IvalTells_ok v0_ v1_ v2_ v3_ (GR true e2) h2 s2 z RI RR G0 G1 h0 g0 s0 t0 h1 g1 s1 t1 _ _ rfl rfl

end Go.Proofs.YtanpklbconflmaaGreat
