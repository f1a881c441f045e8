/-
  The ways of IvalIn.
-/
import Derived.Test.YtanpklbconflmaaGreatFO
import Derived.Test.YtanpklbconflmaaGreatA3
namespace Go.Proofs.YtanpklbconflmaaGreat
set_option maxRecDepth 100000
set_option maxHeartbeats 8000000
open Go.RowKit
set_option linter.unusedVariables false
set_option linter.unusedSimpArgs false

/-- The lesser, the greater of two, behind a name. -/
def mn8 (a b : Int) : Int := min a b
def mx8 (a b : Int) : Int := max a b
theorem mx8_run {P : Program} (w : World) (ts : Array TypeId) (t : TypeId) (x y : Int) : (Builtin.max_ ts t #[.int .u8 x, .int .u8 y]).run P w = .ok (.int .u8 (mx8 x y)) w := by
  rw [run_max_int2]
  congr 2
  unfold mx8
  split <;> omega
theorem mn8_run {P : Program} (w : World) (ts : Array TypeId) (t : TypeId) (x y : Int) : (Builtin.min_ ts t #[.int .u8 x, .int .u8 y]).run P w = .ok (.int .u8 (mn8 x y)) w := by
  rw [run_min_int2]
  congr 2
  unfold mn8
  split <;> omega
theorem mn8_ends {a b : Int} (h0 : 0 ≤ a) (h1 : a ≤ 255) (h2 : 0 ≤ b) (h3 : b ≤ 255) : 0 ≤ mn8 a b ∧ mn8 a b ≤ 255 ∧ 0 ≤ mx8 a b ∧ mx8 a b ≤ 255 ∧ mn8 a b ≤ mx8 a b := by unfold mn8 mx8; omega
attribute [local go_sem ↓] mx8_run mn8_run

theorem IvalIn_no0 {w : World} {b0 p0 : Bool} {A0 B0 V0 U0 : Option Addr} {n0 c0 m0 d0 r0 k0 o0 q0 : Nat} {b1 p1 : Bool} {A1 B1 V1 U1 : Option Addr} {n1 c1 m1 d1 r1 k1 o1 q1 : Nat} {f0 f1 f2 f3 : Int} (G0 : ∀ W : World, Below w.heap.size w W → Calls Tryz.prog 17 #[.agg #[.bool b0, .slice A0 n0 c0, .slice B0 m0 d0, .bool p0, .slice V0 r0 k0, .slice U0 o0 q0], .int .i64 2] W (GotV W (.bool false))) :
    Calls Tryz.prog 7 #[.agg #[.bool b0, .slice A0 n0 c0, .slice B0 m0 d0, .bool p0, .slice V0 r0 k0, .slice U0 o0 q0], .agg #[.bool b1, .slice A1 n1 c1, .slice B1 m1 d1, .bool p1, .slice V1 r1 k1, .slice U1 o1 q1], .agg #[.int .u8 f0, .int .u8 f1, .int .u8 f2, .int .u8 f3]] w (fun e w' => e = .returned (.bool true) ∧ Below w.heap.size w w') := by
  have cc := Below.refl w.heap.size w
  go_enter Tryz.func7, Tryz.ntmps7
  go_wp2_with fail
  generalize hv_ : ((w.alloc (.cells #[.bool b0, .slice A0 n0 c0, .slice B0 m0 d0, .bool p0, .slice V0 r0 k0, .slice U0 o0 q0] 29)).alloc (.cells #[.bool b1, .slice A1 n1 c1, .slice B1 m1 d1, .bool p1, .slice V1 r1 k1, .slice U1 o1 q1] 29)).alloc (.cells #[.int .u8 f0, .int .u8 f1, .int .u8 f2, .int .u8 f3] 50) = v1
  have bA : Below w.heap.size w v1 := by rw [← hv_]; exact ((((Below.refl _ w).alloc (by simp) _).alloc (by simp) _).alloc (by simp <;> omega) _)
  replace cc := bK cc bA
  clear bA
  obtain ⟨pa0, pa1, pa2, pa3, pa4, pa5⟩ : Cs6 v1 w.heap.size (.bool b0) (.slice A0 n0 c0) (.slice B0 m0 d0) (.bool p0) (.slice V0 r0 k0) (.slice U0 o0 q0) := by simp [Cs6, ← hv_, go_sem]
  have pal : w.heap.size < v1.heap.size := by simp [← hv_] <;> omega
  obtain ⟨pb0, pb1, pb2, pb3, pb4, pb5⟩ : Cs6 v1 (w.heap.size + 1) (.bool b1) (.slice A1 n1 c1) (.slice B1 m1 d1) (.bool p1) (.slice V1 r1 k1) (.slice U1 o1 q1) := by simp [Cs6, ← hv_, go_sem]
  have pbl : w.heap.size + 1 < v1.heap.size := by simp [← hv_] <;> omega
  have pf0 : v1.cell? ⟨w.heap.size + 1 + 1, 0, none⟩ = some (.int .u8 f0) := by simp [← hv_, go_sem]
  have pf1 : v1.cell? ⟨w.heap.size + 1 + 1, 1, none⟩ = some (.int .u8 f1) := by simp [← hv_, go_sem]
  have pf2 : v1.cell? ⟨w.heap.size + 1 + 1, 2, none⟩ = some (.int .u8 f2) := by simp [← hv_, go_sem]
  have pf3 : v1.cell? ⟨w.heap.size + 1 + 1, 3, none⟩ = some (.int .u8 f3) := by simp [← hv_, go_sem]
  have pfl : w.heap.size + 1 + 1 < v1.heap.size := by simp [← hv_] <;> omega
  clear hv_
  refine (G0 _ cc).mono ?_
  rintro e w2 ⟨rfl, b⟩
  rewrite [cR b pal] at pa0 pa1 pa2 pa3 pa4 pa5
  replace pal := lK b pal
  rewrite [cR b pbl] at pb0 pb1 pb2 pb3 pb4 pb5
  replace pbl := lK b pbl
  rewrite [cR b pfl] at pf0 pf1 pf2 pf3
  replace pfl := lK b pfl
  replace cc := bK cc b
  clear b
  go_wp2_with fail
  refine (alive7_any _).mono ?_
  rintro e w3 ⟨rfl, b⟩
  rewrite [cR b pal] at pa0 pa1 pa2 pa3 pa4 pa5
  replace pal := lK b pal
  rewrite [cR b pbl] at pb0 pb1 pb2 pb3 pb4 pb5
  replace pbl := lK b pbl
  rewrite [cR b pfl] at pf0 pf1 pf2 pf3
  replace pfl := lK b pfl
  replace cc := bK cc b
  clear b
  go_wp2_with fail
  go_ret
  exact ⟨rfl, cc⟩

theorem IvalIn_no1 {w : World} {b0 p0 : Bool} {A0 B0 V0 U0 : Option Addr} {n0 c0 m0 d0 r0 k0 o0 q0 : Nat} {b1 p1 : Bool} {A1 B1 V1 U1 : Option Addr} {n1 c1 m1 d1 r1 k1 o1 q1 : Nat} {f0 f1 f2 f3 : Int} (G0 : ∀ W : World, Below w.heap.size w W → Calls Tryz.prog 17 #[.agg #[.bool b0, .slice A0 n0 c0, .slice B0 m0 d0, .bool p0, .slice V0 r0 k0, .slice U0 o0 q0], .int .i64 2] W (GotV W (.bool true))) (G1 : ∀ W : World, Below w.heap.size w W → Calls Tryz.prog 17 #[.agg #[.bool b1, .slice A1 n1 c1, .slice B1 m1 d1, .bool p1, .slice V1 r1 k1, .slice U1 o1 q1], .int .i64 2] W (GotV W (.bool false))) :
    Calls Tryz.prog 7 #[.agg #[.bool b0, .slice A0 n0 c0, .slice B0 m0 d0, .bool p0, .slice V0 r0 k0, .slice U0 o0 q0], .agg #[.bool b1, .slice A1 n1 c1, .slice B1 m1 d1, .bool p1, .slice V1 r1 k1, .slice U1 o1 q1], .agg #[.int .u8 f0, .int .u8 f1, .int .u8 f2, .int .u8 f3]] w (fun e w' => e = .returned (.bool true) ∧ Below w.heap.size w w') := by
  have cc := Below.refl w.heap.size w
  go_enter Tryz.func7, Tryz.ntmps7
  go_wp2_with fail
  generalize hv_ : ((w.alloc (.cells #[.bool b0, .slice A0 n0 c0, .slice B0 m0 d0, .bool p0, .slice V0 r0 k0, .slice U0 o0 q0] 29)).alloc (.cells #[.bool b1, .slice A1 n1 c1, .slice B1 m1 d1, .bool p1, .slice V1 r1 k1, .slice U1 o1 q1] 29)).alloc (.cells #[.int .u8 f0, .int .u8 f1, .int .u8 f2, .int .u8 f3] 50) = v1
  have bA : Below w.heap.size w v1 := by rw [← hv_]; exact ((((Below.refl _ w).alloc (by simp) _).alloc (by simp) _).alloc (by simp <;> omega) _)
  replace cc := bK cc bA
  clear bA
  obtain ⟨pa0, pa1, pa2, pa3, pa4, pa5⟩ : Cs6 v1 w.heap.size (.bool b0) (.slice A0 n0 c0) (.slice B0 m0 d0) (.bool p0) (.slice V0 r0 k0) (.slice U0 o0 q0) := by simp [Cs6, ← hv_, go_sem]
  have pal : w.heap.size < v1.heap.size := by simp [← hv_] <;> omega
  obtain ⟨pb0, pb1, pb2, pb3, pb4, pb5⟩ : Cs6 v1 (w.heap.size + 1) (.bool b1) (.slice A1 n1 c1) (.slice B1 m1 d1) (.bool p1) (.slice V1 r1 k1) (.slice U1 o1 q1) := by simp [Cs6, ← hv_, go_sem]
  have pbl : w.heap.size + 1 < v1.heap.size := by simp [← hv_] <;> omega
  have pf0 : v1.cell? ⟨w.heap.size + 1 + 1, 0, none⟩ = some (.int .u8 f0) := by simp [← hv_, go_sem]
  have pf1 : v1.cell? ⟨w.heap.size + 1 + 1, 1, none⟩ = some (.int .u8 f1) := by simp [← hv_, go_sem]
  have pf2 : v1.cell? ⟨w.heap.size + 1 + 1, 2, none⟩ = some (.int .u8 f2) := by simp [← hv_, go_sem]
  have pf3 : v1.cell? ⟨w.heap.size + 1 + 1, 3, none⟩ = some (.int .u8 f3) := by simp [← hv_, go_sem]
  have pfl : w.heap.size + 1 + 1 < v1.heap.size := by simp [← hv_] <;> omega
  clear hv_
  refine (G0 _ cc).mono ?_
  rintro e w2 ⟨rfl, b⟩
  rewrite [cR b pal] at pa0 pa1 pa2 pa3 pa4 pa5
  replace pal := lK b pal
  rewrite [cR b pbl] at pb0 pb1 pb2 pb3 pb4 pb5
  replace pbl := lK b pbl
  rewrite [cR b pfl] at pf0 pf1 pf2 pf3
  replace pfl := lK b pfl
  replace cc := bK cc b
  clear b
  go_wp2_with fail
  refine (G1 _ cc).mono ?_
  rintro e w3 ⟨rfl, b⟩
  rewrite [cR b pal] at pa0 pa1 pa2 pa3 pa4 pa5
  replace pal := lK b pal
  rewrite [cR b pbl] at pb0 pb1 pb2 pb3 pb4 pb5
  replace pbl := lK b pbl
  rewrite [cR b pfl] at pf0 pf1 pf2 pf3
  replace pfl := lK b pfl
  replace cc := bK cc b
  clear b
  go_wp2_with fail
  refine (alive7_any _).mono ?_
  rintro e w4 ⟨rfl, b⟩
  rewrite [cR b pal] at pa0 pa1 pa2 pa3 pa4 pa5
  replace pal := lK b pal
  rewrite [cR b pbl] at pb0 pb1 pb2 pb3 pb4 pb5
  replace pbl := lK b pbl
  rewrite [cR b pfl] at pf0 pf1 pf2 pf3
  replace pfl := lK b pfl
  replace cc := bK cc b
  clear b
  go_wp2_with fail
  go_ret
  exact ⟨rfl, cc⟩

theorem IvalIn_ok {w : World} {b0 p0 : Bool} {A0 B0 V0 U0 : Option Addr} {n0 c0 m0 d0 r0 k0 o0 q0 : Nat} {b1 p1 : Bool} {A1 B1 V1 U1 : Option Addr} {n1 c1 m1 d1 r1 k1 o1 q1 : Nat} {f0 f1 f2 f3 : Int} {x0 y0 : Rat} (h0 : Rt w b0 A0 n0 c0 B0 m0 d0 x0) (g0 : Rt w p0 V0 r0 k0 U0 o0 q0 y0) (s0 : Sz x0 2) (t0 : Sz y0 2) {x1 y1 : Rat} (h1 : Rt w b1 A1 n1 c1 B1 m1 d1 x1) (g1 : Rt w p1 V1 r1 k1 U1 o1 q1 y1) (s1 : Sz x1 2) (t1 : Sz y1 2) (G0 : ∀ W : World, Below w.heap.size w W → Calls Tryz.prog 17 #[.agg #[.bool b0, .slice A0 n0 c0, .slice B0 m0 d0, .bool p0, .slice V0 r0 k0, .slice U0 o0 q0], .int .i64 2] W (GotV W (.bool true))) (G1 : ∀ W : World, Below w.heap.size w W → Calls Tryz.prog 17 #[.agg #[.bool b1, .slice A1 n1 c1, .slice B1 m1 d1, .bool p1, .slice V1 r1 k1, .slice U1 o1 q1], .int .i64 2] W (GotV W (.bool true))) (u0 : 0 ≤ f0) (u1 : f0 ≤ 255) (u2 : 0 ≤ f1) (u3 : f1 ≤ 255) (u4 : 0 ≤ f2) (u5 : f2 ≤ 255) (u6 : 0 ≤ f3) (u7 : f3 ≤ 255) (e0 : x0 ≤ y0) (e1 : x1 ≤ y1) :
    Calls Tryz.prog 7 #[.agg #[.bool b0, .slice A0 n0 c0, .slice B0 m0 d0, .bool p0, .slice V0 r0 k0, .slice U0 o0 q0], .agg #[.bool b1, .slice A1 n1 c1, .slice B1 m1 d1, .bool p1, .slice V1 r1 k1, .slice U1 o1 q1], .agg #[.int .u8 f0, .int .u8 f1, .int .u8 f2, .int .u8 f3]] w (fun e w' => e = .returned (.bool true) ∧ Below w.heap.size w w') := by
  have ew : IntKind.i64.wrap f0 = f0 := IntWalk.i64_in _ (by omega)
  obtain ⟨l0, l1, l2, l3, l4⟩ := mn8_ends u0 u1 u2 u3
  obtain ⟨k0_, k1_, k2_, k3_, k4_⟩ := mn8_ends u4 u5 u6 u7
  have a1_ := far_ends e0 l0 l1
  have a2_ := far_ends e0 l2 l3
  have a3_ := between_mono e0 (share_mono l4)
  have zal := far_sz s0 t0 l0 l1
  have zah := far_sz s0 t0 l2 l3
  obtain ⟨xl, q_xl⟩ : ∃ r, x0 + (y0 - x0) * mkRat (mn8 f0 f1) 255 = r := ⟨_, rfl⟩
  rw [q_xl] at a1_ a3_ zal
  obtain ⟨xh, q_xh⟩ : ∃ r, x0 + (y0 - x0) * mkRat (mx8 f0 f1) 255 = r := ⟨_, rfl⟩
  rw [q_xh] at a2_ a3_ zah
  have c1_ := far_ends e1 k0_ k1_
  have c2_ := far_ends e1 k2_ k3_
  have c3_ := between_mono e1 (share_mono k4_)
  have zcl := far_sz s1 t1 k0_ k1_
  have zch := far_sz s1 t1 k2_ k3_
  obtain ⟨yl, q_yl⟩ : ∃ r, x1 + (y1 - x1) * mkRat (mn8 f2 f3) 255 = r := ⟨_, rfl⟩
  rw [q_yl] at c1_ c3_ zcl
  obtain ⟨yh, q_yh⟩ : ∃ r, x1 + (y1 - x1) * mkRat (mx8 f2 f3) 255 = r := ⟨_, rfl⟩
  rw [q_yh] at c2_ c3_ zch
  have OXl : ∀ {W : World} {b0 p0 : Bool} {A0 B0 V0 U0 : Option Addr} {n0 c0 m0 d0 r0 k0 o0 q0 : Nat}, Rt W b0 A0 n0 c0 B0 m0 d0 x0 → Rt W p0 V0 r0 k0 U0 o0 q0 y0 → Calls Tryz.prog 32 #[.agg #[.bool b0, .slice A0 n0 c0, .slice B0 m0 d0, .bool p0, .slice V0 r0 k0, .slice U0 o0 q0], .int .u8 (mn8 f0 f1)] W (GotRt W xl) := fun a b => by rw [← q_xl]; exact of7_N a b s0 t0 l0 l1
  have OXh : ∀ {W : World} {b0 p0 : Bool} {A0 B0 V0 U0 : Option Addr} {n0 c0 m0 d0 r0 k0 o0 q0 : Nat}, Rt W b0 A0 n0 c0 B0 m0 d0 x0 → Rt W p0 V0 r0 k0 U0 o0 q0 y0 → Calls Tryz.prog 32 #[.agg #[.bool b0, .slice A0 n0 c0, .slice B0 m0 d0, .bool p0, .slice V0 r0 k0, .slice U0 o0 q0], .int .u8 (mx8 f0 f1)] W (GotRt W xh) := fun a b => by rw [← q_xh]; exact of7_N a b s0 t0 l2 l3
  have OYl : ∀ {W : World} {b1 p1 : Bool} {A1 B1 V1 U1 : Option Addr} {n1 c1 m1 d1 r1 k1 o1 q1 : Nat}, Rt W b1 A1 n1 c1 B1 m1 d1 x1 → Rt W p1 V1 r1 k1 U1 o1 q1 y1 → Calls Tryz.prog 32 #[.agg #[.bool b1, .slice A1 n1 c1, .slice B1 m1 d1, .bool p1, .slice V1 r1 k1, .slice U1 o1 q1], .int .u8 (mn8 f2 f3)] W (GotRt W yl) := fun a b => by rw [← q_yl]; exact of7_N a b s1 t1 k0_ k1_
  have OYh : ∀ {W : World} {b1 p1 : Bool} {A1 B1 V1 U1 : Option Addr} {n1 c1 m1 d1 r1 k1 o1 q1 : Nat}, Rt W b1 A1 n1 c1 B1 m1 d1 x1 → Rt W p1 V1 r1 k1 U1 o1 q1 y1 → Calls Tryz.prog 32 #[.agg #[.bool b1, .slice A1 n1 c1, .slice B1 m1 d1, .bool p1, .slice V1 r1 k1, .slice U1 o1 q1], .int .u8 (mx8 f2 f3)] W (GotRt W yh) := fun a b => by rw [← q_yh]; exact of7_N a b s1 t1 k2_ k3_
  clear q_xl q_xh q_yl q_yh
  have sa_ := s0.add s1
  have sb_ := t0.add t1
  have sc_ := zal.add zcl
  have sd_ := zah.add zch
  obtain ⟨sm_, sn_⟩ := mlo_sz s0 t0 s1 t1
  obtain ⟨so_, sp_⟩ := mlo_sz zal zah zcl zch
  have HA : Hid (decide ((x0 + x1 ≤ xl + yl ∧ xl + yl ≤ y0 + y1) ∧ (x0 + x1 ≤ xh + yh ∧ xh + yh ≤ y0 + y1)) = true) := Lib.hid (decide_eq_true (by refine ⟨⟨?_, ?_⟩, ?_, ?_⟩ <;> grind))
  have mm_ := mlo_mono a1_.1 a3_ a2_.2 c1_.1 c3_ c2_.2
  have mn_ := mlo_mhi xl xh yl yh
  have HC : Hid (decide ((x0 ≤ xl ∧ xl ≤ y0) ∧ (x0 ≤ xh ∧ xh ≤ y0)) = true) := Lib.hid (decide_eq_true ⟨a1_, a2_⟩)
  have HE : Hid (decide ((yl ≤ yl ∧ yl ≤ yh) ∧ (yl ≤ yl ∧ yl ≤ yh)) = true) := Lib.hid (decide_eq_true ⟨⟨Rat.le_refl, c3_⟩, Rat.le_refl, c3_⟩)
  obtain ⟨Ml, q_Ml⟩ : ∃ r, mlo x0 y0 x1 y1 = r := ⟨_, rfl⟩
  rw [q_Ml] at mm_ sm_
  obtain ⟨Mh, q_Mh⟩ : ∃ r, mhi x0 y0 x1 y1 = r := ⟨_, rfl⟩
  rw [q_Mh] at mm_ sn_
  obtain ⟨ml, q_ml⟩ : ∃ r, mlo xl xh yl yh = r := ⟨_, rfl⟩
  rw [q_ml] at mm_ mn_ so_
  obtain ⟨mh, q_mh⟩ : ∃ r, mhi xl xh yl yh = r := ⟨_, rfl⟩
  rw [q_mh] at mm_ mn_ sp_
  have MA : ∀ {W : World} {b0 p0 : Bool} {A0 B0 V0 U0 : Option Addr} {n0 c0 m0 d0 r0 k0 o0 q0 : Nat} {b1 p1 : Bool} {A1 B1 V1 U1 : Option Addr} {n1 c1 m1 d1 r1 k1 o1 q1 : Nat}, Rt W b0 A0 n0 c0 B0 m0 d0 x0 → Rt W p0 V0 r0 k0 U0 o0 q0 y0 → Rt W b1 A1 n1 c1 B1 m1 d1 x1 → Rt W p1 V1 r1 k1 U1 o1 q1 y1 → Calls Tryz.prog 26 #[.agg #[.bool b0, .slice A0 n0 c0, .slice B0 m0 d0, .bool p0, .slice V0 r0 k0, .slice U0 o0 q0], .agg #[.bool b1, .slice A1 n1 c1, .slice B1 m1 d1, .bool p1, .slice V1 r1 k1, .slice U1 o1 q1]] W (GotSt W Ml Mh) := fun a b c d => by rw [← q_Ml, ← q_Mh]; exact imul_N a b (s0.le (by omega)) (t0.le (by omega)) c d (s1.le (by omega)) (t1.le (by omega))
  have MX : ∀ {W : World} {b0 p0 : Bool} {A0 B0 V0 U0 : Option Addr} {n0 c0 m0 d0 r0 k0 o0 q0 : Nat} {b1 p1 : Bool} {A1 B1 V1 U1 : Option Addr} {n1 c1 m1 d1 r1 k1 o1 q1 : Nat}, Rt W b0 A0 n0 c0 B0 m0 d0 xl → Rt W p0 V0 r0 k0 U0 o0 q0 xh → Rt W b1 A1 n1 c1 B1 m1 d1 yl → Rt W p1 V1 r1 k1 U1 o1 q1 yh → Calls Tryz.prog 26 #[.agg #[.bool b0, .slice A0 n0 c0, .slice B0 m0 d0, .bool p0, .slice V0 r0 k0, .slice U0 o0 q0], .agg #[.bool b1, .slice A1 n1 c1, .slice B1 m1 d1, .bool p1, .slice V1 r1 k1, .slice U1 o1 q1]] W (GotSt W ml mh) := fun a b c d => by rw [← q_ml, ← q_mh]; exact imul_N a b (zal.le (by omega)) (zah.le (by omega)) c d (zcl.le (by omega)) (zch.le (by omega))
  have HB : Hid (decide ((Ml ≤ ml ∧ ml ≤ Mh) ∧ (Ml ≤ mh ∧ mh ≤ Mh)) = true) := Lib.hid (decide_eq_true (by refine ⟨⟨mm_.1, ?_⟩, ?_, mm_.2⟩ <;> grind))
  clear q_Ml q_Mh q_ml q_mh mm_ mn_
  have jl : f0.toNat ≤ 500 := by omega
  have o1 := out_low xl f0.toNat
  have o2 := out_high xh f0.toNat
  have o3 := (out_mono f0.toNat a1_.1).1
  have o4 := (out_mono f0.toNat a2_.2).2
  have zpl := bak_sz (flo_len (zal.le (show 9 ≤ 10 by omega)) jl) (by omega) jl
  have zph := bak_sz (cei_len (zah.le (show 9 ≤ 10 by omega)) jl) (by omega) jl
  have zql := bak_sz (flo_len (s0.le (show 2 ≤ 10 by omega)) jl) (by omega) jl
  have zqh := bak_sz (cei_len (t0.le (show 2 ≤ 10 by omega)) jl) (by omega) jl
  obtain ⟨pl, q_pl⟩ : ∃ r, bak (flo xl f0.toNat) f0.toNat = r := ⟨_, rfl⟩
  rw [q_pl] at o1 o3 zpl
  obtain ⟨ph, q_ph⟩ : ∃ r, bak (cei xh f0.toNat) f0.toNat = r := ⟨_, rfl⟩
  rw [q_ph] at o2 o4 zph
  obtain ⟨ql, q_ql⟩ : ∃ r, bak (flo x0 f0.toNat) f0.toNat = r := ⟨_, rfl⟩
  rw [q_ql] at o3 zql
  obtain ⟨qh, q_qh⟩ : ∃ r, bak (cei y0 f0.toNat) f0.toNat = r := ⟨_, rfl⟩
  rw [q_qh] at o4 zqh
  have OA : ∀ {W : World} {b0 p0 : Bool} {A0 B0 V0 U0 : Option Addr} {n0 c0 m0 d0 r0 k0 o0 q0 : Nat}, Rt W b0 A0 n0 c0 B0 m0 d0 xl → Rt W p0 V0 r0 k0 U0 o0 q0 xh → Calls Tryz.prog 28 #[.agg #[.bool b0, .slice A0 n0 c0, .slice B0 m0 d0, .bool p0, .slice V0 r0 k0, .slice U0 o0 q0], .int .i64 f0] W (GotSp W pl ph 0) := fun a b => by rw [← q_pl, ← q_ph]; exact iout_N a b (zal.le (by omega)) (zah.le (by omega)) u0 (by omega)
  have OB : ∀ {W : World} {b0 p0 : Bool} {A0 B0 V0 U0 : Option Addr} {n0 c0 m0 d0 r0 k0 o0 q0 : Nat}, Rt W b0 A0 n0 c0 B0 m0 d0 x0 → Rt W p0 V0 r0 k0 U0 o0 q0 y0 → Calls Tryz.prog 28 #[.agg #[.bool b0, .slice A0 n0 c0, .slice B0 m0 d0, .bool p0, .slice V0 r0 k0, .slice U0 o0 q0], .int .i64 f0] W (GotSp W ql qh 0) := fun a b => by rw [← q_ql, ← q_qh]; exact iout_N a b (s0.le (by omega)) (t0.le (by omega)) u0 (by omega)
  have HD : Hid (decide ((ql ≤ pl ∧ pl ≤ qh) ∧ (ql ≤ ph ∧ ph ≤ qh)) = true) := Lib.hid (decide_eq_true (by refine ⟨⟨o3, ?_⟩, ?_, o4⟩ <;> grind))
  clear q_pl q_ph q_ql q_qh o1 o2 o3 o4 jl a1_ a2_ a3_ c1_ c2_ c3_ e0 e1 l0 l1 l2 l3 l4 k0_ k1_ k2_ k3_ k4_
  obtain ⟨sl, q_sl⟩ : ∃ r, x0 + x1 = r := ⟨_, rfl⟩
  rw [q_sl] at HA sa_
  obtain ⟨sh, q_sh⟩ : ∃ r, y0 + y1 = r := ⟨_, rfl⟩
  rw [q_sh] at HA sb_
  obtain ⟨vl, q_vl⟩ : ∃ r, xl + yl = r := ⟨_, rfl⟩
  rw [q_vl] at HA sc_
  obtain ⟨vh, q_vh⟩ : ∃ r, xh + yh = r := ⟨_, rfl⟩
  rw [q_vh] at HA sd_
  have AA : ∀ {W : World} {b0 p0 : Bool} {A0 B0 V0 U0 : Option Addr} {n0 c0 m0 d0 r0 k0 o0 q0 : Nat} {b1 p1 : Bool} {A1 B1 V1 U1 : Option Addr} {n1 c1 m1 d1 r1 k1 o1 q1 : Nat}, Rt W b0 A0 n0 c0 B0 m0 d0 x0 → Rt W p0 V0 r0 k0 U0 o0 q0 y0 → Rt W b1 A1 n1 c1 B1 m1 d1 x1 → Rt W p1 V1 r1 k1 U1 o1 q1 y1 → Calls Tryz.prog 24 #[.agg #[.bool b0, .slice A0 n0 c0, .slice B0 m0 d0, .bool p0, .slice V0 r0 k0, .slice U0 o0 q0], .agg #[.bool b1, .slice A1 n1 c1, .slice B1 m1 d1, .bool p1, .slice V1 r1 k1, .slice U1 o1 q1]] W (GotSt W sl sh) := fun a b c d => by rw [← q_sl, ← q_sh]; exact iadd_N a b (s0.le (by omega)) (t0.le (by omega)) c d (s1.le (by omega)) (t1.le (by omega))
  have AX : ∀ {W : World} {b0 p0 : Bool} {A0 B0 V0 U0 : Option Addr} {n0 c0 m0 d0 r0 k0 o0 q0 : Nat} {b1 p1 : Bool} {A1 B1 V1 U1 : Option Addr} {n1 c1 m1 d1 r1 k1 o1 q1 : Nat}, Rt W b0 A0 n0 c0 B0 m0 d0 xl → Rt W p0 V0 r0 k0 U0 o0 q0 xh → Rt W b1 A1 n1 c1 B1 m1 d1 yl → Rt W p1 V1 r1 k1 U1 o1 q1 yh → Calls Tryz.prog 24 #[.agg #[.bool b0, .slice A0 n0 c0, .slice B0 m0 d0, .bool p0, .slice V0 r0 k0, .slice U0 o0 q0], .agg #[.bool b1, .slice A1 n1 c1, .slice B1 m1 d1, .bool p1, .slice V1 r1 k1, .slice U1 o1 q1]] W (GotSt W vl vh) := fun a b c d => by rw [← q_vl, ← q_vh]; exact iadd_N a b (zal.le (by omega)) (zah.le (by omega)) c d (zcl.le (by omega)) (zch.le (by omega))
  clear q_sl q_sh q_vl q_vh
  have cc := Below.refl w.heap.size w
  go_enter Tryz.func7, Tryz.ntmps7
  go_wp2_with fail
  generalize hv_ : ((w.alloc (.cells #[.bool b0, .slice A0 n0 c0, .slice B0 m0 d0, .bool p0, .slice V0 r0 k0, .slice U0 o0 q0] 29)).alloc (.cells #[.bool b1, .slice A1 n1 c1, .slice B1 m1 d1, .bool p1, .slice V1 r1 k1, .slice U1 o1 q1] 29)).alloc (.cells #[.int .u8 f0, .int .u8 f1, .int .u8 f2, .int .u8 f3] 50) = v1
  have bA : Below w.heap.size w v1 := by rw [← hv_]; exact ((((Below.refl _ w).alloc (by simp) _).alloc (by simp) _).alloc (by simp <;> omega) _)
  replace h0 := h0.on bA
  replace g0 := g0.on bA
  replace h1 := h1.on bA
  replace g1 := g1.on bA
  replace cc := bK cc bA
  clear bA
  obtain ⟨pa0, pa1, pa2, pa3, pa4, pa5⟩ : Cs6 v1 w.heap.size (.bool b0) (.slice A0 n0 c0) (.slice B0 m0 d0) (.bool p0) (.slice V0 r0 k0) (.slice U0 o0 q0) := by simp [Cs6, ← hv_, go_sem]
  have pal : w.heap.size < v1.heap.size := by simp [← hv_] <;> omega
  obtain ⟨pb0, pb1, pb2, pb3, pb4, pb5⟩ : Cs6 v1 (w.heap.size + 1) (.bool b1) (.slice A1 n1 c1) (.slice B1 m1 d1) (.bool p1) (.slice V1 r1 k1) (.slice U1 o1 q1) := by simp [Cs6, ← hv_, go_sem]
  have pbl : w.heap.size + 1 < v1.heap.size := by simp [← hv_] <;> omega
  have pf0 : v1.cell? ⟨w.heap.size + 1 + 1, 0, none⟩ = some (.int .u8 f0) := by simp [← hv_, go_sem]
  have pf1 : v1.cell? ⟨w.heap.size + 1 + 1, 1, none⟩ = some (.int .u8 f1) := by simp [← hv_, go_sem]
  have pf2 : v1.cell? ⟨w.heap.size + 1 + 1, 2, none⟩ = some (.int .u8 f2) := by simp [← hv_, go_sem]
  have pf3 : v1.cell? ⟨w.heap.size + 1 + 1, 3, none⟩ = some (.int .u8 f3) := by simp [← hv_, go_sem]
  have pfl : w.heap.size + 1 + 1 < v1.heap.size := by simp [← hv_] <;> omega
  clear hv_
  refine (G0 _ cc).mono ?_
  rintro e w2 ⟨rfl, b⟩
  replace h0 := h0.on b
  replace g0 := g0.on b
  replace h1 := h1.on b
  replace g1 := g1.on b
  rewrite [cR b pal] at pa0 pa1 pa2 pa3 pa4 pa5
  replace pal := lK b pal
  rewrite [cR b pbl] at pb0 pb1 pb2 pb3 pb4 pb5
  replace pbl := lK b pbl
  rewrite [cR b pfl] at pf0 pf1 pf2 pf3
  replace pfl := lK b pfl
  replace cc := bK cc b
  clear b
  go_wp2_with fail
  refine (G1 _ cc).mono ?_
  rintro e w3 ⟨rfl, b⟩
  replace h0 := h0.on b
  replace g0 := g0.on b
  replace h1 := h1.on b
  replace g1 := g1.on b
  rewrite [cR b pal] at pa0 pa1 pa2 pa3 pa4 pa5
  replace pal := lK b pal
  rewrite [cR b pbl] at pb0 pb1 pb2 pb3 pb4 pb5
  replace pbl := lK b pbl
  rewrite [cR b pfl] at pf0 pf1 pf2 pf3
  replace pfl := lK b pfl
  replace cc := bK cc b
  clear b
  go_upto_region 3 with fail
  go_cut [7] (fun u wx => ∃ (g_ : Nat) (b_ : Bool) (A_ : Option Addr) (n_ c_ : Nat) (B_ : Option Addr) (m_ d_ : Nat) (p_ : Bool) (V_ : Option Addr) (r_ k_ : Nat) (U_ : Option Addr) (o_ q_ : Nat), u = .pointer (some ⟨g_, 0, none⟩) ∧ LoneS w3 wx g_ b_ A_ n_ c_ B_ m_ d_ p_ V_ r_ k_ U_ o_ q_ (xl) (xh))
  case first =>
    have BB0 : Below w3.heap.size w3 w3.drew := below_drewN (Below.refl _ w3) 1
    have BB1 : Below w3.heap.size w3 (w3.alloc (.cells #[.bool false, .slice none 0 0, .slice none 0 0, .bool false, .slice none 0 0, .slice none 0 0] 29)).drew := below_drewN (below_one _ _) 1
    go_region_held3 (fun w' => w'.cell? ⟨w.heap.size, 0, none⟩ = some (.bool b0) ∧ w'.cell? ⟨w.heap.size, 1, none⟩ = some (.slice A0 n0 c0) ∧ w'.cell? ⟨w.heap.size, 2, none⟩ = some (.slice B0 m0 d0) ∧ w'.cell? ⟨w.heap.size, 3, none⟩ = some (.bool p0) ∧ w'.cell? ⟨w.heap.size, 4, none⟩ = some (.slice V0 r0 k0) ∧ w'.cell? ⟨w.heap.size, 5, none⟩ = some (.slice U0 o0 q0) ∧ w'.cell? ⟨w.heap.size + 1, 0, none⟩ = some (.bool b1) ∧ w'.cell? ⟨w.heap.size + 1, 1, none⟩ = some (.slice A1 n1 c1) ∧ w'.cell? ⟨w.heap.size + 1, 2, none⟩ = some (.slice B1 m1 d1) ∧ w'.cell? ⟨w.heap.size + 1, 3, none⟩ = some (.bool p1) ∧ w'.cell? ⟨w.heap.size + 1, 4, none⟩ = some (.slice V1 r1 k1) ∧ w'.cell? ⟨w.heap.size + 1, 5, none⟩ = some (.slice U1 o1 q1) ∧ w'.cell? ⟨w.heap.size + 1 + 1, 0, none⟩ = some (.int .u8 f0) ∧ w'.cell? ⟨w.heap.size + 1 + 1, 1, none⟩ = some (.int .u8 f1) ∧ w'.cell? ⟨w.heap.size + 1 + 1, 2, none⟩ = some (.int .u8 f2) ∧ w'.cell? ⟨w.heap.size + 1 + 1, 3, none⟩ = some (.int .u8 f3))
      (first | with_reducible exact ⟨(cK qq pa0 pal), (cK qq pa1 pal), (cK qq pa2 pal), (cK qq pa3 pal), (cK qq pa4 pal), (cK qq pa5 pal), (cK qq pb0 pbl), (cK qq pb1 pbl), (cK qq pb2 pbl), (cK qq pb3 pbl), (cK qq pb4 pbl), (cK qq pb5 pbl), (cK qq pf0 pfl), (cK qq pf1 pfl), (cK qq pf2 pfl), (cK qq pf3 pfl)⟩ | with_reducible exact ⟨keep_alloc ((cK qq pa0 pal)), keep_alloc ((cK qq pa1 pal)), keep_alloc ((cK qq pa2 pal)), keep_alloc ((cK qq pa3 pal)), keep_alloc ((cK qq pa4 pal)), keep_alloc ((cK qq pa5 pal)), keep_alloc ((cK qq pb0 pbl)), keep_alloc ((cK qq pb1 pbl)), keep_alloc ((cK qq pb2 pbl)), keep_alloc ((cK qq pb3 pbl)), keep_alloc ((cK qq pb4 pbl)), keep_alloc ((cK qq pb5 pbl)), keep_alloc ((cK qq pf0 pfl)), keep_alloc ((cK qq pf1 pfl)), keep_alloc ((cK qq pf2 pfl)), keep_alloc ((cK qq pf3 pfl))⟩ | with_reducible exact ⟨((cell_putS (by omega)).trans (cK qq pa0 pal)), ((cell_putS (by omega)).trans (cK qq pa1 pal)), ((cell_putS (by omega)).trans (cK qq pa2 pal)), ((cell_putS (by omega)).trans (cK qq pa3 pal)), ((cell_putS (by omega)).trans (cK qq pa4 pal)), ((cell_putS (by omega)).trans (cK qq pa5 pal)), ((cell_putS (by omega)).trans (cK qq pb0 pbl)), ((cell_putS (by omega)).trans (cK qq pb1 pbl)), ((cell_putS (by omega)).trans (cK qq pb2 pbl)), ((cell_putS (by omega)).trans (cK qq pb3 pbl)), ((cell_putS (by omega)).trans (cK qq pb4 pbl)), ((cell_putS (by omega)).trans (cK qq pb5 pbl)), ((cell_putS (by omega)).trans (cK qq pf0 pfl)), ((cell_putS (by omega)).trans (cK qq pf1 pfl)), ((cell_putS (by omega)).trans (cK qq pf2 pfl)), ((cell_putS (by omega)).trans (cK qq pf3 pfl))⟩ | go_keep)
      (first
        | (go_at_call 32; (with_reducible refine (OXl (h0.on BB0) (g0.on BB0)).mono ?_); rintro e y1 ⟨be, Ae, ne, ce, Be, me, de, rfl, hx, q⟩; have qq := BB0.trans (q.mono BB0.size); have h0' := (h0.on BB0).on q; have g0' := (g0.on BB0).on q; have h1' := (h1.on BB0).on q; have g1' := (g1.on BB0).on q; have qs1 := qq.size; clear q)
        | (go_at_call 32; (with_reducible refine (OXl (h0.on BB1) (g0.on BB1)).mono ?_); rintro e y1 ⟨be, Ae, ne, ce, Be, me, de, rfl, hx, q⟩; have qq := BB1.trans (q.mono BB1.size); have h0' := (h0.on BB1).on q; have g0' := (g0.on BB1).on q; have h1' := (h1.on BB1).on q; have g1' := (g1.on BB1).on q; have qs1 := qq.size; obtain ⟨bo_0, fo_0, bo_1, fo_1, bo_2, fo_2, bo_3, fo_3, bo_4, fo_4, bo_5, fo_5, ol⟩ := zb6 (g := w3.heap.size) q (by simp) (by simp [Cs6, go_sem]) (by simp [Fz6, go_sem]); clear q)
        | (go_at_call 32; have up := Below.refl y1.heap.size y1; (with_reducible refine (OXh (h0'.on up) (g0'.on up)).mono ?_); rintro e y2 ⟨bf, Af, nf, cf, Bf, mf, df, rfl, gx_, q⟩; replace qq := uK qq up q; replace h0' := (h0'.on up).on q; replace g0' := (g0'.on up).on q; replace h1' := (h1'.on up).on q; replace g1' := (g1'.on up).on q; replace hx := (hx.on up).on q; (try (rewrite [cR up ol, cR q (lK up ol)] at bo_0 bo_1 bo_2 bo_3 bo_4 bo_5; rewrite [fR up ol, fR q (lK up ol)] at fo_0 fo_1 fo_2 fo_3 fo_4 fo_5; replace ol := lK q (lK up ol))); have qs2 := qq.size; clear q up)
        | (go_at_call 32; have up := below_one y1 (.cells #[.bool false, .slice none 0 0, .slice none 0 0, .bool false, .slice none 0 0, .slice none 0 0] 29); (with_reducible refine (OXh (h0'.on up) (g0'.on up)).mono ?_); rintro e y2 ⟨bf, Af, nf, cf, Bf, mf, df, rfl, gx_, q⟩; replace qq := uK qq up q; replace h0' := (h0'.on up).on q; replace g0' := (g0'.on up).on q; replace h1' := (h1'.on up).on q; replace g1' := (g1'.on up).on q; replace hx := (hx.on up).on q; (try (rewrite [cR up ol, cR q (lK up ol)] at bo_0 bo_1 bo_2 bo_3 bo_4 bo_5; rewrite [fR up ol, fR q (lK up ol)] at fo_0 fo_1 fo_2 fo_3 fo_4 fo_5; replace ol := lK q (lK up ol))); have qs2 := qq.size; obtain ⟨bo_0, fo_0, bo_1, fo_1, bo_2, fo_2, bo_3, fo_3, bo_4, fo_4, bo_5, fo_5, ol⟩ := zb6 (g := y1.heap.size) q (by simp) (by simp [Cs6, go_sem]) (by simp [Fz6, go_sem]); clear q up))
    all_goals (go_wp2_with fail; go_meet)
    all_goals refine ⟨_, be, Ae, ne, ce, Be, me, de, bf, Af, nf, cf, Bf, mf, df, rfl, ?_⟩
    all_goals first
      | with_reducible exact loneSA hx gx_ qq _
      | with_reducible exact loneSB bo_0 bo_1 bo_2 bo_3 bo_4 bo_5 hx gx_ qq (by omega)
  case rest =>
    obtain ⟨gxs, bxs, Axs, nxs, cxs, Bxs, mxs, dxs, pxs, Vxs, rxs, kxs, Uxs, oxs, qxs, rfl, ⟨xs0, xs1, xs2, xs3, xs4, xs5⟩, hxs, gxs_, b, xsge⟩ := hcut
    have xsl := cell_lt xs0
    simp only at xsl
    have xsqpa : w.heap.size < gxs := Nat.lt_of_lt_of_le pal xsge
    have xsqpb : w.heap.size + 1 < gxs := Nat.lt_of_lt_of_le pbl xsge
    have xsqpf : w.heap.size + 1 + 1 < gxs := Nat.lt_of_lt_of_le pfl xsge
    replace h0 := h0.on b
    replace g0 := g0.on b
    replace h1 := h1.on b
    replace g1 := g1.on b
    rewrite [cR b pal] at pa0 pa1 pa2 pa3 pa4 pa5
    replace pal := lK b pal
    rewrite [cR b pbl] at pb0 pb1 pb2 pb3 pb4 pb5
    replace pbl := lK b pbl
    rewrite [cR b pfl] at pf0 pf1 pf2 pf3
    replace pfl := lK b pfl
    replace cc := bK cc b
    clear b
    go_upto_region 4 with fail
    go_cut [8] (fun u wx => ∃ (g_ : Nat) (b_ : Bool) (A_ : Option Addr) (n_ c_ : Nat) (B_ : Option Addr) (m_ d_ : Nat) (p_ : Bool) (V_ : Option Addr) (r_ k_ : Nat) (U_ : Option Addr) (o_ q_ : Nat), u = .pointer (some ⟨g_, 0, none⟩) ∧ LoneS wc wx g_ b_ A_ n_ c_ B_ m_ d_ p_ V_ r_ k_ U_ o_ q_ (yl) (yh))
    case first =>
      have BB0 : Below wc.heap.size wc wc.drew := below_drewN (Below.refl _ wc) 1
      have BB1 : Below wc.heap.size wc (wc.alloc (.cells #[.bool false, .slice none 0 0, .slice none 0 0, .bool false, .slice none 0 0, .slice none 0 0] 29)).drew := below_drewN (below_one _ _) 1
      go_region_held3 (fun w' => w'.cell? ⟨w.heap.size, 0, none⟩ = some (.bool b0) ∧ w'.cell? ⟨w.heap.size, 1, none⟩ = some (.slice A0 n0 c0) ∧ w'.cell? ⟨w.heap.size, 2, none⟩ = some (.slice B0 m0 d0) ∧ w'.cell? ⟨w.heap.size, 3, none⟩ = some (.bool p0) ∧ w'.cell? ⟨w.heap.size, 4, none⟩ = some (.slice V0 r0 k0) ∧ w'.cell? ⟨w.heap.size, 5, none⟩ = some (.slice U0 o0 q0) ∧ w'.cell? ⟨w.heap.size + 1, 0, none⟩ = some (.bool b1) ∧ w'.cell? ⟨w.heap.size + 1, 1, none⟩ = some (.slice A1 n1 c1) ∧ w'.cell? ⟨w.heap.size + 1, 2, none⟩ = some (.slice B1 m1 d1) ∧ w'.cell? ⟨w.heap.size + 1, 3, none⟩ = some (.bool p1) ∧ w'.cell? ⟨w.heap.size + 1, 4, none⟩ = some (.slice V1 r1 k1) ∧ w'.cell? ⟨w.heap.size + 1, 5, none⟩ = some (.slice U1 o1 q1) ∧ w'.cell? ⟨w.heap.size + 1 + 1, 0, none⟩ = some (.int .u8 f0) ∧ w'.cell? ⟨w.heap.size + 1 + 1, 1, none⟩ = some (.int .u8 f1) ∧ w'.cell? ⟨w.heap.size + 1 + 1, 2, none⟩ = some (.int .u8 f2) ∧ w'.cell? ⟨w.heap.size + 1 + 1, 3, none⟩ = some (.int .u8 f3) ∧ w'.cell? ⟨gxs, 0, none⟩ = some (.bool bxs) ∧ w'.cell? ⟨gxs, 1, none⟩ = some (.slice Axs nxs cxs) ∧ w'.cell? ⟨gxs, 2, none⟩ = some (.slice Bxs mxs dxs) ∧ w'.cell? ⟨gxs, 3, none⟩ = some (.bool pxs) ∧ w'.cell? ⟨gxs, 4, none⟩ = some (.slice Vxs rxs kxs) ∧ w'.cell? ⟨gxs, 5, none⟩ = some (.slice Uxs oxs qxs))
        (first | with_reducible exact ⟨(cK qq pa0 pal), (cK qq pa1 pal), (cK qq pa2 pal), (cK qq pa3 pal), (cK qq pa4 pal), (cK qq pa5 pal), (cK qq pb0 pbl), (cK qq pb1 pbl), (cK qq pb2 pbl), (cK qq pb3 pbl), (cK qq pb4 pbl), (cK qq pb5 pbl), (cK qq pf0 pfl), (cK qq pf1 pfl), (cK qq pf2 pfl), (cK qq pf3 pfl), (cK qq xs0 xsl), (cK qq xs1 xsl), (cK qq xs2 xsl), (cK qq xs3 xsl), (cK qq xs4 xsl), (cK qq xs5 xsl)⟩ | with_reducible exact ⟨keep_alloc ((cK qq pa0 pal)), keep_alloc ((cK qq pa1 pal)), keep_alloc ((cK qq pa2 pal)), keep_alloc ((cK qq pa3 pal)), keep_alloc ((cK qq pa4 pal)), keep_alloc ((cK qq pa5 pal)), keep_alloc ((cK qq pb0 pbl)), keep_alloc ((cK qq pb1 pbl)), keep_alloc ((cK qq pb2 pbl)), keep_alloc ((cK qq pb3 pbl)), keep_alloc ((cK qq pb4 pbl)), keep_alloc ((cK qq pb5 pbl)), keep_alloc ((cK qq pf0 pfl)), keep_alloc ((cK qq pf1 pfl)), keep_alloc ((cK qq pf2 pfl)), keep_alloc ((cK qq pf3 pfl)), keep_alloc ((cK qq xs0 xsl)), keep_alloc ((cK qq xs1 xsl)), keep_alloc ((cK qq xs2 xsl)), keep_alloc ((cK qq xs3 xsl)), keep_alloc ((cK qq xs4 xsl)), keep_alloc ((cK qq xs5 xsl))⟩ | with_reducible exact ⟨((cell_putS (by omega)).trans (cK qq pa0 pal)), ((cell_putS (by omega)).trans (cK qq pa1 pal)), ((cell_putS (by omega)).trans (cK qq pa2 pal)), ((cell_putS (by omega)).trans (cK qq pa3 pal)), ((cell_putS (by omega)).trans (cK qq pa4 pal)), ((cell_putS (by omega)).trans (cK qq pa5 pal)), ((cell_putS (by omega)).trans (cK qq pb0 pbl)), ((cell_putS (by omega)).trans (cK qq pb1 pbl)), ((cell_putS (by omega)).trans (cK qq pb2 pbl)), ((cell_putS (by omega)).trans (cK qq pb3 pbl)), ((cell_putS (by omega)).trans (cK qq pb4 pbl)), ((cell_putS (by omega)).trans (cK qq pb5 pbl)), ((cell_putS (by omega)).trans (cK qq pf0 pfl)), ((cell_putS (by omega)).trans (cK qq pf1 pfl)), ((cell_putS (by omega)).trans (cK qq pf2 pfl)), ((cell_putS (by omega)).trans (cK qq pf3 pfl)), ((cell_putS (by omega)).trans (cK qq xs0 xsl)), ((cell_putS (by omega)).trans (cK qq xs1 xsl)), ((cell_putS (by omega)).trans (cK qq xs2 xsl)), ((cell_putS (by omega)).trans (cK qq xs3 xsl)), ((cell_putS (by omega)).trans (cK qq xs4 xsl)), ((cell_putS (by omega)).trans (cK qq xs5 xsl))⟩ | go_keep)
        (first
          | (go_at_call 32; (with_reducible refine (OYl (h1.on BB0) (g1.on BB0)).mono ?_); rintro e y1 ⟨be, Ae, ne, ce, Be, me, de, rfl, hx, q⟩; have qq := BB0.trans (q.mono BB0.size); have h0' := (h0.on BB0).on q; have g0' := (g0.on BB0).on q; have h1' := (h1.on BB0).on q; have g1' := (g1.on BB0).on q; have hxs' := (hxs.on BB0).on q; have gxs_' := (gxs_.on BB0).on q; have qs1 := qq.size; clear q)
          | (go_at_call 32; (with_reducible refine (OYl (h1.on BB1) (g1.on BB1)).mono ?_); rintro e y1 ⟨be, Ae, ne, ce, Be, me, de, rfl, hx, q⟩; have qq := BB1.trans (q.mono BB1.size); have h0' := (h0.on BB1).on q; have g0' := (g0.on BB1).on q; have h1' := (h1.on BB1).on q; have g1' := (g1.on BB1).on q; have hxs' := (hxs.on BB1).on q; have gxs_' := (gxs_.on BB1).on q; have qs1 := qq.size; obtain ⟨bo_0, fo_0, bo_1, fo_1, bo_2, fo_2, bo_3, fo_3, bo_4, fo_4, bo_5, fo_5, ol⟩ := zb6 (g := wc.heap.size) q (by simp) (by simp [Cs6, go_sem]) (by simp [Fz6, go_sem]); clear q)
          | (go_at_call 32; have up := Below.refl y1.heap.size y1; (with_reducible refine (OYh (h1'.on up) (g1'.on up)).mono ?_); rintro e y2 ⟨bf, Af, nf, cf, Bf, mf, df, rfl, gx_, q⟩; replace qq := uK qq up q; replace h0' := (h0'.on up).on q; replace g0' := (g0'.on up).on q; replace h1' := (h1'.on up).on q; replace g1' := (g1'.on up).on q; replace hxs' := (hxs'.on up).on q; replace gxs_' := (gxs_'.on up).on q; replace hx := (hx.on up).on q; (try (rewrite [cR up ol, cR q (lK up ol)] at bo_0 bo_1 bo_2 bo_3 bo_4 bo_5; rewrite [fR up ol, fR q (lK up ol)] at fo_0 fo_1 fo_2 fo_3 fo_4 fo_5; replace ol := lK q (lK up ol))); have qs2 := qq.size; clear q up)
          | (go_at_call 32; have up := below_one y1 (.cells #[.bool false, .slice none 0 0, .slice none 0 0, .bool false, .slice none 0 0, .slice none 0 0] 29); (with_reducible refine (OYh (h1'.on up) (g1'.on up)).mono ?_); rintro e y2 ⟨bf, Af, nf, cf, Bf, mf, df, rfl, gx_, q⟩; replace qq := uK qq up q; replace h0' := (h0'.on up).on q; replace g0' := (g0'.on up).on q; replace h1' := (h1'.on up).on q; replace g1' := (g1'.on up).on q; replace hxs' := (hxs'.on up).on q; replace gxs_' := (gxs_'.on up).on q; replace hx := (hx.on up).on q; (try (rewrite [cR up ol, cR q (lK up ol)] at bo_0 bo_1 bo_2 bo_3 bo_4 bo_5; rewrite [fR up ol, fR q (lK up ol)] at fo_0 fo_1 fo_2 fo_3 fo_4 fo_5; replace ol := lK q (lK up ol))); have qs2 := qq.size; obtain ⟨bo_0, fo_0, bo_1, fo_1, bo_2, fo_2, bo_3, fo_3, bo_4, fo_4, bo_5, fo_5, ol⟩ := zb6 (g := y1.heap.size) q (by simp) (by simp [Cs6, go_sem]) (by simp [Fz6, go_sem]); clear q up))
      all_goals (go_wp2_with fail; go_meet)
      all_goals refine ⟨_, be, Ae, ne, ce, Be, me, de, bf, Af, nf, cf, Bf, mf, df, rfl, ?_⟩
      all_goals first
        | with_reducible exact loneSA hx gx_ qq _
        | with_reducible exact loneSB bo_0 bo_1 bo_2 bo_3 bo_4 bo_5 hx gx_ qq (by omega)
    case rest =>
      obtain ⟨gys, bys, Ays, nys, cys, Bys, mys, dys, pys, Vys, rys, kys, Uys, oys, qys, rfl, ⟨ys0, ys1, ys2, ys3, ys4, ys5⟩, hys, gys_, b, ysge⟩ := hcut
      have ysl := cell_lt ys0
      simp only at ysl
      have ysqpa : w.heap.size < gys := Nat.lt_of_lt_of_le pal ysge
      have ysqpb : w.heap.size + 1 < gys := Nat.lt_of_lt_of_le pbl ysge
      have ysqpf : w.heap.size + 1 + 1 < gys := Nat.lt_of_lt_of_le pfl ysge
      have ysqxs : gxs < gys := Nat.lt_of_lt_of_le xsl ysge
      replace h0 := h0.on b
      replace g0 := g0.on b
      replace h1 := h1.on b
      replace g1 := g1.on b
      replace hxs := hxs.on b
      replace gxs_ := gxs_.on b
      rewrite [cR b pal] at pa0 pa1 pa2 pa3 pa4 pa5
      replace pal := lK b pal
      rewrite [cR b pbl] at pb0 pb1 pb2 pb3 pb4 pb5
      replace pbl := lK b pbl
      rewrite [cR b pfl] at pf0 pf1 pf2 pf3
      replace pfl := lK b pfl
      rewrite [cR b xsl] at xs0 xs1 xs2 xs3 xs4 xs5
      replace xsl := lK b xsl
      replace cc := bK cc b
      clear b
      go_wp2_with fail
      have bD : Below wc.heap.size wc wc.drew := below_drewN (Below.refl _ wc) 1
      replace h0 := h0.on bD
      replace g0 := g0.on bD
      replace h1 := h1.on bD
      replace g1 := g1.on bD
      replace hxs := hxs.on bD
      replace gxs_ := gxs_.on bD
      replace hys := hys.on bD
      replace gys_ := gys_.on bD
      rewrite [cR bD pal] at pa0 pa1 pa2 pa3 pa4 pa5
      replace pal := lK bD pal
      rewrite [cR bD pbl] at pb0 pb1 pb2 pb3 pb4 pb5
      replace pbl := lK bD pbl
      rewrite [cR bD pfl] at pf0 pf1 pf2 pf3
      replace pfl := lK bD pfl
      rewrite [cR bD xsl] at xs0 xs1 xs2 xs3 xs4 xs5
      replace xsl := lK bD xsl
      rewrite [cR bD ysl] at ys0 ys1 ys2 ys3 ys4 ys5
      replace ysl := lK bD ysl
      replace cc := bK cc bD
      clear bD
      refine wp_region_held_drew (S := fun w' => w'.cell? ⟨w.heap.size, 0, none⟩ = some (.bool b0) ∧ w'.cell? ⟨w.heap.size, 1, none⟩ = some (.slice A0 n0 c0) ∧ w'.cell? ⟨w.heap.size, 2, none⟩ = some (.slice B0 m0 d0) ∧ w'.cell? ⟨w.heap.size, 3, none⟩ = some (.bool p0) ∧ w'.cell? ⟨w.heap.size, 4, none⟩ = some (.slice V0 r0 k0) ∧ w'.cell? ⟨w.heap.size, 5, none⟩ = some (.slice U0 o0 q0) ∧ w'.cell? ⟨w.heap.size + 1, 0, none⟩ = some (.bool b1) ∧ w'.cell? ⟨w.heap.size + 1, 1, none⟩ = some (.slice A1 n1 c1) ∧ w'.cell? ⟨w.heap.size + 1, 2, none⟩ = some (.slice B1 m1 d1) ∧ w'.cell? ⟨w.heap.size + 1, 3, none⟩ = some (.bool p1) ∧ w'.cell? ⟨w.heap.size + 1, 4, none⟩ = some (.slice V1 r1 k1) ∧ w'.cell? ⟨w.heap.size + 1, 5, none⟩ = some (.slice U1 o1 q1) ∧ w'.cell? ⟨w.heap.size + 1 + 1, 0, none⟩ = some (.int .u8 f0) ∧ w'.cell? ⟨w.heap.size + 1 + 1, 1, none⟩ = some (.int .u8 f1) ∧ w'.cell? ⟨w.heap.size + 1 + 1, 2, none⟩ = some (.int .u8 f2) ∧ w'.cell? ⟨w.heap.size + 1 + 1, 3, none⟩ = some (.int .u8 f3) ∧ w'.cell? ⟨gxs, 0, none⟩ = some (.bool bxs) ∧ w'.cell? ⟨gxs, 1, none⟩ = some (.slice Axs nxs cxs) ∧ w'.cell? ⟨gxs, 2, none⟩ = some (.slice Bxs mxs dxs) ∧ w'.cell? ⟨gxs, 3, none⟩ = some (.bool pxs) ∧ w'.cell? ⟨gxs, 4, none⟩ = some (.slice Vxs rxs kxs) ∧ w'.cell? ⟨gxs, 5, none⟩ = some (.slice Uxs oxs qxs) ∧ w'.cell? ⟨gys, 0, none⟩ = some (.bool bys) ∧ w'.cell? ⟨gys, 1, none⟩ = some (.slice Ays nys cys) ∧ w'.cell? ⟨gys, 2, none⟩ = some (.slice Bys mys dys) ∧ w'.cell? ⟨gys, 3, none⟩ = some (.bool pys) ∧ w'.cell? ⟨gys, 4, none⟩ = some (.slice Vys rys kys) ∧ w'.cell? ⟨gys, 5, none⟩ = some (.slice Uys oys qys)) (by kernel_rfl) ?_ (fun hHeld => ?_)
      · exact ⟨pa0, pa1, pa2, pa3, pa4, pa5, pb0, pb1, pb2, pb3, pb4, pb5, pf0, pf1, pf2, pf3, xs0, xs1, xs2, xs3, xs4, xs5, ys0, ys1, ys2, ys3, ys4, ys5⟩
      refine wpAnyH_take (i := 0) (v := ?_) rfl (by kernel_rfl) (by kernel_rfl) (by kernel_rfl) (fun _ _ _ h => h) (Or.inl ⟨by rfl, ?_⟩) hHeld ?_
      rotate_left
      · (intro w hSw; (try dsimp only at hSw); go_simp; (try with_reducible rfl))
      try simp only [Act.put, pT]
      refine wpAnyH_take (i := 1) (v := ?_) rfl (by kernel_rfl) (by kernel_rfl) (by kernel_rfl) (fun _ _ _ h => h) (Or.inl ⟨by rfl, ?_⟩) hHeld ?_
      rotate_left
      · (intro w hSw; (try dsimp only at hSw); go_simp; (try with_reducible rfl))
      try simp only [Act.put, pT]
      refine wpAnyH_take (i := 3) (v := ?_) rfl (by kernel_rfl) (by kernel_rfl) (by kernel_rfl) (fun _ _ _ h => h) (Or.inl ⟨by rfl, ?_⟩) hHeld ?_
      rotate_left
      · (intro w hSw; (try dsimp only at hSw); go_simp; (try with_reducible rfl))
      try simp only [Act.put, pT]
      refine wpAnyH_take (i := 4) (v := ?_) rfl (by kernel_rfl) (by kernel_rfl) (by kernel_rfl) (fun _ _ _ h => h) (Or.inl ⟨by rfl, ?_⟩) hHeld ?_
      rotate_left
      · (intro w hSw; (try dsimp only at hSw); go_simp; (try with_reducible rfl))
      try simp only [Act.put, pT]
      refine wpAnyH_ready (rs := [2]) (by kernel_rfl) (by simp) ?_
      refine AllReadyH.cons rfl (fun K hK => ?_) AllReadyH.nil
      (try simp only [pT])
      rw [if_pos (by rfl)]
      go_simp
      go_at_call 24
      refine (AX hxs gxs_ hys gys_).mono ?_
      rintro e w4 ⟨be, Ae, ne, ce, Be, me, de, pe, Ve, re, ke, Ue, oe, qe, rfl, ⟨he, ge_⟩, b⟩
      replace h0 := h0.on b
      replace g0 := g0.on b
      replace h1 := h1.on b
      replace g1 := g1.on b
      replace hxs := hxs.on b
      replace gxs_ := gxs_.on b
      replace hys := hys.on b
      replace gys_ := gys_.on b
      rewrite [cR b pal] at pa0 pa1 pa2 pa3 pa4 pa5
      replace pal := lK b pal
      rewrite [cR b pbl] at pb0 pb1 pb2 pb3 pb4 pb5
      replace pbl := lK b pbl
      rewrite [cR b pfl] at pf0 pf1 pf2 pf3
      replace pfl := lK b pfl
      rewrite [cR b xsl] at xs0 xs1 xs2 xs3 xs4 xs5
      replace xsl := lK b xsl
      rewrite [cR b ysl] at ys0 ys1 ys2 ys3 ys4 ys5
      replace ysl := lK b ysl
      replace cc := bK cc b
      clear b
      refine hK.out _ _ ?_ (fun hHeld => ?_)
      · exact ⟨pa0, pa1, pa2, pa3, pa4, pa5, pb0, pb1, pb2, pb3, pb4, pb5, pf0, pf1, pf2, pf3, xs0, xs1, xs2, xs3, xs4, xs5, ys0, ys1, ys2, ys3, ys4, ys5⟩
      clear hK K
      try simp only [Act.put, pT]
      refine wpAnyH_ready (rs := [5]) (by kernel_rfl) (by simp) ?_
      refine AllReadyH.cons rfl (fun K hK => ?_) AllReadyH.nil
      (try simp only [pT])
      rw [if_pos (by rfl)]
      go_simp
      go_at_call 24
      refine (AA h0 g0 h1 g1).mono ?_
      rintro e w5 ⟨bf, Af, nf, cf, Bf, mf, df, pf, Vf, rf, kf, Uf, of, qf, rfl, ⟨hf, gf⟩, b⟩
      replace h0 := h0.on b
      replace g0 := g0.on b
      replace h1 := h1.on b
      replace g1 := g1.on b
      replace hxs := hxs.on b
      replace gxs_ := gxs_.on b
      replace hys := hys.on b
      replace gys_ := gys_.on b
      replace he := he.on b
      replace ge_ := ge_.on b
      rewrite [cR b pal] at pa0 pa1 pa2 pa3 pa4 pa5
      replace pal := lK b pal
      rewrite [cR b pbl] at pb0 pb1 pb2 pb3 pb4 pb5
      replace pbl := lK b pbl
      rewrite [cR b pfl] at pf0 pf1 pf2 pf3
      replace pfl := lK b pfl
      rewrite [cR b xsl] at xs0 xs1 xs2 xs3 xs4 xs5
      replace xsl := lK b xsl
      rewrite [cR b ysl] at ys0 ys1 ys2 ys3 ys4 ys5
      replace ysl := lK b ysl
      replace cc := bK cc b
      clear b
      refine hK.out _ _ ?_ (fun hHeld => ?_)
      · exact ⟨pa0, pa1, pa2, pa3, pa4, pa5, pb0, pb1, pb2, pb3, pb4, pb5, pf0, pf1, pf2, pf3, xs0, xs1, xs2, xs3, xs4, xs5, ys0, ys1, ys2, ys3, ys4, ys5⟩
      clear hK K
      try simp only [Act.put, pT]
      refine wpAnyH_ready (rs := [6]) (by kernel_rfl) (by simp) ?_
      refine AllReadyH.cons rfl (fun K hK => ?_) AllReadyH.nil
      (try simp only [pT])
      rw [if_pos (by rfl)]
      go_simp
      go_at_call 21
      refine (stin_N he ge_ (sc_.le (by omega)) (sd_.le (by omega)) hf gf (sa_.le (by omega)) (sb_.le (by omega)) true HA.out).mono ?_
      rintro e w6 ⟨rfl, b⟩
      replace h0 := h0.on b
      replace g0 := g0.on b
      replace h1 := h1.on b
      replace g1 := g1.on b
      replace hxs := hxs.on b
      replace gxs_ := gxs_.on b
      replace hys := hys.on b
      replace gys_ := gys_.on b
      replace he := he.on b
      replace ge_ := ge_.on b
      replace hf := hf.on b
      replace gf := gf.on b
      rewrite [cR b pal] at pa0 pa1 pa2 pa3 pa4 pa5
      replace pal := lK b pal
      rewrite [cR b pbl] at pb0 pb1 pb2 pb3 pb4 pb5
      replace pbl := lK b pbl
      rewrite [cR b pfl] at pf0 pf1 pf2 pf3
      replace pfl := lK b pfl
      rewrite [cR b xsl] at xs0 xs1 xs2 xs3 xs4 xs5
      replace xsl := lK b xsl
      rewrite [cR b ysl] at ys0 ys1 ys2 ys3 ys4 ys5
      replace ysl := lK b ysl
      replace cc := bK cc b
      clear b
      refine hK.out _ _ ?_ (fun hHeld => ?_)
      · exact ⟨pa0, pa1, pa2, pa3, pa4, pa5, pb0, pb1, pb2, pb3, pb4, pb5, pf0, pf1, pf2, pf3, xs0, xs1, xs2, xs3, xs4, xs5, ys0, ys1, ys2, ys3, ys4, ys5⟩
      clear hK K
      try simp only [Act.put, pT]
      refine wpAnyH_take (i := 7) (v := ?_) rfl (by kernel_rfl) (by kernel_rfl) (by kernel_rfl) (fun _ _ _ h => h) (Or.inl ⟨by rfl, ?_⟩) hHeld ?_
      rotate_left
      · (intro w hSw; (try dsimp only at hSw); go_simp; (try with_reducible rfl))
      try simp only [Act.put, pT]
      refine wpAnyH_take (i := 8) (v := ?_) rfl (by kernel_rfl) (by kernel_rfl) (by kernel_rfl) (fun _ _ _ h => h) (Or.inl ⟨by rfl, ?_⟩) hHeld ?_
      rotate_left
      · (intro w hSw; (try dsimp only at hSw); go_simp; (try with_reducible rfl))
      try simp only [Act.put, pT]
      refine wpAnyH_take (i := 9) (v := ?_) rfl (by kernel_rfl) (by kernel_rfl) (by kernel_rfl) (fun _ _ _ h => h) (Or.inl ⟨by rfl, ?_⟩) hHeld ?_
      rotate_left
      · (intro w hSw; (try dsimp only at hSw); go_simp; (try with_reducible rfl))
      try simp only [Act.put, pT]
      refine wpAnyH_take (i := 10) (v := ?_) rfl (by kernel_rfl) (by kernel_rfl) (by kernel_rfl) (fun _ _ _ h => h) (Or.inl ⟨by rfl, ?_⟩) hHeld ?_
      rotate_left
      · (intro w hSw; (try dsimp only at hSw); go_simp; (try with_reducible rfl))
      try simp only [Act.put, pT]
      refine wpAnyH_take (i := 12) (v := ?_) rfl (by kernel_rfl) (by kernel_rfl) (by kernel_rfl) (fun _ _ _ h => h) (Or.inl ⟨by rfl, ?_⟩) hHeld ?_
      rotate_left
      · (intro w hSw; (try dsimp only at hSw); go_simp; (try with_reducible rfl))
      try simp only [Act.put, pT]
      refine wpAnyH_take (i := 13) (v := ?_) rfl (by kernel_rfl) (by kernel_rfl) (by kernel_rfl) (fun _ _ _ h => h) (Or.inl ⟨by rfl, ?_⟩) hHeld ?_
      rotate_left
      · (intro w hSw; (try dsimp only at hSw); go_simp; (try with_reducible rfl))
      try simp only [Act.put, pT]
      refine wpAnyH_ready (rs := [11]) (by kernel_rfl) (by simp) ?_
      refine AllReadyH.cons rfl (fun K hK => ?_) AllReadyH.nil
      (try simp only [pT])
      rw [if_pos (by rfl)]
      go_simp
      go_at_call 26
      refine (MX hxs gxs_ hys gys_).mono ?_
      rintro e w7 ⟨bj, Aj, nj, cj, Bj, mj, dj, pj, Vj, rj, kj, Uj, oj, qj, rfl, ⟨hj, gj⟩, b⟩
      replace h0 := h0.on b
      replace g0 := g0.on b
      replace h1 := h1.on b
      replace g1 := g1.on b
      replace hxs := hxs.on b
      replace gxs_ := gxs_.on b
      replace hys := hys.on b
      replace gys_ := gys_.on b
      replace he := he.on b
      replace ge_ := ge_.on b
      replace hf := hf.on b
      replace gf := gf.on b
      rewrite [cR b pal] at pa0 pa1 pa2 pa3 pa4 pa5
      replace pal := lK b pal
      rewrite [cR b pbl] at pb0 pb1 pb2 pb3 pb4 pb5
      replace pbl := lK b pbl
      rewrite [cR b pfl] at pf0 pf1 pf2 pf3
      replace pfl := lK b pfl
      rewrite [cR b xsl] at xs0 xs1 xs2 xs3 xs4 xs5
      replace xsl := lK b xsl
      rewrite [cR b ysl] at ys0 ys1 ys2 ys3 ys4 ys5
      replace ysl := lK b ysl
      replace cc := bK cc b
      clear b
      refine hK.out _ _ ?_ (fun hHeld => ?_)
      · exact ⟨pa0, pa1, pa2, pa3, pa4, pa5, pb0, pb1, pb2, pb3, pb4, pb5, pf0, pf1, pf2, pf3, xs0, xs1, xs2, xs3, xs4, xs5, ys0, ys1, ys2, ys3, ys4, ys5⟩
      clear hK K
      try simp only [Act.put, pT]
      refine wpAnyH_ready (rs := [14]) (by kernel_rfl) (by simp) ?_
      refine AllReadyH.cons rfl (fun K hK => ?_) AllReadyH.nil
      (try simp only [pT])
      rw [if_pos (by rfl)]
      go_simp
      go_at_call 26
      refine (MA h0 g0 h1 g1).mono ?_
      rintro e w8 ⟨bz, Az, nz, cz, Bz, mz, dz, pz, Vz, rz, kz, Uz, oz, qz, rfl, ⟨hz, gz⟩, b⟩
      replace h0 := h0.on b
      replace g0 := g0.on b
      replace h1 := h1.on b
      replace g1 := g1.on b
      replace hxs := hxs.on b
      replace gxs_ := gxs_.on b
      replace hys := hys.on b
      replace gys_ := gys_.on b
      replace he := he.on b
      replace ge_ := ge_.on b
      replace hf := hf.on b
      replace gf := gf.on b
      replace hj := hj.on b
      replace gj := gj.on b
      rewrite [cR b pal] at pa0 pa1 pa2 pa3 pa4 pa5
      replace pal := lK b pal
      rewrite [cR b pbl] at pb0 pb1 pb2 pb3 pb4 pb5
      replace pbl := lK b pbl
      rewrite [cR b pfl] at pf0 pf1 pf2 pf3
      replace pfl := lK b pfl
      rewrite [cR b xsl] at xs0 xs1 xs2 xs3 xs4 xs5
      replace xsl := lK b xsl
      rewrite [cR b ysl] at ys0 ys1 ys2 ys3 ys4 ys5
      replace ysl := lK b ysl
      replace cc := bK cc b
      clear b
      refine hK.out _ _ ?_ (fun hHeld => ?_)
      · exact ⟨pa0, pa1, pa2, pa3, pa4, pa5, pb0, pb1, pb2, pb3, pb4, pb5, pf0, pf1, pf2, pf3, xs0, xs1, xs2, xs3, xs4, xs5, ys0, ys1, ys2, ys3, ys4, ys5⟩
      clear hK K
      try simp only [Act.put, pT]
      refine wpAnyH_ready (rs := [15]) (by kernel_rfl) (by simp) ?_
      refine AllReadyH.cons rfl (fun K hK => ?_) AllReadyH.nil
      (try simp only [pT])
      rw [if_pos (by rfl)]
      go_simp
      go_at_call 21
      refine (stin_N hj gj (so_.le (by omega)) (sp_.le (by omega)) hz gz (sm_.le (by omega)) (sn_.le (by omega)) true HB.out).mono ?_
      rintro e w9 ⟨rfl, b⟩
      replace h0 := h0.on b
      replace g0 := g0.on b
      replace h1 := h1.on b
      replace g1 := g1.on b
      replace hxs := hxs.on b
      replace gxs_ := gxs_.on b
      replace hys := hys.on b
      replace gys_ := gys_.on b
      replace he := he.on b
      replace ge_ := ge_.on b
      replace hf := hf.on b
      replace gf := gf.on b
      replace hj := hj.on b
      replace gj := gj.on b
      replace hz := hz.on b
      replace gz := gz.on b
      rewrite [cR b pal] at pa0 pa1 pa2 pa3 pa4 pa5
      replace pal := lK b pal
      rewrite [cR b pbl] at pb0 pb1 pb2 pb3 pb4 pb5
      replace pbl := lK b pbl
      rewrite [cR b pfl] at pf0 pf1 pf2 pf3
      replace pfl := lK b pfl
      rewrite [cR b xsl] at xs0 xs1 xs2 xs3 xs4 xs5
      replace xsl := lK b xsl
      rewrite [cR b ysl] at ys0 ys1 ys2 ys3 ys4 ys5
      replace ysl := lK b ysl
      replace cc := bK cc b
      clear b
      refine hK.out _ _ ?_ (fun hHeld => ?_)
      · exact ⟨pa0, pa1, pa2, pa3, pa4, pa5, pb0, pb1, pb2, pb3, pb4, pb5, pf0, pf1, pf2, pf3, xs0, xs1, xs2, xs3, xs4, xs5, ys0, ys1, ys2, ys3, ys4, ys5⟩
      clear hK K
      try simp only [Act.put, pT]
      refine wpAnyH_take (i := 16) (v := ?_) rfl (by kernel_rfl) (by kernel_rfl) (by kernel_rfl) (fun _ _ _ h => h) (Or.inl ⟨by rfl, ?_⟩) hHeld ?_
      rotate_left
      · (intro w hSw; (try dsimp only at hSw); go_simp; (try with_reducible rfl))
      try simp only [Act.put, pT]
      refine wpAnyH_take (i := 17) (v := ?_) rfl (by kernel_rfl) (by kernel_rfl) (by kernel_rfl) (fun _ _ _ h => h) (Or.inl ⟨by rfl, ?_⟩) hHeld ?_
      rotate_left
      · (intro w hSw; (try dsimp only at hSw); go_simp; (try with_reducible rfl))
      try simp only [Act.put, pT]
      refine wpAnyH_take (i := 18) (v := ?_) rfl (by kernel_rfl) (by kernel_rfl) (by kernel_rfl) (fun _ _ _ h => h) (Or.inl ⟨by rfl, ?_⟩) hHeld ?_
      rotate_left
      · (intro w hSw; (try dsimp only at hSw); go_simp; (try with_reducible rfl))
      try simp only [Act.put, pT]
      refine wpAnyH_take (i := 19) (v := ?_) rfl (by kernel_rfl) (by kernel_rfl) (by kernel_rfl) (fun _ _ _ h => h) (Or.inl ⟨by rfl, ?_⟩) hHeld ?_
      rotate_left
      · (intro w hSw; (try dsimp only at hSw); go_simp; (try with_reducible rfl))
      try simp only [Act.put, pT]
      refine wpAnyH_take (i := 20) (v := ?_) rfl (by kernel_rfl) (by kernel_rfl) (by kernel_rfl) (fun _ _ _ h => h) (Or.inl ⟨by rfl, ?_⟩) hHeld ?_
      rotate_left
      · (intro w hSw; (try dsimp only at hSw); go_simp; (try with_reducible rfl))
      try simp only [Act.put, pT]
      refine wpAnyH_ready (rs := [21]) (by kernel_rfl) (by simp) ?_
      refine AllReadyH.cons rfl (fun K hK => ?_) AllReadyH.nil
      (try simp only [pT])
      rw [if_pos (by rfl)]
      go_simp
      go_at_call 20
      refine (iin_N hxs gxs_ (zal.le (by omega)) (zah.le (by omega)) h0 g0 (s0.le (by omega)) (t0.le (by omega)) true HC.out).mono ?_
      rintro e w10 ⟨rfl, b⟩
      replace h0 := h0.on b
      replace g0 := g0.on b
      replace h1 := h1.on b
      replace g1 := g1.on b
      replace hxs := hxs.on b
      replace gxs_ := gxs_.on b
      replace hys := hys.on b
      replace gys_ := gys_.on b
      replace he := he.on b
      replace ge_ := ge_.on b
      replace hf := hf.on b
      replace gf := gf.on b
      replace hj := hj.on b
      replace gj := gj.on b
      replace hz := hz.on b
      replace gz := gz.on b
      rewrite [cR b pal] at pa0 pa1 pa2 pa3 pa4 pa5
      replace pal := lK b pal
      rewrite [cR b pbl] at pb0 pb1 pb2 pb3 pb4 pb5
      replace pbl := lK b pbl
      rewrite [cR b pfl] at pf0 pf1 pf2 pf3
      replace pfl := lK b pfl
      rewrite [cR b xsl] at xs0 xs1 xs2 xs3 xs4 xs5
      replace xsl := lK b xsl
      rewrite [cR b ysl] at ys0 ys1 ys2 ys3 ys4 ys5
      replace ysl := lK b ysl
      replace cc := bK cc b
      clear b
      refine hK.out _ _ ?_ (fun hHeld => ?_)
      · exact ⟨pa0, pa1, pa2, pa3, pa4, pa5, pb0, pb1, pb2, pb3, pb4, pb5, pf0, pf1, pf2, pf3, xs0, xs1, xs2, xs3, xs4, xs5, ys0, ys1, ys2, ys3, ys4, ys5⟩
      clear hK K
      try simp only [Act.put, pT]
      refine wpAnyH_take (i := 22) (v := ?_) rfl (by kernel_rfl) (by kernel_rfl) (by kernel_rfl) (fun _ _ _ h => h) (Or.inl ⟨by rfl, ?_⟩) hHeld ?_
      rotate_left
      · (intro w hSw; (try dsimp only at hSw); go_simp; (try with_reducible rfl))
      try simp only [Act.put, pT]
      refine wpAnyH_take (i := 23) (v := ?_) rfl (by kernel_rfl) (by kernel_rfl) (by kernel_rfl) (fun _ _ _ h => h) (Or.inl ⟨by rfl, ?_⟩) hHeld ?_
      rotate_left
      · (intro w hSw; (try dsimp only at hSw); go_simp; (try with_reducible rfl))
      try simp only [Act.put, pT]
      refine wpAnyH_done (by kernel_rfl) ?_ _
      clear hHeld
      clear he ge_ hf gf hj gj hz gz h1 g1
      go_wp2_with fail
      refine (OA hxs gxs_).mono ?_
      rintro e w11 ⟨bu, Au, nu, cu, Bu, mu, du, pu, Vu, ru, ku, Uu, ou, qu, rfl, ⟨hu, gu⟩, b⟩
      replace h0 := h0.on b
      replace g0 := g0.on b
      replace hxs := hxs.on b
      replace gxs_ := gxs_.on b
      replace hys := hys.on b
      replace gys_ := gys_.on b
      rewrite [cR b pal] at pa0 pa1 pa2 pa3 pa4 pa5
      replace pal := lK b pal
      rewrite [cR b pbl] at pb0 pb1 pb2 pb3 pb4 pb5
      replace pbl := lK b pbl
      rewrite [cR b pfl] at pf0 pf1 pf2 pf3
      replace pfl := lK b pfl
      rewrite [cR b xsl] at xs0 xs1 xs2 xs3 xs4 xs5
      replace xsl := lK b xsl
      rewrite [cR b ysl] at ys0 ys1 ys2 ys3 ys4 ys5
      replace ysl := lK b ysl
      replace cc := bK cc b
      clear b
      go_wp2_with fail
      generalize hv_ : w11.alloc (.cells #[.bool bu, .slice Au nu cu, .slice Bu mu du, .bool pu, .slice Vu ru ku, .slice Uu ou qu] 29) = v12
      have bA : Below w11.heap.size w11 v12 := by rw [← hv_]; exact below_one _ _
      replace h0 := h0.on bA
      replace g0 := g0.on bA
      replace hxs := hxs.on bA
      replace gxs_ := gxs_.on bA
      replace hys := hys.on bA
      replace gys_ := gys_.on bA
      replace hu := hu.on bA
      replace gu := gu.on bA
      rewrite [cR bA pal] at pa0 pa1 pa2 pa3 pa4 pa5
      replace pal := lK bA pal
      rewrite [cR bA pbl] at pb0 pb1 pb2 pb3 pb4 pb5
      replace pbl := lK bA pbl
      rewrite [cR bA pfl] at pf0 pf1 pf2 pf3
      replace pfl := lK bA pfl
      rewrite [cR bA xsl] at xs0 xs1 xs2 xs3 xs4 xs5
      replace xsl := lK bA xsl
      rewrite [cR bA ysl] at ys0 ys1 ys2 ys3 ys4 ys5
      replace ysl := lK bA ysl
      replace cc := bK cc bA
      clear bA
      obtain ⟨pp0, pp1, pp2, pp3, pp4, pp5⟩ : Cs6 v12 w11.heap.size (.bool bu) (.slice Au nu cu) (.slice Bu mu du) (.bool pu) (.slice Vu ru ku) (.slice Uu ou qu) := by simp [Cs6, ← hv_, go_sem]
      have ppl : w11.heap.size < v12.heap.size := by simp [← hv_]
      clear hv_
      go_wp2_with fail
      refine (OB h0 g0).mono ?_
      rintro e w13 ⟨bw, Aw, nw, cw, Bw, mw, dw, pw, Vw, rw, kw, Uw, ow, qw, rfl, ⟨hw, gw⟩, b⟩
      replace h0 := h0.on b
      replace g0 := g0.on b
      replace hxs := hxs.on b
      replace gxs_ := gxs_.on b
      replace hys := hys.on b
      replace gys_ := gys_.on b
      replace hu := hu.on b
      replace gu := gu.on b
      rewrite [cR b pal] at pa0 pa1 pa2 pa3 pa4 pa5
      replace pal := lK b pal
      rewrite [cR b pbl] at pb0 pb1 pb2 pb3 pb4 pb5
      replace pbl := lK b pbl
      rewrite [cR b pfl] at pf0 pf1 pf2 pf3
      replace pfl := lK b pfl
      rewrite [cR b xsl] at xs0 xs1 xs2 xs3 xs4 xs5
      replace xsl := lK b xsl
      rewrite [cR b ysl] at ys0 ys1 ys2 ys3 ys4 ys5
      replace ysl := lK b ysl
      rewrite [cR b ppl] at pp0 pp1 pp2 pp3 pp4 pp5
      replace ppl := lK b ppl
      replace cc := bK cc b
      clear b
      go_wp2_with fail
      generalize hv_ : w13.alloc (.cells #[.bool bw, .slice Aw nw cw, .slice Bw mw dw, .bool pw, .slice Vw rw kw, .slice Uw ow qw] 29) = v14
      have bA : Below w13.heap.size w13 v14 := by rw [← hv_]; exact below_one _ _
      replace h0 := h0.on bA
      replace g0 := g0.on bA
      replace hxs := hxs.on bA
      replace gxs_ := gxs_.on bA
      replace hys := hys.on bA
      replace gys_ := gys_.on bA
      replace hu := hu.on bA
      replace gu := gu.on bA
      replace hw := hw.on bA
      replace gw := gw.on bA
      rewrite [cR bA pal] at pa0 pa1 pa2 pa3 pa4 pa5
      replace pal := lK bA pal
      rewrite [cR bA pbl] at pb0 pb1 pb2 pb3 pb4 pb5
      replace pbl := lK bA pbl
      rewrite [cR bA pfl] at pf0 pf1 pf2 pf3
      replace pfl := lK bA pfl
      rewrite [cR bA xsl] at xs0 xs1 xs2 xs3 xs4 xs5
      replace xsl := lK bA xsl
      rewrite [cR bA ysl] at ys0 ys1 ys2 ys3 ys4 ys5
      replace ysl := lK bA ysl
      rewrite [cR bA ppl] at pp0 pp1 pp2 pp3 pp4 pp5
      replace ppl := lK bA ppl
      replace cc := bK cc bA
      clear bA
      obtain ⟨qz0, qz1, qz2, qz3, qz4, qz5⟩ : Cs6 v14 w13.heap.size (.bool bw) (.slice Aw nw cw) (.slice Bw mw dw) (.bool pw) (.slice Vw rw kw) (.slice Uw ow qw) := by simp [Cs6, ← hv_, go_sem]
      have qzl : w13.heap.size < v14.heap.size := by simp [← hv_]
      clear hv_
      go_wp2_with fail
      have bD : Below v14.heap.size v14 v14.drew := below_drewN (Below.refl _ v14) 1
      replace h0 := h0.on bD
      replace g0 := g0.on bD
      replace hxs := hxs.on bD
      replace gxs_ := gxs_.on bD
      replace hys := hys.on bD
      replace gys_ := gys_.on bD
      replace hu := hu.on bD
      replace gu := gu.on bD
      replace hw := hw.on bD
      replace gw := gw.on bD
      rewrite [cR bD pal] at pa0 pa1 pa2 pa3 pa4 pa5
      replace pal := lK bD pal
      rewrite [cR bD pbl] at pb0 pb1 pb2 pb3 pb4 pb5
      replace pbl := lK bD pbl
      rewrite [cR bD pfl] at pf0 pf1 pf2 pf3
      replace pfl := lK bD pfl
      rewrite [cR bD xsl] at xs0 xs1 xs2 xs3 xs4 xs5
      replace xsl := lK bD xsl
      rewrite [cR bD ysl] at ys0 ys1 ys2 ys3 ys4 ys5
      replace ysl := lK bD ysl
      rewrite [cR bD ppl] at pp0 pp1 pp2 pp3 pp4 pp5
      replace ppl := lK bD ppl
      rewrite [cR bD qzl] at qz0 qz1 qz2 qz3 qz4 qz5
      replace qzl := lK bD qzl
      replace cc := bK cc bD
      clear bD
      refine wp_region_held_drew (S := fun w' => w'.cell? ⟨w.heap.size, 0, none⟩ = some (.bool b0) ∧ w'.cell? ⟨w.heap.size, 1, none⟩ = some (.slice A0 n0 c0) ∧ w'.cell? ⟨w.heap.size, 2, none⟩ = some (.slice B0 m0 d0) ∧ w'.cell? ⟨w.heap.size, 3, none⟩ = some (.bool p0) ∧ w'.cell? ⟨w.heap.size, 4, none⟩ = some (.slice V0 r0 k0) ∧ w'.cell? ⟨w.heap.size, 5, none⟩ = some (.slice U0 o0 q0) ∧ w'.cell? ⟨w.heap.size + 1, 0, none⟩ = some (.bool b1) ∧ w'.cell? ⟨w.heap.size + 1, 1, none⟩ = some (.slice A1 n1 c1) ∧ w'.cell? ⟨w.heap.size + 1, 2, none⟩ = some (.slice B1 m1 d1) ∧ w'.cell? ⟨w.heap.size + 1, 3, none⟩ = some (.bool p1) ∧ w'.cell? ⟨w.heap.size + 1, 4, none⟩ = some (.slice V1 r1 k1) ∧ w'.cell? ⟨w.heap.size + 1, 5, none⟩ = some (.slice U1 o1 q1) ∧ w'.cell? ⟨w.heap.size + 1 + 1, 0, none⟩ = some (.int .u8 f0) ∧ w'.cell? ⟨w.heap.size + 1 + 1, 1, none⟩ = some (.int .u8 f1) ∧ w'.cell? ⟨w.heap.size + 1 + 1, 2, none⟩ = some (.int .u8 f2) ∧ w'.cell? ⟨w.heap.size + 1 + 1, 3, none⟩ = some (.int .u8 f3) ∧ w'.cell? ⟨gxs, 0, none⟩ = some (.bool bxs) ∧ w'.cell? ⟨gxs, 1, none⟩ = some (.slice Axs nxs cxs) ∧ w'.cell? ⟨gxs, 2, none⟩ = some (.slice Bxs mxs dxs) ∧ w'.cell? ⟨gxs, 3, none⟩ = some (.bool pxs) ∧ w'.cell? ⟨gxs, 4, none⟩ = some (.slice Vxs rxs kxs) ∧ w'.cell? ⟨gxs, 5, none⟩ = some (.slice Uxs oxs qxs) ∧ w'.cell? ⟨gys, 0, none⟩ = some (.bool bys) ∧ w'.cell? ⟨gys, 1, none⟩ = some (.slice Ays nys cys) ∧ w'.cell? ⟨gys, 2, none⟩ = some (.slice Bys mys dys) ∧ w'.cell? ⟨gys, 3, none⟩ = some (.bool pys) ∧ w'.cell? ⟨gys, 4, none⟩ = some (.slice Vys rys kys) ∧ w'.cell? ⟨gys, 5, none⟩ = some (.slice Uys oys qys) ∧ w'.cell? ⟨w11.heap.size, 0, none⟩ = some (.bool bu) ∧ w'.cell? ⟨w11.heap.size, 1, none⟩ = some (.slice Au nu cu) ∧ w'.cell? ⟨w11.heap.size, 2, none⟩ = some (.slice Bu mu du) ∧ w'.cell? ⟨w11.heap.size, 3, none⟩ = some (.bool pu) ∧ w'.cell? ⟨w11.heap.size, 4, none⟩ = some (.slice Vu ru ku) ∧ w'.cell? ⟨w11.heap.size, 5, none⟩ = some (.slice Uu ou qu) ∧ w'.cell? ⟨w13.heap.size, 0, none⟩ = some (.bool bw) ∧ w'.cell? ⟨w13.heap.size, 1, none⟩ = some (.slice Aw nw cw) ∧ w'.cell? ⟨w13.heap.size, 2, none⟩ = some (.slice Bw mw dw) ∧ w'.cell? ⟨w13.heap.size, 3, none⟩ = some (.bool pw) ∧ w'.cell? ⟨w13.heap.size, 4, none⟩ = some (.slice Vw rw kw) ∧ w'.cell? ⟨w13.heap.size, 5, none⟩ = some (.slice Uw ow qw)) (by kernel_rfl) ?_ (fun hHeld => ?_)
      · exact ⟨pa0, pa1, pa2, pa3, pa4, pa5, pb0, pb1, pb2, pb3, pb4, pb5, pf0, pf1, pf2, pf3, xs0, xs1, xs2, xs3, xs4, xs5, ys0, ys1, ys2, ys3, ys4, ys5, pp0, pp1, pp2, pp3, pp4, pp5, qz0, qz1, qz2, qz3, qz4, qz5⟩
      refine wpAnyH_ready (rs := [0]) (by kernel_rfl) (by simp) ?_
      refine AllReadyH.cons rfl (fun K hK => ?_) AllReadyH.nil
      (try simp only [pT])
      rw [if_pos (by rfl)]
      go_simp
      go_at_call 11
      refine (alive7_any _).mono ?_
      rintro e w15 ⟨rfl, b⟩
      replace h0 := h0.on b
      replace g0 := g0.on b
      replace hxs := hxs.on b
      replace gxs_ := gxs_.on b
      replace hys := hys.on b
      replace gys_ := gys_.on b
      replace hu := hu.on b
      replace gu := gu.on b
      replace hw := hw.on b
      replace gw := gw.on b
      rewrite [cR b pal] at pa0 pa1 pa2 pa3 pa4 pa5
      replace pal := lK b pal
      rewrite [cR b pbl] at pb0 pb1 pb2 pb3 pb4 pb5
      replace pbl := lK b pbl
      rewrite [cR b pfl] at pf0 pf1 pf2 pf3
      replace pfl := lK b pfl
      rewrite [cR b xsl] at xs0 xs1 xs2 xs3 xs4 xs5
      replace xsl := lK b xsl
      rewrite [cR b ysl] at ys0 ys1 ys2 ys3 ys4 ys5
      replace ysl := lK b ysl
      rewrite [cR b ppl] at pp0 pp1 pp2 pp3 pp4 pp5
      replace ppl := lK b ppl
      rewrite [cR b qzl] at qz0 qz1 qz2 qz3 qz4 qz5
      replace qzl := lK b qzl
      replace cc := bK cc b
      clear b
      refine hK.out _ _ ?_ (fun hHeld => ?_)
      · exact ⟨pa0, pa1, pa2, pa3, pa4, pa5, pb0, pb1, pb2, pb3, pb4, pb5, pf0, pf1, pf2, pf3, xs0, xs1, xs2, xs3, xs4, xs5, ys0, ys1, ys2, ys3, ys4, ys5, pp0, pp1, pp2, pp3, pp4, pp5, qz0, qz1, qz2, qz3, qz4, qz5⟩
      clear hK K
      try simp only [Act.put, pT]
      refine wpAnyH_take (i := 1) (v := ?_) rfl (by kernel_rfl) (by kernel_rfl) (by kernel_rfl) (fun _ _ _ h => h) (Or.inl ⟨by rfl, ?_⟩) hHeld ?_
      rotate_left
      · (intro w hSw; (try dsimp only at hSw); go_simp; (try with_reducible rfl))
      try simp only [Act.put, pT]
      refine wpAnyH_take (i := 2) (v := ?_) rfl (by kernel_rfl) (by kernel_rfl) (by kernel_rfl) (fun _ _ _ h => h) (Or.inl ⟨by rfl, ?_⟩) hHeld ?_
      rotate_left
      · (intro w hSw; (try dsimp only at hSw); go_simp; (try with_reducible rfl))
      try simp only [Act.put, pT]
      refine wpAnyH_take (i := 3) (v := ?_) rfl (by kernel_rfl) (by kernel_rfl) (by kernel_rfl) (fun _ _ _ h => h) (Or.inl ⟨by rfl, ?_⟩) hHeld ?_
      rotate_left
      · (intro w hSw; (try dsimp only at hSw); go_simp; (try with_reducible rfl))
      try simp only [Act.put, pT]
      refine wpAnyH_take (i := 4) (v := ?_) rfl (by kernel_rfl) (by kernel_rfl) (by kernel_rfl) (fun _ _ _ h => h) (Or.inl ⟨by rfl, ?_⟩) hHeld ?_
      rotate_left
      · (intro w hSw; (try dsimp only at hSw); go_simp; (try with_reducible rfl))
      try simp only [Act.put, pT]
      refine wpAnyH_take (i := 5) (v := ?_) rfl (by kernel_rfl) (by kernel_rfl) (by kernel_rfl) (fun _ _ _ h => h) (Or.inl ⟨by rfl, ?_⟩) hHeld ?_
      rotate_left
      · (intro w hSw; (try dsimp only at hSw); go_simp; (try with_reducible rfl))
      try simp only [Act.put, pT]
      refine wpAnyH_take (i := 6) (v := ?_) rfl (by kernel_rfl) (by kernel_rfl) (by kernel_rfl) (fun _ _ _ h => h) (Or.inl ⟨by rfl, ?_⟩) hHeld ?_
      rotate_left
      · (intro w hSw; (try dsimp only at hSw); go_simp; (try with_reducible rfl))
      try simp only [Act.put, pT]
      refine wpAnyH_take (i := 7) (v := ?_) rfl (by kernel_rfl) (by kernel_rfl) (by kernel_rfl) (fun _ _ _ h => h) (Or.inl ⟨by rfl, ?_⟩) hHeld ?_
      rotate_left
      · (intro w hSw; (try dsimp only at hSw); go_simp; (try with_reducible rfl))
      try simp only [Act.put, pT]
      refine wpAnyH_take (i := 8) (v := ?_) rfl (by kernel_rfl) (by kernel_rfl) (by kernel_rfl) (fun _ _ _ h => h) (Or.inl ⟨by rfl, ?_⟩) hHeld ?_
      rotate_left
      · (intro w hSw; (try dsimp only at hSw); go_simp; (try with_reducible rfl))
      try simp only [Act.put, pT]
      refine wpAnyH_take (i := 9) (v := ?_) rfl (by kernel_rfl) (by kernel_rfl) (by kernel_rfl) (fun _ _ _ h => h) (Or.inl ⟨by rfl, ?_⟩) hHeld ?_
      rotate_left
      · (intro w hSw; (try dsimp only at hSw); go_simp; (try with_reducible rfl))
      try simp only [Act.put, pT]
      refine wpAnyH_take (i := 10) (v := ?_) rfl (by kernel_rfl) (by kernel_rfl) (by kernel_rfl) (fun _ _ _ h => h) (Or.inl ⟨by rfl, ?_⟩) hHeld ?_
      rotate_left
      · (intro w hSw; (try dsimp only at hSw); go_simp; (try with_reducible rfl))
      try simp only [Act.put, pT]
      refine wpAnyH_take (i := 11) (v := ?_) rfl (by kernel_rfl) (by kernel_rfl) (by kernel_rfl) (fun _ _ _ h => h) (Or.inl ⟨by rfl, ?_⟩) hHeld ?_
      rotate_left
      · (intro w hSw; (try dsimp only at hSw); go_simp; (try with_reducible rfl))
      try simp only [Act.put, pT]
      refine wpAnyH_ready (rs := [12]) (by kernel_rfl) (by simp) ?_
      refine AllReadyH.cons rfl (fun K hK => ?_) AllReadyH.nil
      (try simp only [pT])
      rw [if_pos (by rfl)]
      go_simp
      go_at_call 21
      refine (stin_N hu gu (zpl.le (by omega)) (zph.le (by omega)) hw gw (zql.le (by omega)) (zqh.le (by omega)) true HD.out).mono ?_
      rintro e w16 ⟨rfl, b⟩
      replace h0 := h0.on b
      replace g0 := g0.on b
      replace hxs := hxs.on b
      replace gxs_ := gxs_.on b
      replace hys := hys.on b
      replace gys_ := gys_.on b
      replace hu := hu.on b
      replace gu := gu.on b
      replace hw := hw.on b
      replace gw := gw.on b
      rewrite [cR b pal] at pa0 pa1 pa2 pa3 pa4 pa5
      replace pal := lK b pal
      rewrite [cR b pbl] at pb0 pb1 pb2 pb3 pb4 pb5
      replace pbl := lK b pbl
      rewrite [cR b pfl] at pf0 pf1 pf2 pf3
      replace pfl := lK b pfl
      rewrite [cR b xsl] at xs0 xs1 xs2 xs3 xs4 xs5
      replace xsl := lK b xsl
      rewrite [cR b ysl] at ys0 ys1 ys2 ys3 ys4 ys5
      replace ysl := lK b ysl
      rewrite [cR b ppl] at pp0 pp1 pp2 pp3 pp4 pp5
      replace ppl := lK b ppl
      rewrite [cR b qzl] at qz0 qz1 qz2 qz3 qz4 qz5
      replace qzl := lK b qzl
      replace cc := bK cc b
      clear b
      refine hK.out _ _ ?_ (fun hHeld => ?_)
      · exact ⟨pa0, pa1, pa2, pa3, pa4, pa5, pb0, pb1, pb2, pb3, pb4, pb5, pf0, pf1, pf2, pf3, xs0, xs1, xs2, xs3, xs4, xs5, ys0, ys1, ys2, ys3, ys4, ys5, pp0, pp1, pp2, pp3, pp4, pp5, qz0, qz1, qz2, qz3, qz4, qz5⟩
      clear hK K
      try simp only [Act.put, pT]
      refine wpAnyH_take (i := 13) (v := ?_) rfl (by kernel_rfl) (by kernel_rfl) (by kernel_rfl) (fun _ _ _ h => h) (Or.inl ⟨by rfl, ?_⟩) hHeld ?_
      rotate_left
      · (intro w hSw; (try dsimp only at hSw); go_simp; (try with_reducible rfl))
      try simp only [Act.put, pT]
      refine wpAnyH_take (i := 14) (v := ?_) rfl (by kernel_rfl) (by kernel_rfl) (by kernel_rfl) (fun _ _ _ h => h) (Or.inl ⟨by rfl, ?_⟩) hHeld ?_
      rotate_left
      · (intro w hSw; (try dsimp only at hSw); go_simp; (try with_reducible rfl))
      try simp only [Act.put, pT]
      refine wpAnyH_take (i := 15) (v := ?_) rfl (by kernel_rfl) (by kernel_rfl) (by kernel_rfl) (fun _ _ _ h => h) (Or.inl ⟨by rfl, ?_⟩) hHeld ?_
      rotate_left
      · (intro w hSw; (try dsimp only at hSw); go_simp; (try with_reducible rfl))
      try simp only [Act.put, pT]
      refine wpAnyH_take (i := 16) (v := ?_) rfl (by kernel_rfl) (by kernel_rfl) (by kernel_rfl) (fun _ _ _ h => h) (Or.inl ⟨by rfl, ?_⟩) hHeld ?_
      rotate_left
      · (intro w hSw; (try dsimp only at hSw); go_simp; (try with_reducible rfl))
      try simp only [Act.put, pT]
      refine wpAnyH_take (i := 18) (v := ?_) rfl (by kernel_rfl) (by kernel_rfl) (by kernel_rfl) (fun _ _ _ h => h) (Or.inl ⟨by rfl, ?_⟩) hHeld ?_
      rotate_left
      · (intro w hSw; (try dsimp only at hSw); go_simp; (try with_reducible rfl))
      try simp only [Act.put, pT]
      refine wpAnyH_ready (rs := [17]) (by kernel_rfl) (by simp) ?_
      refine AllReadyH.cons rfl (fun K hK => ?_) AllReadyH.nil
      (try simp only [pT])
      rw [if_pos (by rfl)]
      go_simp
      go_at_call 15
      refine (iof_N hys (zcl.le (by omega))).mono ?_
      rintro e w17 ⟨bv, Av, nv, cv, Bv, mv, dv, pv, Vv, rv, kv, Uv, ov, qv, rfl, ⟨hv, gv⟩, b⟩
      replace h0 := h0.on b
      replace g0 := g0.on b
      replace hxs := hxs.on b
      replace gxs_ := gxs_.on b
      replace hys := hys.on b
      replace gys_ := gys_.on b
      replace hu := hu.on b
      replace gu := gu.on b
      replace hw := hw.on b
      replace gw := gw.on b
      rewrite [cR b pal] at pa0 pa1 pa2 pa3 pa4 pa5
      replace pal := lK b pal
      rewrite [cR b pbl] at pb0 pb1 pb2 pb3 pb4 pb5
      replace pbl := lK b pbl
      rewrite [cR b pfl] at pf0 pf1 pf2 pf3
      replace pfl := lK b pfl
      rewrite [cR b xsl] at xs0 xs1 xs2 xs3 xs4 xs5
      replace xsl := lK b xsl
      rewrite [cR b ysl] at ys0 ys1 ys2 ys3 ys4 ys5
      replace ysl := lK b ysl
      rewrite [cR b ppl] at pp0 pp1 pp2 pp3 pp4 pp5
      replace ppl := lK b ppl
      rewrite [cR b qzl] at qz0 qz1 qz2 qz3 qz4 qz5
      replace qzl := lK b qzl
      replace cc := bK cc b
      clear b
      refine hK.out _ _ ?_ (fun hHeld => ?_)
      · exact ⟨pa0, pa1, pa2, pa3, pa4, pa5, pb0, pb1, pb2, pb3, pb4, pb5, pf0, pf1, pf2, pf3, xs0, xs1, xs2, xs3, xs4, xs5, ys0, ys1, ys2, ys3, ys4, ys5, pp0, pp1, pp2, pp3, pp4, pp5, qz0, qz1, qz2, qz3, qz4, qz5⟩
      clear hK K
      try simp only [Act.put, pT]
      refine wpAnyH_ready (rs := [19]) (by kernel_rfl) (by simp) ?_
      refine AllReadyH.cons rfl (fun K hK => ?_) AllReadyH.nil
      (try simp only [pT])
      rw [if_pos (by rfl)]
      go_simp
      go_at_call 20
      refine (iin_N hv gv (zcl.le (by omega)) (zcl.le (by omega)) hys gys_ (zcl.le (by omega)) (zch.le (by omega)) true HE.out).mono ?_
      rintro e w18 ⟨rfl, b⟩
      replace h0 := h0.on b
      replace g0 := g0.on b
      replace hxs := hxs.on b
      replace gxs_ := gxs_.on b
      replace hys := hys.on b
      replace gys_ := gys_.on b
      replace hu := hu.on b
      replace gu := gu.on b
      replace hw := hw.on b
      replace gw := gw.on b
      replace hv := hv.on b
      replace gv := gv.on b
      rewrite [cR b pal] at pa0 pa1 pa2 pa3 pa4 pa5
      replace pal := lK b pal
      rewrite [cR b pbl] at pb0 pb1 pb2 pb3 pb4 pb5
      replace pbl := lK b pbl
      rewrite [cR b pfl] at pf0 pf1 pf2 pf3
      replace pfl := lK b pfl
      rewrite [cR b xsl] at xs0 xs1 xs2 xs3 xs4 xs5
      replace xsl := lK b xsl
      rewrite [cR b ysl] at ys0 ys1 ys2 ys3 ys4 ys5
      replace ysl := lK b ysl
      rewrite [cR b ppl] at pp0 pp1 pp2 pp3 pp4 pp5
      replace ppl := lK b ppl
      rewrite [cR b qzl] at qz0 qz1 qz2 qz3 qz4 qz5
      replace qzl := lK b qzl
      replace cc := bK cc b
      clear b
      refine hK.out _ _ ?_ (fun hHeld => ?_)
      · exact ⟨pa0, pa1, pa2, pa3, pa4, pa5, pb0, pb1, pb2, pb3, pb4, pb5, pf0, pf1, pf2, pf3, xs0, xs1, xs2, xs3, xs4, xs5, ys0, ys1, ys2, ys3, ys4, ys5, pp0, pp1, pp2, pp3, pp4, pp5, qz0, qz1, qz2, qz3, qz4, qz5⟩
      clear hK K
      try simp only [Act.put, pT]
      refine wpAnyH_take (i := 20) (v := ?_) rfl (by kernel_rfl) (by kernel_rfl) (by kernel_rfl) (fun _ _ _ h => h) (Or.inl ⟨by rfl, ?_⟩) hHeld ?_
      rotate_left
      · (intro w hSw; (try dsimp only at hSw); go_simp; (try with_reducible rfl))
      try simp only [Act.put, pT]
      refine wpAnyH_take (i := 21) (v := ?_) rfl (by kernel_rfl) (by kernel_rfl) (by kernel_rfl) (fun _ _ _ h => h) (Or.inl ⟨by rfl, ?_⟩) hHeld ?_
      rotate_left
      · (intro w hSw; (try dsimp only at hSw); go_simp; (try with_reducible rfl))
      try simp only [Act.put, pT]
      refine wpAnyH_done (by kernel_rfl) ?_ _
      clear hHeld
      go_wp2_with fail
      go_ret
      exact ⟨rfl, cc⟩

end Go.Proofs.YtanpklbconflmaaGreat
