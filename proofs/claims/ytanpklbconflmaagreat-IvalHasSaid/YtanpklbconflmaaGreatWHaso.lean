/-
  A way of IvalHas.
-/
import Derived.Test.YtanpklbconflmaaGreatFO
import Derived.Test.YtanpklbconflmaaGreatA3
namespace Go.Proofs.YtanpklbconflmaaGreat
set_option maxRecDepth 100000
open Go.RowKit
set_option linter.unusedVariables false
set_option linter.unusedSimpArgs false

set_option maxHeartbeats 8000000 in
theorem IvalHas_ok {w : World} {b0 p0 : Bool} {A0 B0 V0 U0 : Option Addr} {n0 c0 m0 d0 r0 k0 o0 q0 : Nat} {b1 p1 : Bool} {A1 B1 V1 U1 : Option Addr} {n1 c1 m1 d1 r1 k1 o1 q1 : Nat} {f0 f1 : Int} {x0 y0 : Rat} (h0 : Rt w b0 A0 n0 c0 B0 m0 d0 x0) (g0 : Rt w p0 V0 r0 k0 U0 o0 q0 y0) (s0 : Sz x0 2) (t0 : Sz y0 2) {x1 y1 : Rat} (h1 : Rt w b1 A1 n1 c1 B1 m1 d1 x1) (g1 : Rt w p1 V1 r1 k1 U1 o1 q1 y1) (s1 : Sz x1 2) (t1 : Sz y1 2) (G0 : ∀ W : World, Below w.heap.size w W → Calls Tryz.prog 17 #[.agg #[.bool b0, .slice A0 n0 c0, .slice B0 m0 d0, .bool p0, .slice V0 r0 k0, .slice U0 o0 q0], .int .i64 2] W (GotV W (.bool true))) (G1 : ∀ W : World, Below w.heap.size w W → Calls Tryz.prog 17 #[.agg #[.bool b1, .slice A1 n1 c1, .slice B1 m1 d1, .bool p1, .slice V1 r1 k1, .slice U1 o1 q1], .int .i64 2] W (GotV W (.bool true))) (u0 : 0 ≤ f0) (u1 : f0 ≤ 255) (u2 : 0 ≤ f1) (u3 : f1 ≤ 255) (e0 : x0 ≤ y0) (e1 : x1 ≤ y1) (hz : decide (x1 ≤ ((0 : Int) : Rat) ∧ ((0 : Int) : Rat) ≤ y1) = false) :
    Calls Tryz.prog 6 #[.agg #[.bool b0, .slice A0 n0 c0, .slice B0 m0 d0, .bool p0, .slice V0 r0 k0, .slice U0 o0 q0], .agg #[.bool b1, .slice A1 n1 c1, .slice B1 m1 d1, .bool p1, .slice V1 r1 k1, .slice U1 o1 q1], .agg #[.int .u8 f0, .int .u8 f1]] w (fun e w' => e = .returned (.bool true) ∧ Below w.heap.size w w') := by
  have ew : IntKind.i64.wrap f0 = f0 := IntWalk.i64_in _ (by omega)
  obtain ⟨a1, a2⟩ := far_ends e0 u0 u1
  obtain ⟨a3, a4⟩ := far_ends e1 u2 u3
  have sx_ := far_sz s0 t0 u0 u1
  have sy_ := far_sz s1 t1 u2 u3
  obtain ⟨xv, q1_⟩ : ∃ r, x0 + (y0 - x0) * mkRat f0 255 = r := ⟨_, rfl⟩
  obtain ⟨yv, q2_⟩ : ∃ r, x1 + (y1 - x1) * mkRat f1 255 = r := ⟨_, rfl⟩
  rw [q1_] at a1 a2 sx_
  rw [q2_] at a3 a4 sy_
  have OX : ∀ {W : World} {b0 p0 : Bool} {A0 B0 V0 U0 : Option Addr} {n0 c0 m0 d0 r0 k0 o0 q0 : Nat}, Rt W b0 A0 n0 c0 B0 m0 d0 x0 → Rt W p0 V0 r0 k0 U0 o0 q0 y0 → Calls Tryz.prog 32 #[.agg #[.bool b0, .slice A0 n0 c0, .slice B0 m0 d0, .bool p0, .slice V0 r0 k0, .slice U0 o0 q0], .int .u8 f0] W (GotRt W xv) := fun a b => by rw [← q1_]; exact of7_N a b s0 t0 u0 u1
  have OY : ∀ {W : World} {b1 p1 : Bool} {A1 B1 V1 U1 : Option Addr} {n1 c1 m1 d1 r1 k1 o1 q1 : Nat}, Rt W b1 A1 n1 c1 B1 m1 d1 x1 → Rt W p1 V1 r1 k1 U1 o1 q1 y1 → Calls Tryz.prog 32 #[.agg #[.bool b1, .slice A1 n1 c1, .slice B1 m1 d1, .bool p1, .slice V1 r1 k1, .slice U1 o1 q1], .int .u8 f1] W (GotRt W yv) := fun a b => by rw [← q2_]; exact of7_N a b s1 t1 u2 u3
  clear q1_ q2_
  have sa_ := s0.add s1
  have sb_ := t0.add t1
  have HA : Hid (decide (x0 + x1 ≤ xv + yv ∧ xv + yv ≤ y0 + y1) = true) := Lib.hid (decide_eq_true (by constructor <;> grind))
  have HC : Hid (decide (x0 + x1 ≤ y0 + y1) = true) := Lib.hid (decide_eq_true (by grind))
  obtain ⟨sm_, sn_⟩ := mlo_sz s0 t0 s1 t1
  have HB : Hid (decide (mlo x0 y0 x1 y1 ≤ xv * yv ∧ xv * yv ≤ mhi x0 y0 x1 y1) = true) := Lib.hid (decide_eq_true (mlo_has a1 a2 a3 a4))
  have HD : Hid (decide (mlo x0 y0 x1 y1 ≤ mhi x0 y0 x1 y1) = true) := Lib.hid (decide_eq_true (mlo_mhi _ _ _ _))
  have lmh := mlo_mhi x0 y0 x1 y1
  obtain ⟨hx, hy, hs⟩ := nz_ends e1 (of_decide_eq_false hz)
  have one : Sz ((1 : Int) : Rat) 1 := sz_of (len_one (by decide))
  obtain ⟨sd_, se_⟩ := mlo_sz s0 t0 (one.div t1 hy) (one.div s1 hx)
  have kq := mlo_div a1 a2 a3 a4 hs
  have eo : ((1 : Int) : Rat) = 1 := rfl
  rw [← eo] at kq
  have hyv : yv.num ≠ 0 := fun h => by have := rat_zero h; grind
  have sz_ := sx_.div sy_ hyv
  obtain ⟨zv, q7_⟩ : ∃ r, xv / yv = r := ⟨_, rfl⟩
  rw [q7_] at kq sz_
  have kr := Rat.le_trans kq.1 kq.2
  obtain ⟨dl, q5_⟩ : ∃ r, mlo x0 y0 (((1 : Int) : Rat) / y1) (((1 : Int) : Rat) / x1) = r := ⟨_, rfl⟩
  obtain ⟨dh, q6_⟩ : ∃ r, mhi x0 y0 (((1 : Int) : Rat) / y1) (((1 : Int) : Rat) / x1) = r := ⟨_, rfl⟩
  rw [q5_] at sd_ kq kr
  rw [q6_] at se_ kq kr
  have DI : ∀ {W : World} {b0 p0 : Bool} {A0 B0 V0 U0 : Option Addr} {n0 c0 m0 d0 r0 k0 o0 q0 : Nat} {b1 p1 : Bool} {A1 B1 V1 U1 : Option Addr} {n1 c1 m1 d1 r1 k1 o1 q1 : Nat}, Rt W b0 A0 n0 c0 B0 m0 d0 x0 → Rt W p0 V0 r0 k0 U0 o0 q0 y0 → Rt W b1 A1 n1 c1 B1 m1 d1 x1 → Rt W p1 V1 r1 k1 U1 o1 q1 y1 → Calls Tryz.prog 22 #[.agg #[.bool b0, .slice A0 n0 c0, .slice B0 m0 d0, .bool p0, .slice V0 r0 k0, .slice U0 o0 q0], .agg #[.bool b1, .slice A1 n1 c1, .slice B1 m1 d1, .bool p1, .slice V1 r1 k1, .slice U1 o1 q1]] W (GotSp W dl dh 0) := fun a b c d => by rw [← q5_, ← q6_]; exact idiv_N a b (s0.le (by omega)) (t0.le (by omega)) c d (s1.le (by omega)) (t1.le (by omega)) hx hy hz
  have DR : ∀ {W : World} {b0 : Bool} {A0 B0 : Option Addr} {n0 c0 m0 d0 : Nat} {b1 : Bool} {A1 B1 : Option Addr} {n1 c1 m1 d1 : Nat}, Rt W b0 A0 n0 c0 B0 m0 d0 xv → Rt W b1 A1 n1 c1 B1 m1 d1 yv → Calls Tryz.prog 35 #[.agg #[.bool b0, .slice A0 n0 c0, .slice B0 m0 d0], .agg #[.bool b1, .slice A1 n1 c1, .slice B1 m1 d1]] W (GotRp W zv 0) := fun a b => by rw [← q7_]; exact rtdiv_N a (sx_.le (by omega)) b (sy_.le (by omega)) hyv
  have HG : Hid (decide (dl ≤ zv ∧ zv ≤ dh) = true) := Lib.hid (decide_eq_true kq)
  have HH : Hid (decide (dl ≤ dh) = true) := Lib.hid (decide_eq_true kr)
  clear q5_ q6_ q7_ kq kr hs eo one hx hy hyv
  obtain ⟨ml, q3_⟩ : ∃ r, mlo x0 y0 x1 y1 = r := ⟨_, rfl⟩
  obtain ⟨mh, q4_⟩ : ∃ r, mhi x0 y0 x1 y1 = r := ⟨_, rfl⟩
  rw [q3_, q4_] at HB HD lmh
  rw [q3_] at sm_
  rw [q4_] at sn_
  have MI : ∀ {W : World} {b0 p0 : Bool} {A0 B0 V0 U0 : Option Addr} {n0 c0 m0 d0 r0 k0 o0 q0 : Nat} {b1 p1 : Bool} {A1 B1 V1 U1 : Option Addr} {n1 c1 m1 d1 r1 k1 o1 q1 : Nat}, Rt W b0 A0 n0 c0 B0 m0 d0 x0 → Rt W p0 V0 r0 k0 U0 o0 q0 y0 → Rt W b1 A1 n1 c1 B1 m1 d1 x1 → Rt W p1 V1 r1 k1 U1 o1 q1 y1 → Calls Tryz.prog 26 #[.agg #[.bool b0, .slice A0 n0 c0, .slice B0 m0 d0, .bool p0, .slice V0 r0 k0, .slice U0 o0 q0], .agg #[.bool b1, .slice A1 n1 c1, .slice B1 m1 d1, .bool p1, .slice V1 r1 k1, .slice U1 o1 q1]] W (GotSt W ml mh) := fun a b c d => by rw [← q3_, ← q4_]; exact imul_N a b (s0.le (by omega)) (t0.le (by omega)) c d (s1.le (by omega)) (t1.le (by omega))
  obtain ⟨sl, q8_⟩ : ∃ r, x0 + x1 = r := ⟨_, rfl⟩
  obtain ⟨sh, q9_⟩ : ∃ r, y0 + y1 = r := ⟨_, rfl⟩
  rw [q8_] at HA HC sa_
  rw [q9_] at HA HC sb_
  have AI : ∀ {W : World} {b0 p0 : Bool} {A0 B0 V0 U0 : Option Addr} {n0 c0 m0 d0 r0 k0 o0 q0 : Nat} {b1 p1 : Bool} {A1 B1 V1 U1 : Option Addr} {n1 c1 m1 d1 r1 k1 o1 q1 : Nat}, Rt W b0 A0 n0 c0 B0 m0 d0 x0 → Rt W p0 V0 r0 k0 U0 o0 q0 y0 → Rt W b1 A1 n1 c1 B1 m1 d1 x1 → Rt W p1 V1 r1 k1 U1 o1 q1 y1 → Calls Tryz.prog 24 #[.agg #[.bool b0, .slice A0 n0 c0, .slice B0 m0 d0, .bool p0, .slice V0 r0 k0, .slice U0 o0 q0], .agg #[.bool b1, .slice A1 n1 c1, .slice B1 m1 d1, .bool p1, .slice V1 r1 k1, .slice U1 o1 q1]] W (GotSt W sl sh) := fun a b c d => by rw [← q8_, ← q9_]; exact iadd_N a b (s0.le (by omega)) (t0.le (by omega)) c d (s1.le (by omega)) (t1.le (by omega))
  have jl : f0.toNat ≤ 500 := by omega
  have o1 := out_low ml f0.toNat
  have o2 := out_high mh f0.toNat
  have zl_ := bak_sz (flo_len (sm_.le (show 2 + 2 ≤ 10 by omega)) jl) (by omega) jl
  have zh_ := bak_sz (cei_len (sn_.le (show 2 + 2 ≤ 10 by omega)) jl) (by omega) jl
  obtain ⟨wl, qa_⟩ : ∃ r, bak (flo ml f0.toNat) f0.toNat = r := ⟨_, rfl⟩
  obtain ⟨wh, qb_⟩ : ∃ r, bak (cei mh f0.toNat) f0.toNat = r := ⟨_, rfl⟩
  rw [qa_] at o1 zl_
  rw [qb_] at o2 zh_
  have OI : ∀ {W : World} {b0 p0 : Bool} {A0 B0 V0 U0 : Option Addr} {n0 c0 m0 d0 r0 k0 o0 q0 : Nat}, Rt W b0 A0 n0 c0 B0 m0 d0 ml → Rt W p0 V0 r0 k0 U0 o0 q0 mh → Calls Tryz.prog 28 #[.agg #[.bool b0, .slice A0 n0 c0, .slice B0 m0 d0, .bool p0, .slice V0 r0 k0, .slice U0 o0 q0], .int .i64 f0] W (GotSp W wl wh 0) := fun a b => by rw [← qa_, ← qb_]; exact iout_N a b (sm_.le (by omega)) (sn_.le (by omega)) u0 (by omega)
  have HE : Hid (decide ((wl ≤ ml ∧ ml ≤ wh) ∧ (wl ≤ mh ∧ mh ≤ wh)) = true) := Lib.hid (decide_eq_true (by refine ⟨⟨o1, ?_⟩, ?_, o2⟩ <;> grind))
  have HF : Hid (decide (wl ≤ wh) = true) := Lib.hid (decide_eq_true (by grind))
  have HZ := Lib.hid hz
  obtain ⟨r0_, qc_⟩ : ∃ r, ((0 : Int) : Rat) = r := ⟨_, rfl⟩
  have C0 : ∀ W : World, Calls Tryz.prog 36 #[.int .i64 0] W (GotRt W r0_) := fun W => by rw [← qc_]; exact rtof_N W 0 (by unfold I64; omega)
  have s0_ : Sz r0_ 1 := by rw [← qc_]; exact sz_of (len_one (by decide))
  rw [qc_] at HZ
  have sxy := sx_.add sy_
  have sxm := sx_.mul sy_
  clear q3_ q4_ q8_ q9_ qa_ qb_ qc_ o1 o2 lmh jl a1 a2 a3 a4 hz e0 e1
  have cc := Below.refl w.heap.size w
  go_enter Tryz.func6, Tryz.ntmps6
  go_wp2_with fail
  generalize hv_ : ((w.alloc (.cells #[.bool b0, .slice A0 n0 c0, .slice B0 m0 d0, .bool p0, .slice V0 r0 k0, .slice U0 o0 q0] 29)).alloc (.cells #[.bool b1, .slice A1 n1 c1, .slice B1 m1 d1, .bool p1, .slice V1 r1 k1, .slice U1 o1 q1] 29)).alloc (.cells #[.int .u8 f0, .int .u8 f1] 43) = v1
  have bA : Below w.heap.size w v1 := by rw [← hv_]; exact ((((Below.refl _ w).alloc (by simp) _).alloc (by simp) _).alloc (by simp <;> omega) _)
  replace h0 := h0.on bA
  replace g0 := g0.on bA
  replace h1 := h1.on bA
  replace g1 := g1.on bA
  replace cc := bK cc bA
  clear bA
  obtain ⟨pa0, pa1, pa2, pa3, pa4, pa5⟩ : Cs6 v1 w.heap.size (.bool b0) (.slice A0 n0 c0) (.slice B0 m0 d0) (.bool p0) (.slice V0 r0 k0) (.slice U0 o0 q0) := by simp [Cs6, ← hv_, go_sem]
  have pal : w.heap.size < v1.heap.size := by simp [← hv_] <;> omega
  obtain ⟨pb0, pb1, pb2, pb3, pb4, pb5⟩ : Cs6 v1 (w.heap.size + 1) (.bool b1) (.slice A1 n1 c1) (.slice B1 m1 d1) (.bool p1) (.slice V1 r1 k1) (.slice U1 o1 q1) := by simp [Cs6, ← hv_, go_sem]
  have pbl : w.heap.size + 1 < v1.heap.size := by simp [← hv_] <;> omega
  obtain ⟨pf0, pf1⟩ : Cs2 v1 (w.heap.size + 1 + 1) (.int .u8 f0) (.int .u8 f1) := by simp [Cs2, ← hv_, go_sem]
  have pfl : w.heap.size + 1 + 1 < v1.heap.size := by simp [← hv_] <;> omega
  clear hv_
  refine (G0 _ cc).mono ?_
  rintro e w2 ⟨rfl, b⟩
  replace h0 := h0.on b
  replace g0 := g0.on b
  replace h1 := h1.on b
  replace g1 := g1.on b
  rewrite [cR b pal] at pa0 pa1 pa2 pa3 pa4 pa5
  replace pal := lK b pal
  rewrite [cR b pbl] at pb0 pb1 pb2 pb3 pb4 pb5
  replace pbl := lK b pbl
  rewrite [cR b pfl] at pf0 pf1
  replace pfl := lK b pfl
  replace cc := bK cc b
  clear b
  go_wp2_with fail
  refine (G1 _ cc).mono ?_
  rintro e w3 ⟨rfl, b⟩
  replace h0 := h0.on b
  replace g0 := g0.on b
  replace h1 := h1.on b
  replace g1 := g1.on b
  rewrite [cR b pal] at pa0 pa1 pa2 pa3 pa4 pa5
  replace pal := lK b pal
  rewrite [cR b pbl] at pb0 pb1 pb2 pb3 pb4 pb5
  replace pbl := lK b pbl
  rewrite [cR b pfl] at pf0 pf1
  replace pfl := lK b pfl
  replace cc := bK cc b
  clear b
  go_upto_region 3 with fail
  go_cut [7, 8] (fun ux uy wx => ∃ (gx gy : Nat) (bx : Bool) (Ax : Option Addr) (nx kx : Nat) (Cx : Option Addr) (mx dx : Nat) (bY : Bool) (Ay : Option Addr) (ny ky : Nat) (Cy : Option Addr) (my dy : Nat), ux = .pointer (some ⟨gx, 0, none⟩) ∧ uy = .pointer (some ⟨gy, 0, none⟩) ∧ BothR w3 wx gx gy bx Ax nx kx Cx mx dx bY Ay ny ky Cy my dy (xv) (yv))
  case first =>
    have BB0 : Below w3.heap.size w3 w3.drew := below_drewN (Below.refl _ w3) 1
    have BB1 : Below w3.heap.size w3 (w3.alloc (.cells #[.bool false, .slice none 0 0, .slice none 0 0] 27)).drew := below_drewN (below_one _ _) 1
    have BB2 : Below w3.heap.size w3 ((w3.alloc (.cells #[.bool false, .slice none 0 0, .slice none 0 0] 27)).alloc (.cells #[.bool false, .slice none 0 0, .slice none 0 0] 27)).drew := below_drewN (below_two _ _ _) 1
    go_region_held3 (fun w' => w'.cell? ⟨w.heap.size, 0, none⟩ = some (.bool b0) ∧ w'.cell? ⟨w.heap.size, 1, none⟩ = some (.slice A0 n0 c0) ∧ w'.cell? ⟨w.heap.size, 2, none⟩ = some (.slice B0 m0 d0) ∧ w'.cell? ⟨w.heap.size, 3, none⟩ = some (.bool p0) ∧ w'.cell? ⟨w.heap.size, 4, none⟩ = some (.slice V0 r0 k0) ∧ w'.cell? ⟨w.heap.size, 5, none⟩ = some (.slice U0 o0 q0) ∧ w'.cell? ⟨w.heap.size + 1, 0, none⟩ = some (.bool b1) ∧ w'.cell? ⟨w.heap.size + 1, 1, none⟩ = some (.slice A1 n1 c1) ∧ w'.cell? ⟨w.heap.size + 1, 2, none⟩ = some (.slice B1 m1 d1) ∧ w'.cell? ⟨w.heap.size + 1, 3, none⟩ = some (.bool p1) ∧ w'.cell? ⟨w.heap.size + 1, 4, none⟩ = some (.slice V1 r1 k1) ∧ w'.cell? ⟨w.heap.size + 1, 5, none⟩ = some (.slice U1 o1 q1) ∧ w'.cell? ⟨w.heap.size + 1 + 1, 0, none⟩ = some (.int .u8 f0) ∧ w'.cell? ⟨w.heap.size + 1 + 1, 1, none⟩ = some (.int .u8 f1))
      (first | with_reducible exact ⟨(cK qq pa0 pal), (cK qq pa1 pal), (cK qq pa2 pal), (cK qq pa3 pal), (cK qq pa4 pal), (cK qq pa5 pal), (cK qq pb0 pbl), (cK qq pb1 pbl), (cK qq pb2 pbl), (cK qq pb3 pbl), (cK qq pb4 pbl), (cK qq pb5 pbl), (cK qq pf0 pfl), (cK qq pf1 pfl)⟩ | with_reducible exact ⟨keep_alloc ((cK qq pa0 pal)), keep_alloc ((cK qq pa1 pal)), keep_alloc ((cK qq pa2 pal)), keep_alloc ((cK qq pa3 pal)), keep_alloc ((cK qq pa4 pal)), keep_alloc ((cK qq pa5 pal)), keep_alloc ((cK qq pb0 pbl)), keep_alloc ((cK qq pb1 pbl)), keep_alloc ((cK qq pb2 pbl)), keep_alloc ((cK qq pb3 pbl)), keep_alloc ((cK qq pb4 pbl)), keep_alloc ((cK qq pb5 pbl)), keep_alloc ((cK qq pf0 pfl)), keep_alloc ((cK qq pf1 pfl))⟩ | with_reducible exact ⟨keep_alloc (keep_alloc ((cK qq pa0 pal))), keep_alloc (keep_alloc ((cK qq pa1 pal))), keep_alloc (keep_alloc ((cK qq pa2 pal))), keep_alloc (keep_alloc ((cK qq pa3 pal))), keep_alloc (keep_alloc ((cK qq pa4 pal))), keep_alloc (keep_alloc ((cK qq pa5 pal))), keep_alloc (keep_alloc ((cK qq pb0 pbl))), keep_alloc (keep_alloc ((cK qq pb1 pbl))), keep_alloc (keep_alloc ((cK qq pb2 pbl))), keep_alloc (keep_alloc ((cK qq pb3 pbl))), keep_alloc (keep_alloc ((cK qq pb4 pbl))), keep_alloc (keep_alloc ((cK qq pb5 pbl))), keep_alloc (keep_alloc ((cK qq pf0 pfl))), keep_alloc (keep_alloc ((cK qq pf1 pfl)))⟩ | with_reducible exact ⟨((cell_putR (by omega)).trans (cK qq pa0 pal)), ((cell_putR (by omega)).trans (cK qq pa1 pal)), ((cell_putR (by omega)).trans (cK qq pa2 pal)), ((cell_putR (by omega)).trans (cK qq pa3 pal)), ((cell_putR (by omega)).trans (cK qq pa4 pal)), ((cell_putR (by omega)).trans (cK qq pa5 pal)), ((cell_putR (by omega)).trans (cK qq pb0 pbl)), ((cell_putR (by omega)).trans (cK qq pb1 pbl)), ((cell_putR (by omega)).trans (cK qq pb2 pbl)), ((cell_putR (by omega)).trans (cK qq pb3 pbl)), ((cell_putR (by omega)).trans (cK qq pb4 pbl)), ((cell_putR (by omega)).trans (cK qq pb5 pbl)), ((cell_putR (by omega)).trans (cK qq pf0 pfl)), ((cell_putR (by omega)).trans (cK qq pf1 pfl))⟩ | with_reducible exact ⟨keep_alloc (((cell_putR (by omega)).trans (cK qq pa0 pal))), keep_alloc (((cell_putR (by omega)).trans (cK qq pa1 pal))), keep_alloc (((cell_putR (by omega)).trans (cK qq pa2 pal))), keep_alloc (((cell_putR (by omega)).trans (cK qq pa3 pal))), keep_alloc (((cell_putR (by omega)).trans (cK qq pa4 pal))), keep_alloc (((cell_putR (by omega)).trans (cK qq pa5 pal))), keep_alloc (((cell_putR (by omega)).trans (cK qq pb0 pbl))), keep_alloc (((cell_putR (by omega)).trans (cK qq pb1 pbl))), keep_alloc (((cell_putR (by omega)).trans (cK qq pb2 pbl))), keep_alloc (((cell_putR (by omega)).trans (cK qq pb3 pbl))), keep_alloc (((cell_putR (by omega)).trans (cK qq pb4 pbl))), keep_alloc (((cell_putR (by omega)).trans (cK qq pb5 pbl))), keep_alloc (((cell_putR (by omega)).trans (cK qq pf0 pfl))), keep_alloc (((cell_putR (by omega)).trans (cK qq pf1 pfl)))⟩ | with_reducible exact ⟨((cell_putR (by omega)).trans ((cell_putR (by omega)).trans (cK qq pa0 pal))), ((cell_putR (by omega)).trans ((cell_putR (by omega)).trans (cK qq pa1 pal))), ((cell_putR (by omega)).trans ((cell_putR (by omega)).trans (cK qq pa2 pal))), ((cell_putR (by omega)).trans ((cell_putR (by omega)).trans (cK qq pa3 pal))), ((cell_putR (by omega)).trans ((cell_putR (by omega)).trans (cK qq pa4 pal))), ((cell_putR (by omega)).trans ((cell_putR (by omega)).trans (cK qq pa5 pal))), ((cell_putR (by omega)).trans ((cell_putR (by omega)).trans (cK qq pb0 pbl))), ((cell_putR (by omega)).trans ((cell_putR (by omega)).trans (cK qq pb1 pbl))), ((cell_putR (by omega)).trans ((cell_putR (by omega)).trans (cK qq pb2 pbl))), ((cell_putR (by omega)).trans ((cell_putR (by omega)).trans (cK qq pb3 pbl))), ((cell_putR (by omega)).trans ((cell_putR (by omega)).trans (cK qq pb4 pbl))), ((cell_putR (by omega)).trans ((cell_putR (by omega)).trans (cK qq pb5 pbl))), ((cell_putR (by omega)).trans ((cell_putR (by omega)).trans (cK qq pf0 pfl))), ((cell_putR (by omega)).trans ((cell_putR (by omega)).trans (cK qq pf1 pfl)))⟩ | go_keep)
      (first
        | (go_at_call 32; (with_reducible refine (OX (h0.on BB0) (g0.on BB0)).mono ?_); rintro e wy ⟨bx, Ax, nx, kx, Cx, mx, dx, rfl, hx, q⟩; have qq := BB0.trans (q.mono BB0.size); have qs := qq.size; clear q)
        | (go_at_call 32; (with_reducible refine (OX (h0.on BB1) (g0.on BB1)).mono ?_); rintro e wy ⟨bx, Ax, nx, kx, Cx, mx, dx, rfl, hx, q⟩; have qq := BB1.trans (q.mono BB1.size); have qs := qq.size; obtain ⟨c00, d00, c01, d01, c02, d02, l0⟩ := zb3 (g := w3.heap.size) q (by simp <;> omega) (by simp [Cs3, go_sem]) (by simp [Fz3, go_sem]); clear q)
        | (go_at_call 32; (with_reducible refine (OX (h0.on BB2) (g0.on BB2)).mono ?_); rintro e wy ⟨bx, Ax, nx, kx, Cx, mx, dx, rfl, hx, q⟩; have qq := BB2.trans (q.mono BB2.size); have qs := qq.size; obtain ⟨c00, d00, c01, d01, c02, d02, l0⟩ := zb3 (g := w3.heap.size) q (by simp <;> omega) (by simp [Cs3, go_sem]) (by simp [Fz3, go_sem]); obtain ⟨c10, d10, c11, d11, c12, d12, l1⟩ := zb3 (g := w3.heap.size + 1) q (by simp <;> omega) (by simp [Cs3, go_sem]) (by simp [Fz3, go_sem]); clear q)
        | (go_at_call 32; have up := Below.refl wy.heap.size wy; (with_reducible refine (OY ((h1.on qq).on up) ((g1.on qq).on up)).mono ?_); rintro e wz ⟨bY, Ay, ny, ky, Cy, my, dy, rfl, hy, q⟩; (try (rewrite [cR up l0, cR q (lK up l0)] at c00 c01 c02; rewrite [fR up l0, fR q (lK up l0)] at d00 d01 d02; have l0' := lK q (lK up l0))); (try (rewrite [cR up l1, cR q (lK up l1)] at c10 c11 c12; rewrite [fR up l1, fR q (lK up l1)] at d10 d11 d12; have l1' := lK q (lK up l1))); replace hx := (hx.on up).on q; replace qq := uK qq up q; have qs2 := qq.size; clear q up)
        | (go_at_call 32; have up := below_one wy (.cells #[.bool false, .slice none 0 0, .slice none 0 0] 27); (with_reducible refine (OY ((h1.on qq).on up) ((g1.on qq).on up)).mono ?_); rintro e wz ⟨bY, Ay, ny, ky, Cy, my, dy, rfl, hy, q⟩; (try (rewrite [cR up l0, cR q (lK up l0)] at c00 c01 c02; rewrite [fR up l0, fR q (lK up l0)] at d00 d01 d02; have l0' := lK q (lK up l0))); (try (rewrite [cR up l1, cR q (lK up l1)] at c10 c11 c12; rewrite [fR up l1, fR q (lK up l1)] at d10 d11 d12; have l1' := lK q (lK up l1))); obtain ⟨e00, f00, e01, f01, e02, f02, n0⟩ := zb3 (g := wy.heap.size) q (by simp <;> omega) (by simp [Cs3, go_sem]) (by simp [Fz3, go_sem]); replace hx := (hx.on up).on q; replace qq := uK qq up q; have qs2 := qq.size; clear q up)
        | (go_at_call 32; have up := below_two wy (.cells #[.bool false, .slice none 0 0, .slice none 0 0] 27) (.cells #[.bool false, .slice none 0 0, .slice none 0 0] 27); (with_reducible refine (OY ((h1.on qq).on up) ((g1.on qq).on up)).mono ?_); rintro e wz ⟨bY, Ay, ny, ky, Cy, my, dy, rfl, hy, q⟩; (try (rewrite [cR up l0, cR q (lK up l0)] at c00 c01 c02; rewrite [fR up l0, fR q (lK up l0)] at d00 d01 d02; have l0' := lK q (lK up l0))); (try (rewrite [cR up l1, cR q (lK up l1)] at c10 c11 c12; rewrite [fR up l1, fR q (lK up l1)] at d10 d11 d12; have l1' := lK q (lK up l1))); obtain ⟨e00, f00, e01, f01, e02, f02, n0⟩ := zb3 (g := wy.heap.size) q (by simp <;> omega) (by simp [Cs3, go_sem]) (by simp [Fz3, go_sem]); obtain ⟨e10, f10, e11, f11, e12, f12, n1⟩ := zb3 (g := wy.heap.size + 1) q (by simp <;> omega) (by simp [Cs3, go_sem]) (by simp [Fz3, go_sem]); replace hx := (hx.on up).on q; replace qq := uK qq up q; have qs2 := qq.size; clear q up))
    all_goals (go_wp2_with fail; go_meet)
    all_goals refine ⟨_, _, bx, Ax, nx, kx, Cx, mx, dx, bY, Ay, ny, ky, Cy, my, dy, rfl, rfl, ?_⟩
    all_goals first
      | with_reducible exact pairRA hx hy qq _
      | with_reducible exact pairRA' hx hy qq _
      | with_reducible exact pairRB (by assumption) (by assumption) (by assumption) hx hy qq (by omega) _
      | with_reducible exact pairRB' (by assumption) (by assumption) (by assumption) hx hy qq (by omega) _
      | with_reducible exact pairRC (by assumption) (by assumption) (by assumption) (by assumption) (by assumption) (by assumption) hx hy qq (by omega) (by omega) (by omega)
  case rest =>
    obtain ⟨gxa, gxb, bxa, Axa, nxa, kxa, Cxa, mxa, dxa, bxb, Axb, nxb, kxb, Cxb, mxb, dxb, rfl, rfl, ⟨xa0, xa1, xa2⟩, ⟨xb0, xb1, xb2⟩, hxa, hxb, b, xage, xbge, xaqxb⟩ := hcut
    have xal := cell_lt xa0
    have xbl := cell_lt xb0
    simp only at xal xbl
    have xaqpa : w.heap.size < gxa := Nat.lt_of_lt_of_le pal xage
    have xaqpb : w.heap.size + 1 < gxa := Nat.lt_of_lt_of_le pbl xage
    have xaqpf : w.heap.size + 1 + 1 < gxa := Nat.lt_of_lt_of_le pfl xage
    have xbqpa : w.heap.size < gxb := Nat.lt_of_lt_of_le pal xbge
    have xbqpb : w.heap.size + 1 < gxb := Nat.lt_of_lt_of_le pbl xbge
    have xbqpf : w.heap.size + 1 + 1 < gxb := Nat.lt_of_lt_of_le pfl xbge
    replace h0 := h0.on b
    replace g0 := g0.on b
    replace h1 := h1.on b
    replace g1 := g1.on b
    rewrite [cR b pal] at pa0 pa1 pa2 pa3 pa4 pa5
    replace pal := lK b pal
    rewrite [cR b pbl] at pb0 pb1 pb2 pb3 pb4 pb5
    replace pbl := lK b pbl
    rewrite [cR b pfl] at pf0 pf1
    replace pfl := lK b pfl
    replace cc := bK cc b
    clear b
    go_upto_region 4 with fail
    go_cut [9, 10] (fun ux uy wx => ∃ (gx gy : Nat) (bx_ : Bool) (Ax_ : Option Addr) (nx_ cx_ : Nat) (Bx_ : Option Addr) (mx_ dx_ : Nat) (px_ : Bool) (Vx_ : Option Addr) (rx_ kx_ : Nat) (Ux_ : Option Addr) (ox_ qx_ : Nat) (by_ : Bool) (Ay_ : Option Addr) (ny_ cy_ : Nat) (By_ : Option Addr) (my_ dy_ : Nat) (py_ : Bool) (Vy_ : Option Addr) (ry_ ky_ : Nat) (Uy_ : Option Addr) (oy_ qy_ : Nat), ux = .pointer (some ⟨gx, 0, none⟩) ∧ uy = .pointer (some ⟨gy, 0, none⟩) ∧ BothS wc wx gx gy bx_ Ax_ nx_ cx_ Bx_ mx_ dx_ px_ Vx_ rx_ kx_ Ux_ ox_ qx_ by_ Ay_ ny_ cy_ By_ my_ dy_ py_ Vy_ ry_ ky_ Uy_ oy_ qy_ (sl) (sh) (ml) (mh))
    case first =>
      have BB0 : Below wc.heap.size wc wc.drew := below_drewN (Below.refl _ wc) 1
      have BB1 : Below wc.heap.size wc (wc.alloc (.cells #[.bool false, .slice none 0 0, .slice none 0 0, .bool false, .slice none 0 0, .slice none 0 0] 29)).drew := below_drewN (below_one _ _) 1
      have BB2 : Below wc.heap.size wc ((wc.alloc (.cells #[.bool false, .slice none 0 0, .slice none 0 0, .bool false, .slice none 0 0, .slice none 0 0] 29)).alloc (.cells #[.bool false, .slice none 0 0, .slice none 0 0, .bool false, .slice none 0 0, .slice none 0 0] 29)).drew := below_drewN (below_two _ _ _) 1
      go_region_held3 (fun w' => w'.cell? ⟨w.heap.size, 0, none⟩ = some (.bool b0) ∧ w'.cell? ⟨w.heap.size, 1, none⟩ = some (.slice A0 n0 c0) ∧ w'.cell? ⟨w.heap.size, 2, none⟩ = some (.slice B0 m0 d0) ∧ w'.cell? ⟨w.heap.size, 3, none⟩ = some (.bool p0) ∧ w'.cell? ⟨w.heap.size, 4, none⟩ = some (.slice V0 r0 k0) ∧ w'.cell? ⟨w.heap.size, 5, none⟩ = some (.slice U0 o0 q0) ∧ w'.cell? ⟨w.heap.size + 1, 0, none⟩ = some (.bool b1) ∧ w'.cell? ⟨w.heap.size + 1, 1, none⟩ = some (.slice A1 n1 c1) ∧ w'.cell? ⟨w.heap.size + 1, 2, none⟩ = some (.slice B1 m1 d1) ∧ w'.cell? ⟨w.heap.size + 1, 3, none⟩ = some (.bool p1) ∧ w'.cell? ⟨w.heap.size + 1, 4, none⟩ = some (.slice V1 r1 k1) ∧ w'.cell? ⟨w.heap.size + 1, 5, none⟩ = some (.slice U1 o1 q1) ∧ w'.cell? ⟨w.heap.size + 1 + 1, 0, none⟩ = some (.int .u8 f0) ∧ w'.cell? ⟨w.heap.size + 1 + 1, 1, none⟩ = some (.int .u8 f1) ∧ w'.cell? ⟨gxa, 0, none⟩ = some (.bool bxa) ∧ w'.cell? ⟨gxa, 1, none⟩ = some (.slice Axa nxa kxa) ∧ w'.cell? ⟨gxa, 2, none⟩ = some (.slice Cxa mxa dxa) ∧ w'.cell? ⟨gxb, 0, none⟩ = some (.bool bxb) ∧ w'.cell? ⟨gxb, 1, none⟩ = some (.slice Axb nxb kxb) ∧ w'.cell? ⟨gxb, 2, none⟩ = some (.slice Cxb mxb dxb))
        (first | with_reducible exact ⟨(cK qq pa0 pal), (cK qq pa1 pal), (cK qq pa2 pal), (cK qq pa3 pal), (cK qq pa4 pal), (cK qq pa5 pal), (cK qq pb0 pbl), (cK qq pb1 pbl), (cK qq pb2 pbl), (cK qq pb3 pbl), (cK qq pb4 pbl), (cK qq pb5 pbl), (cK qq pf0 pfl), (cK qq pf1 pfl), (cK qq xa0 xal), (cK qq xa1 xal), (cK qq xa2 xal), (cK qq xb0 xbl), (cK qq xb1 xbl), (cK qq xb2 xbl)⟩ | with_reducible exact ⟨keep_alloc ((cK qq pa0 pal)), keep_alloc ((cK qq pa1 pal)), keep_alloc ((cK qq pa2 pal)), keep_alloc ((cK qq pa3 pal)), keep_alloc ((cK qq pa4 pal)), keep_alloc ((cK qq pa5 pal)), keep_alloc ((cK qq pb0 pbl)), keep_alloc ((cK qq pb1 pbl)), keep_alloc ((cK qq pb2 pbl)), keep_alloc ((cK qq pb3 pbl)), keep_alloc ((cK qq pb4 pbl)), keep_alloc ((cK qq pb5 pbl)), keep_alloc ((cK qq pf0 pfl)), keep_alloc ((cK qq pf1 pfl)), keep_alloc ((cK qq xa0 xal)), keep_alloc ((cK qq xa1 xal)), keep_alloc ((cK qq xa2 xal)), keep_alloc ((cK qq xb0 xbl)), keep_alloc ((cK qq xb1 xbl)), keep_alloc ((cK qq xb2 xbl))⟩ | with_reducible exact ⟨keep_alloc (keep_alloc ((cK qq pa0 pal))), keep_alloc (keep_alloc ((cK qq pa1 pal))), keep_alloc (keep_alloc ((cK qq pa2 pal))), keep_alloc (keep_alloc ((cK qq pa3 pal))), keep_alloc (keep_alloc ((cK qq pa4 pal))), keep_alloc (keep_alloc ((cK qq pa5 pal))), keep_alloc (keep_alloc ((cK qq pb0 pbl))), keep_alloc (keep_alloc ((cK qq pb1 pbl))), keep_alloc (keep_alloc ((cK qq pb2 pbl))), keep_alloc (keep_alloc ((cK qq pb3 pbl))), keep_alloc (keep_alloc ((cK qq pb4 pbl))), keep_alloc (keep_alloc ((cK qq pb5 pbl))), keep_alloc (keep_alloc ((cK qq pf0 pfl))), keep_alloc (keep_alloc ((cK qq pf1 pfl))), keep_alloc (keep_alloc ((cK qq xa0 xal))), keep_alloc (keep_alloc ((cK qq xa1 xal))), keep_alloc (keep_alloc ((cK qq xa2 xal))), keep_alloc (keep_alloc ((cK qq xb0 xbl))), keep_alloc (keep_alloc ((cK qq xb1 xbl))), keep_alloc (keep_alloc ((cK qq xb2 xbl)))⟩ | with_reducible exact ⟨((cell_putS (by omega)).trans (cK qq pa0 pal)), ((cell_putS (by omega)).trans (cK qq pa1 pal)), ((cell_putS (by omega)).trans (cK qq pa2 pal)), ((cell_putS (by omega)).trans (cK qq pa3 pal)), ((cell_putS (by omega)).trans (cK qq pa4 pal)), ((cell_putS (by omega)).trans (cK qq pa5 pal)), ((cell_putS (by omega)).trans (cK qq pb0 pbl)), ((cell_putS (by omega)).trans (cK qq pb1 pbl)), ((cell_putS (by omega)).trans (cK qq pb2 pbl)), ((cell_putS (by omega)).trans (cK qq pb3 pbl)), ((cell_putS (by omega)).trans (cK qq pb4 pbl)), ((cell_putS (by omega)).trans (cK qq pb5 pbl)), ((cell_putS (by omega)).trans (cK qq pf0 pfl)), ((cell_putS (by omega)).trans (cK qq pf1 pfl)), ((cell_putS (by omega)).trans (cK qq xa0 xal)), ((cell_putS (by omega)).trans (cK qq xa1 xal)), ((cell_putS (by omega)).trans (cK qq xa2 xal)), ((cell_putS (by omega)).trans (cK qq xb0 xbl)), ((cell_putS (by omega)).trans (cK qq xb1 xbl)), ((cell_putS (by omega)).trans (cK qq xb2 xbl))⟩ | with_reducible exact ⟨keep_alloc (((cell_putS (by omega)).trans (cK qq pa0 pal))), keep_alloc (((cell_putS (by omega)).trans (cK qq pa1 pal))), keep_alloc (((cell_putS (by omega)).trans (cK qq pa2 pal))), keep_alloc (((cell_putS (by omega)).trans (cK qq pa3 pal))), keep_alloc (((cell_putS (by omega)).trans (cK qq pa4 pal))), keep_alloc (((cell_putS (by omega)).trans (cK qq pa5 pal))), keep_alloc (((cell_putS (by omega)).trans (cK qq pb0 pbl))), keep_alloc (((cell_putS (by omega)).trans (cK qq pb1 pbl))), keep_alloc (((cell_putS (by omega)).trans (cK qq pb2 pbl))), keep_alloc (((cell_putS (by omega)).trans (cK qq pb3 pbl))), keep_alloc (((cell_putS (by omega)).trans (cK qq pb4 pbl))), keep_alloc (((cell_putS (by omega)).trans (cK qq pb5 pbl))), keep_alloc (((cell_putS (by omega)).trans (cK qq pf0 pfl))), keep_alloc (((cell_putS (by omega)).trans (cK qq pf1 pfl))), keep_alloc (((cell_putS (by omega)).trans (cK qq xa0 xal))), keep_alloc (((cell_putS (by omega)).trans (cK qq xa1 xal))), keep_alloc (((cell_putS (by omega)).trans (cK qq xa2 xal))), keep_alloc (((cell_putS (by omega)).trans (cK qq xb0 xbl))), keep_alloc (((cell_putS (by omega)).trans (cK qq xb1 xbl))), keep_alloc (((cell_putS (by omega)).trans (cK qq xb2 xbl)))⟩ | with_reducible exact ⟨((cell_putS (by omega)).trans ((cell_putS (by omega)).trans (cK qq pa0 pal))), ((cell_putS (by omega)).trans ((cell_putS (by omega)).trans (cK qq pa1 pal))), ((cell_putS (by omega)).trans ((cell_putS (by omega)).trans (cK qq pa2 pal))), ((cell_putS (by omega)).trans ((cell_putS (by omega)).trans (cK qq pa3 pal))), ((cell_putS (by omega)).trans ((cell_putS (by omega)).trans (cK qq pa4 pal))), ((cell_putS (by omega)).trans ((cell_putS (by omega)).trans (cK qq pa5 pal))), ((cell_putS (by omega)).trans ((cell_putS (by omega)).trans (cK qq pb0 pbl))), ((cell_putS (by omega)).trans ((cell_putS (by omega)).trans (cK qq pb1 pbl))), ((cell_putS (by omega)).trans ((cell_putS (by omega)).trans (cK qq pb2 pbl))), ((cell_putS (by omega)).trans ((cell_putS (by omega)).trans (cK qq pb3 pbl))), ((cell_putS (by omega)).trans ((cell_putS (by omega)).trans (cK qq pb4 pbl))), ((cell_putS (by omega)).trans ((cell_putS (by omega)).trans (cK qq pb5 pbl))), ((cell_putS (by omega)).trans ((cell_putS (by omega)).trans (cK qq pf0 pfl))), ((cell_putS (by omega)).trans ((cell_putS (by omega)).trans (cK qq pf1 pfl))), ((cell_putS (by omega)).trans ((cell_putS (by omega)).trans (cK qq xa0 xal))), ((cell_putS (by omega)).trans ((cell_putS (by omega)).trans (cK qq xa1 xal))), ((cell_putS (by omega)).trans ((cell_putS (by omega)).trans (cK qq xa2 xal))), ((cell_putS (by omega)).trans ((cell_putS (by omega)).trans (cK qq xb0 xbl))), ((cell_putS (by omega)).trans ((cell_putS (by omega)).trans (cK qq xb1 xbl))), ((cell_putS (by omega)).trans ((cell_putS (by omega)).trans (cK qq xb2 xbl)))⟩ | go_keep)
        (first
          | (go_at_call 24; (with_reducible refine (AI (h0.on BB0) (g0.on BB0) (h1.on BB0) (g1.on BB0)).mono ?_); rintro e wy ⟨bx_, Ax_, nx_, cx_, Bx_, mx_, dx_, px_, Vx_, rx_, kx_, Ux_, ox_, qx_, rfl, ⟨hx, gx_⟩, q⟩; have qq := BB0.trans (q.mono BB0.size); have qs := qq.size; clear q)
          | (go_at_call 24; (with_reducible refine (AI (h0.on BB1) (g0.on BB1) (h1.on BB1) (g1.on BB1)).mono ?_); rintro e wy ⟨bx_, Ax_, nx_, cx_, Bx_, mx_, dx_, px_, Vx_, rx_, kx_, Ux_, ox_, qx_, rfl, ⟨hx, gx_⟩, q⟩; have qq := BB1.trans (q.mono BB1.size); have qs := qq.size; obtain ⟨c00, d00, c01, d01, c02, d02, c03, d03, c04, d04, c05, d05, l0⟩ := zb6 (g := wc.heap.size) q (by simp <;> omega) (by simp [Cs6, go_sem]) (by simp [Fz6, go_sem]); clear q)
          | (go_at_call 24; (with_reducible refine (AI (h0.on BB2) (g0.on BB2) (h1.on BB2) (g1.on BB2)).mono ?_); rintro e wy ⟨bx_, Ax_, nx_, cx_, Bx_, mx_, dx_, px_, Vx_, rx_, kx_, Ux_, ox_, qx_, rfl, ⟨hx, gx_⟩, q⟩; have qq := BB2.trans (q.mono BB2.size); have qs := qq.size; obtain ⟨c00, d00, c01, d01, c02, d02, c03, d03, c04, d04, c05, d05, l0⟩ := zb6 (g := wc.heap.size) q (by simp <;> omega) (by simp [Cs6, go_sem]) (by simp [Fz6, go_sem]); obtain ⟨c10, d10, c11, d11, c12, d12, c13, d13, c14, d14, c15, d15, l1⟩ := zb6 (g := wc.heap.size + 1) q (by simp <;> omega) (by simp [Cs6, go_sem]) (by simp [Fz6, go_sem]); clear q)
          | (go_at_call 26; have up := Below.refl wy.heap.size wy; (with_reducible refine (MI ((h0.on qq).on up) ((g0.on qq).on up) ((h1.on qq).on up) ((g1.on qq).on up)).mono ?_); rintro e wz ⟨by_, Ay_, ny_, cy_, By_, my_, dy_, py_, Vy_, ry_, ky_, Uy_, oy_, qy_, rfl, ⟨hy, gy_⟩, q⟩; (try (rewrite [cR up l0, cR q (lK up l0)] at c00 c01 c02 c03 c04 c05; rewrite [fR up l0, fR q (lK up l0)] at d00 d01 d02 d03 d04 d05; have l0' := lK q (lK up l0))); (try (rewrite [cR up l1, cR q (lK up l1)] at c10 c11 c12 c13 c14 c15; rewrite [fR up l1, fR q (lK up l1)] at d10 d11 d12 d13 d14 d15; have l1' := lK q (lK up l1))); replace hx := (hx.on up).on q; replace gx_ := (gx_.on up).on q; replace qq := uK qq up q; have qs2 := qq.size; clear q up)
          | (go_at_call 26; have up := below_one wy (.cells #[.bool false, .slice none 0 0, .slice none 0 0, .bool false, .slice none 0 0, .slice none 0 0] 29); (with_reducible refine (MI ((h0.on qq).on up) ((g0.on qq).on up) ((h1.on qq).on up) ((g1.on qq).on up)).mono ?_); rintro e wz ⟨by_, Ay_, ny_, cy_, By_, my_, dy_, py_, Vy_, ry_, ky_, Uy_, oy_, qy_, rfl, ⟨hy, gy_⟩, q⟩; (try (rewrite [cR up l0, cR q (lK up l0)] at c00 c01 c02 c03 c04 c05; rewrite [fR up l0, fR q (lK up l0)] at d00 d01 d02 d03 d04 d05; have l0' := lK q (lK up l0))); (try (rewrite [cR up l1, cR q (lK up l1)] at c10 c11 c12 c13 c14 c15; rewrite [fR up l1, fR q (lK up l1)] at d10 d11 d12 d13 d14 d15; have l1' := lK q (lK up l1))); obtain ⟨e00, f00, e01, f01, e02, f02, e03, f03, e04, f04, e05, f05, n0⟩ := zb6 (g := wy.heap.size) q (by simp <;> omega) (by simp [Cs6, go_sem]) (by simp [Fz6, go_sem]); replace hx := (hx.on up).on q; replace gx_ := (gx_.on up).on q; replace qq := uK qq up q; have qs2 := qq.size; clear q up)
          | (go_at_call 26; have up := below_two wy (.cells #[.bool false, .slice none 0 0, .slice none 0 0, .bool false, .slice none 0 0, .slice none 0 0] 29) (.cells #[.bool false, .slice none 0 0, .slice none 0 0, .bool false, .slice none 0 0, .slice none 0 0] 29); (with_reducible refine (MI ((h0.on qq).on up) ((g0.on qq).on up) ((h1.on qq).on up) ((g1.on qq).on up)).mono ?_); rintro e wz ⟨by_, Ay_, ny_, cy_, By_, my_, dy_, py_, Vy_, ry_, ky_, Uy_, oy_, qy_, rfl, ⟨hy, gy_⟩, q⟩; (try (rewrite [cR up l0, cR q (lK up l0)] at c00 c01 c02 c03 c04 c05; rewrite [fR up l0, fR q (lK up l0)] at d00 d01 d02 d03 d04 d05; have l0' := lK q (lK up l0))); (try (rewrite [cR up l1, cR q (lK up l1)] at c10 c11 c12 c13 c14 c15; rewrite [fR up l1, fR q (lK up l1)] at d10 d11 d12 d13 d14 d15; have l1' := lK q (lK up l1))); obtain ⟨e00, f00, e01, f01, e02, f02, e03, f03, e04, f04, e05, f05, n0⟩ := zb6 (g := wy.heap.size) q (by simp <;> omega) (by simp [Cs6, go_sem]) (by simp [Fz6, go_sem]); obtain ⟨e10, f10, e11, f11, e12, f12, e13, f13, e14, f14, e15, f15, n1⟩ := zb6 (g := wy.heap.size + 1) q (by simp <;> omega) (by simp [Cs6, go_sem]) (by simp [Fz6, go_sem]); replace hx := (hx.on up).on q; replace gx_ := (gx_.on up).on q; replace qq := uK qq up q; have qs2 := qq.size; clear q up))
      all_goals (go_wp2_with fail; go_meet)
      all_goals refine ⟨_, _, bx_, Ax_, nx_, cx_, Bx_, mx_, dx_, px_, Vx_, rx_, kx_, Ux_, ox_, qx_, by_, Ay_, ny_, cy_, By_, my_, dy_, py_, Vy_, ry_, ky_, Uy_, oy_, qy_, rfl, rfl, ?_⟩
      all_goals first
        | with_reducible exact pairSA hx gx_ hy gy_ qq _
        | with_reducible exact pairSA' hx gx_ hy gy_ qq _
        | with_reducible exact pairSB (by assumption) (by assumption) (by assumption) (by assumption) (by assumption) (by assumption) hx gx_ hy gy_ qq (by omega) _
        | with_reducible exact pairSB' (by assumption) (by assumption) (by assumption) (by assumption) (by assumption) (by assumption) hx gx_ hy gy_ qq (by omega) _
        | with_reducible exact pairSC (by assumption) (by assumption) (by assumption) (by assumption) (by assumption) (by assumption) (by assumption) (by assumption) (by assumption) (by assumption) (by assumption) (by assumption) hx gx_ hy gy_ qq (by omega) (by omega) (by omega)
    case rest =>
      obtain ⟨gsm, gpr, bsm, Asm, nsm, csm, Bsm, msm, dsm, psm, Vsm, rsm, ksm, Usm, osm, qsm, bpr, Apr, npr, cpr, Bpr, mpr, dpr, ppr, Vpr, rpr, kpr, Upr, opr, qpr, rfl, rfl, ⟨sm0, sm1, sm2, sm3, sm4, sm5⟩, ⟨pr0, pr1, pr2, pr3, pr4, pr5⟩, ⟨hsm, gsm_⟩, ⟨hpr, gpr_⟩, b, smge, prge, smqpr⟩ := hcut
      have sml := cell_lt sm0
      have prl := cell_lt pr0
      simp only at sml prl
      have smqpa : w.heap.size < gsm := Nat.lt_of_lt_of_le pal smge
      have smqpb : w.heap.size + 1 < gsm := Nat.lt_of_lt_of_le pbl smge
      have smqpf : w.heap.size + 1 + 1 < gsm := Nat.lt_of_lt_of_le pfl smge
      have smqxa : gxa < gsm := Nat.lt_of_lt_of_le xal smge
      have smqxb : gxb < gsm := Nat.lt_of_lt_of_le xbl smge
      have prqpa : w.heap.size < gpr := Nat.lt_of_lt_of_le pal prge
      have prqpb : w.heap.size + 1 < gpr := Nat.lt_of_lt_of_le pbl prge
      have prqpf : w.heap.size + 1 + 1 < gpr := Nat.lt_of_lt_of_le pfl prge
      have prqxa : gxa < gpr := Nat.lt_of_lt_of_le xal prge
      have prqxb : gxb < gpr := Nat.lt_of_lt_of_le xbl prge
      replace h0 := h0.on b
      replace g0 := g0.on b
      replace h1 := h1.on b
      replace g1 := g1.on b
      replace hxa := hxa.on b
      replace hxb := hxb.on b
      rewrite [cR b pal] at pa0 pa1 pa2 pa3 pa4 pa5
      replace pal := lK b pal
      rewrite [cR b pbl] at pb0 pb1 pb2 pb3 pb4 pb5
      replace pbl := lK b pbl
      rewrite [cR b pfl] at pf0 pf1
      replace pfl := lK b pfl
      rewrite [cR b xal] at xa0 xa1 xa2
      replace xal := lK b xal
      rewrite [cR b xbl] at xb0 xb1 xb2
      replace xbl := lK b xbl
      replace cc := bK cc b
      clear b
      go_wp2_with fail
      have bD : Below wc.heap.size wc wc.drew := below_drewN (Below.refl _ wc) 1
      replace h0 := h0.on bD
      replace g0 := g0.on bD
      replace h1 := h1.on bD
      replace g1 := g1.on bD
      replace hxa := hxa.on bD
      replace hxb := hxb.on bD
      replace hsm := hsm.on bD
      replace gsm_ := gsm_.on bD
      replace hpr := hpr.on bD
      replace gpr_ := gpr_.on bD
      rewrite [cR bD pal] at pa0 pa1 pa2 pa3 pa4 pa5
      replace pal := lK bD pal
      rewrite [cR bD pbl] at pb0 pb1 pb2 pb3 pb4 pb5
      replace pbl := lK bD pbl
      rewrite [cR bD pfl] at pf0 pf1
      replace pfl := lK bD pfl
      rewrite [cR bD xal] at xa0 xa1 xa2
      replace xal := lK bD xal
      rewrite [cR bD xbl] at xb0 xb1 xb2
      replace xbl := lK bD xbl
      rewrite [cR bD sml] at sm0 sm1 sm2 sm3 sm4 sm5
      replace sml := lK bD sml
      rewrite [cR bD prl] at pr0 pr1 pr2 pr3 pr4 pr5
      replace prl := lK bD prl
      replace cc := bK cc bD
      clear bD
      refine wp_region_held_drew (S := fun w' => w'.cell? ⟨w.heap.size, 0, none⟩ = some (.bool b0) ∧ w'.cell? ⟨w.heap.size, 1, none⟩ = some (.slice A0 n0 c0) ∧ w'.cell? ⟨w.heap.size, 2, none⟩ = some (.slice B0 m0 d0) ∧ w'.cell? ⟨w.heap.size, 3, none⟩ = some (.bool p0) ∧ w'.cell? ⟨w.heap.size, 4, none⟩ = some (.slice V0 r0 k0) ∧ w'.cell? ⟨w.heap.size, 5, none⟩ = some (.slice U0 o0 q0) ∧ w'.cell? ⟨w.heap.size + 1, 0, none⟩ = some (.bool b1) ∧ w'.cell? ⟨w.heap.size + 1, 1, none⟩ = some (.slice A1 n1 c1) ∧ w'.cell? ⟨w.heap.size + 1, 2, none⟩ = some (.slice B1 m1 d1) ∧ w'.cell? ⟨w.heap.size + 1, 3, none⟩ = some (.bool p1) ∧ w'.cell? ⟨w.heap.size + 1, 4, none⟩ = some (.slice V1 r1 k1) ∧ w'.cell? ⟨w.heap.size + 1, 5, none⟩ = some (.slice U1 o1 q1) ∧ w'.cell? ⟨w.heap.size + 1 + 1, 0, none⟩ = some (.int .u8 f0) ∧ w'.cell? ⟨w.heap.size + 1 + 1, 1, none⟩ = some (.int .u8 f1) ∧ w'.cell? ⟨gxa, 0, none⟩ = some (.bool bxa) ∧ w'.cell? ⟨gxa, 1, none⟩ = some (.slice Axa nxa kxa) ∧ w'.cell? ⟨gxa, 2, none⟩ = some (.slice Cxa mxa dxa) ∧ w'.cell? ⟨gxb, 0, none⟩ = some (.bool bxb) ∧ w'.cell? ⟨gxb, 1, none⟩ = some (.slice Axb nxb kxb) ∧ w'.cell? ⟨gxb, 2, none⟩ = some (.slice Cxb mxb dxb) ∧ w'.cell? ⟨gsm, 0, none⟩ = some (.bool bsm) ∧ w'.cell? ⟨gsm, 1, none⟩ = some (.slice Asm nsm csm) ∧ w'.cell? ⟨gsm, 2, none⟩ = some (.slice Bsm msm dsm) ∧ w'.cell? ⟨gsm, 3, none⟩ = some (.bool psm) ∧ w'.cell? ⟨gsm, 4, none⟩ = some (.slice Vsm rsm ksm) ∧ w'.cell? ⟨gsm, 5, none⟩ = some (.slice Usm osm qsm) ∧ w'.cell? ⟨gpr, 0, none⟩ = some (.bool bpr) ∧ w'.cell? ⟨gpr, 1, none⟩ = some (.slice Apr npr cpr) ∧ w'.cell? ⟨gpr, 2, none⟩ = some (.slice Bpr mpr dpr) ∧ w'.cell? ⟨gpr, 3, none⟩ = some (.bool ppr) ∧ w'.cell? ⟨gpr, 4, none⟩ = some (.slice Vpr rpr kpr) ∧ w'.cell? ⟨gpr, 5, none⟩ = some (.slice Upr opr qpr)) (by kernel_rfl) ?_ (fun hHeld => ?_)
      · exact ⟨pa0, pa1, pa2, pa3, pa4, pa5, pb0, pb1, pb2, pb3, pb4, pb5, pf0, pf1, xa0, xa1, xa2, xb0, xb1, xb2, sm0, sm1, sm2, sm3, sm4, sm5, pr0, pr1, pr2, pr3, pr4, pr5⟩
      refine wpAnyH_take (i := 0) (v := ?_) rfl (by kernel_rfl) (by kernel_rfl) (by kernel_rfl) (fun _ _ _ h => h) (Or.inl ⟨by rfl, ?_⟩) hHeld ?_
      rotate_left
      · (intro w hSw; (try dsimp only at hSw); go_simp; (try with_reducible rfl))
      try simp only [Act.put, pT]
      refine wpAnyH_take (i := 1) (v := ?_) rfl (by kernel_rfl) (by kernel_rfl) (by kernel_rfl) (fun _ _ _ h => h) (Or.inl ⟨by rfl, ?_⟩) hHeld ?_
      rotate_left
      · (intro w hSw; (try dsimp only at hSw); go_simp; (try with_reducible rfl))
      try simp only [Act.put, pT]
      refine wpAnyH_take (i := 2) (v := ?_) rfl (by kernel_rfl) (by kernel_rfl) (by kernel_rfl) (fun _ _ _ h => h) (Or.inl ⟨by rfl, ?_⟩) hHeld ?_
      rotate_left
      · (intro w hSw; (try dsimp only at hSw); go_simp; (try with_reducible rfl))
      try simp only [Act.put, pT]
      refine wpAnyH_ready (rs := [3]) (by kernel_rfl) (by simp) ?_
      refine AllReadyH.cons rfl (fun K hK => ?_) AllReadyH.nil
      (try simp only [pT])
      rw [if_pos (by rfl)]
      go_simp
      go_at_call 33
      refine (rtadd_N hxa (sx_.le (by omega)) hxb (sy_.le (by omega))).mono ?_
      rintro e w4 ⟨be, Ae, ne, ce, Be, me, de, rfl, he, b⟩
      replace h0 := h0.on b
      replace g0 := g0.on b
      replace h1 := h1.on b
      replace g1 := g1.on b
      replace hxa := hxa.on b
      replace hxb := hxb.on b
      replace hsm := hsm.on b
      replace gsm_ := gsm_.on b
      replace hpr := hpr.on b
      replace gpr_ := gpr_.on b
      rewrite [cR b pal] at pa0 pa1 pa2 pa3 pa4 pa5
      replace pal := lK b pal
      rewrite [cR b pbl] at pb0 pb1 pb2 pb3 pb4 pb5
      replace pbl := lK b pbl
      rewrite [cR b pfl] at pf0 pf1
      replace pfl := lK b pfl
      rewrite [cR b xal] at xa0 xa1 xa2
      replace xal := lK b xal
      rewrite [cR b xbl] at xb0 xb1 xb2
      replace xbl := lK b xbl
      rewrite [cR b sml] at sm0 sm1 sm2 sm3 sm4 sm5
      replace sml := lK b sml
      rewrite [cR b prl] at pr0 pr1 pr2 pr3 pr4 pr5
      replace prl := lK b prl
      replace cc := bK cc b
      clear b
      refine hK.out _ _ ?_ (fun hHeld => ?_)
      · exact ⟨pa0, pa1, pa2, pa3, pa4, pa5, pb0, pb1, pb2, pb3, pb4, pb5, pf0, pf1, xa0, xa1, xa2, xb0, xb1, xb2, sm0, sm1, sm2, sm3, sm4, sm5, pr0, pr1, pr2, pr3, pr4, pr5⟩
      clear hK K
      try simp only [Act.put, pT]
      refine wpAnyH_ready (rs := [4]) (by kernel_rfl) (by simp) ?_
      refine AllReadyH.cons rfl (fun K hK => ?_) AllReadyH.nil
      (try simp only [pT])
      rw [if_pos (by rfl)]
      go_simp
      go_at_call 19
      refine (sthas_N hsm gsm_ (sa_.le (by omega)) (sb_.le (by omega)) he (sxy.le (by omega)) true HA.out).mono ?_
      rintro e w5 ⟨rfl, b⟩
      replace h0 := h0.on b
      replace g0 := g0.on b
      replace h1 := h1.on b
      replace g1 := g1.on b
      replace hxa := hxa.on b
      replace hxb := hxb.on b
      replace hsm := hsm.on b
      replace gsm_ := gsm_.on b
      replace hpr := hpr.on b
      replace gpr_ := gpr_.on b
      replace he := he.on b
      rewrite [cR b pal] at pa0 pa1 pa2 pa3 pa4 pa5
      replace pal := lK b pal
      rewrite [cR b pbl] at pb0 pb1 pb2 pb3 pb4 pb5
      replace pbl := lK b pbl
      rewrite [cR b pfl] at pf0 pf1
      replace pfl := lK b pfl
      rewrite [cR b xal] at xa0 xa1 xa2
      replace xal := lK b xal
      rewrite [cR b xbl] at xb0 xb1 xb2
      replace xbl := lK b xbl
      rewrite [cR b sml] at sm0 sm1 sm2 sm3 sm4 sm5
      replace sml := lK b sml
      rewrite [cR b prl] at pr0 pr1 pr2 pr3 pr4 pr5
      replace prl := lK b prl
      replace cc := bK cc b
      clear b
      refine hK.out _ _ ?_ (fun hHeld => ?_)
      · exact ⟨pa0, pa1, pa2, pa3, pa4, pa5, pb0, pb1, pb2, pb3, pb4, pb5, pf0, pf1, xa0, xa1, xa2, xb0, xb1, xb2, sm0, sm1, sm2, sm3, sm4, sm5, pr0, pr1, pr2, pr3, pr4, pr5⟩
      clear hK K
      try simp only [Act.put, pT]
      refine wpAnyH_take (i := 5) (v := ?_) rfl (by kernel_rfl) (by kernel_rfl) (by kernel_rfl) (fun _ _ _ h => h) (Or.inl ⟨by rfl, ?_⟩) hHeld ?_
      rotate_left
      · (intro w hSw; (try dsimp only at hSw); go_simp; (try with_reducible rfl))
      try simp only [Act.put, pT]
      refine wpAnyH_take (i := 6) (v := ?_) rfl (by kernel_rfl) (by kernel_rfl) (by kernel_rfl) (fun _ _ _ h => h) (Or.inl ⟨by rfl, ?_⟩) hHeld ?_
      rotate_left
      · (intro w hSw; (try dsimp only at hSw); go_simp; (try with_reducible rfl))
      try simp only [Act.put, pT]
      refine wpAnyH_take (i := 7) (v := ?_) rfl (by kernel_rfl) (by kernel_rfl) (by kernel_rfl) (fun _ _ _ h => h) (Or.inl ⟨by rfl, ?_⟩) hHeld ?_
      rotate_left
      · (intro w hSw; (try dsimp only at hSw); go_simp; (try with_reducible rfl))
      try simp only [Act.put, pT]
      refine wpAnyH_take (i := 8) (v := ?_) rfl (by kernel_rfl) (by kernel_rfl) (by kernel_rfl) (fun _ _ _ h => h) (Or.inl ⟨by rfl, ?_⟩) hHeld ?_
      rotate_left
      · (intro w hSw; (try dsimp only at hSw); go_simp; (try with_reducible rfl))
      try simp only [Act.put, pT]
      refine wpAnyH_take (i := 9) (v := ?_) rfl (by kernel_rfl) (by kernel_rfl) (by kernel_rfl) (fun _ _ _ h => h) (Or.inl ⟨by rfl, ?_⟩) hHeld ?_
      rotate_left
      · (intro w hSw; (try dsimp only at hSw); go_simp; (try with_reducible rfl))
      try simp only [Act.put, pT]
      refine wpAnyH_ready (rs := [10]) (by kernel_rfl) (by simp) ?_
      refine AllReadyH.cons rfl (fun K hK => ?_) AllReadyH.nil
      (try simp only [pT])
      rw [if_pos (by rfl)]
      go_simp
      go_at_call 34
      refine (rtmul_N hxa (sx_.le (by omega)) hxb (sy_.le (by omega))).mono ?_
      rintro e w6 ⟨bf, Af, nf, cf, Bf, mf, df, rfl, hf, b⟩
      replace h0 := h0.on b
      replace g0 := g0.on b
      replace h1 := h1.on b
      replace g1 := g1.on b
      replace hxa := hxa.on b
      replace hxb := hxb.on b
      replace hsm := hsm.on b
      replace gsm_ := gsm_.on b
      replace hpr := hpr.on b
      replace gpr_ := gpr_.on b
      replace he := he.on b
      rewrite [cR b pal] at pa0 pa1 pa2 pa3 pa4 pa5
      replace pal := lK b pal
      rewrite [cR b pbl] at pb0 pb1 pb2 pb3 pb4 pb5
      replace pbl := lK b pbl
      rewrite [cR b pfl] at pf0 pf1
      replace pfl := lK b pfl
      rewrite [cR b xal] at xa0 xa1 xa2
      replace xal := lK b xal
      rewrite [cR b xbl] at xb0 xb1 xb2
      replace xbl := lK b xbl
      rewrite [cR b sml] at sm0 sm1 sm2 sm3 sm4 sm5
      replace sml := lK b sml
      rewrite [cR b prl] at pr0 pr1 pr2 pr3 pr4 pr5
      replace prl := lK b prl
      replace cc := bK cc b
      clear b
      refine hK.out _ _ ?_ (fun hHeld => ?_)
      · exact ⟨pa0, pa1, pa2, pa3, pa4, pa5, pb0, pb1, pb2, pb3, pb4, pb5, pf0, pf1, xa0, xa1, xa2, xb0, xb1, xb2, sm0, sm1, sm2, sm3, sm4, sm5, pr0, pr1, pr2, pr3, pr4, pr5⟩
      clear hK K
      try simp only [Act.put, pT]
      refine wpAnyH_ready (rs := [11]) (by kernel_rfl) (by simp) ?_
      refine AllReadyH.cons rfl (fun K hK => ?_) AllReadyH.nil
      (try simp only [pT])
      rw [if_pos (by rfl)]
      go_simp
      go_at_call 19
      refine (sthas_N hpr gpr_ (sm_.le (by omega)) (sn_.le (by omega)) hf (sxm.le (by omega)) true HB.out).mono ?_
      rintro e w7 ⟨rfl, b⟩
      replace h0 := h0.on b
      replace g0 := g0.on b
      replace h1 := h1.on b
      replace g1 := g1.on b
      replace hxa := hxa.on b
      replace hxb := hxb.on b
      replace hsm := hsm.on b
      replace gsm_ := gsm_.on b
      replace hpr := hpr.on b
      replace gpr_ := gpr_.on b
      replace he := he.on b
      replace hf := hf.on b
      rewrite [cR b pal] at pa0 pa1 pa2 pa3 pa4 pa5
      replace pal := lK b pal
      rewrite [cR b pbl] at pb0 pb1 pb2 pb3 pb4 pb5
      replace pbl := lK b pbl
      rewrite [cR b pfl] at pf0 pf1
      replace pfl := lK b pfl
      rewrite [cR b xal] at xa0 xa1 xa2
      replace xal := lK b xal
      rewrite [cR b xbl] at xb0 xb1 xb2
      replace xbl := lK b xbl
      rewrite [cR b sml] at sm0 sm1 sm2 sm3 sm4 sm5
      replace sml := lK b sml
      rewrite [cR b prl] at pr0 pr1 pr2 pr3 pr4 pr5
      replace prl := lK b prl
      replace cc := bK cc b
      clear b
      refine hK.out _ _ ?_ (fun hHeld => ?_)
      · exact ⟨pa0, pa1, pa2, pa3, pa4, pa5, pb0, pb1, pb2, pb3, pb4, pb5, pf0, pf1, xa0, xa1, xa2, xb0, xb1, xb2, sm0, sm1, sm2, sm3, sm4, sm5, pr0, pr1, pr2, pr3, pr4, pr5⟩
      clear hK K
      try simp only [Act.put, pT]
      refine wpAnyH_take (i := 12) (v := ?_) rfl (by kernel_rfl) (by kernel_rfl) (by kernel_rfl) (fun _ _ _ h => h) (Or.inl ⟨by rfl, ?_⟩) hHeld ?_
      rotate_left
      · (intro w hSw; (try dsimp only at hSw); go_simp; (try with_reducible rfl))
      try simp only [Act.put, pT]
      refine wpAnyH_take (i := 13) (v := ?_) rfl (by kernel_rfl) (by kernel_rfl) (by kernel_rfl) (fun _ _ _ h => h) (Or.inl ⟨by rfl, ?_⟩) hHeld ?_
      rotate_left
      · (intro w hSw; (try dsimp only at hSw); go_simp; (try with_reducible rfl))
      try simp only [Act.put, pT]
      refine wpAnyH_take (i := 14) (v := ?_) rfl (by kernel_rfl) (by kernel_rfl) (by kernel_rfl) (fun _ _ _ h => h) (Or.inl ⟨by rfl, ?_⟩) hHeld ?_
      rotate_left
      · (intro w hSw; (try dsimp only at hSw); go_simp; (try with_reducible rfl))
      try simp only [Act.put, pT]
      refine wpAnyH_take (i := 15) (v := ?_) rfl (by kernel_rfl) (by kernel_rfl) (by kernel_rfl) (fun _ _ _ h => h) (Or.inl ⟨by rfl, ?_⟩) hHeld ?_
      rotate_left
      · (intro w hSw; (try dsimp only at hSw); go_simp; (try with_reducible rfl))
      try simp only [Act.put, pT]
      refine wpAnyH_ready (rs := [16]) (by kernel_rfl) (by simp) ?_
      refine AllReadyH.cons rfl (fun K hK => ?_) AllReadyH.nil
      (try simp only [pT])
      rw [if_pos (by rfl)]
      go_simp
      go_at_call 13
      refine (stright_N hsm gsm_ (sa_.le (by omega)) (sb_.le (by omega)) true HC.out).mono ?_
      rintro e w8 ⟨rfl, b⟩
      replace h0 := h0.on b
      replace g0 := g0.on b
      replace h1 := h1.on b
      replace g1 := g1.on b
      replace hxa := hxa.on b
      replace hxb := hxb.on b
      replace hsm := hsm.on b
      replace gsm_ := gsm_.on b
      replace hpr := hpr.on b
      replace gpr_ := gpr_.on b
      replace he := he.on b
      replace hf := hf.on b
      rewrite [cR b pal] at pa0 pa1 pa2 pa3 pa4 pa5
      replace pal := lK b pal
      rewrite [cR b pbl] at pb0 pb1 pb2 pb3 pb4 pb5
      replace pbl := lK b pbl
      rewrite [cR b pfl] at pf0 pf1
      replace pfl := lK b pfl
      rewrite [cR b xal] at xa0 xa1 xa2
      replace xal := lK b xal
      rewrite [cR b xbl] at xb0 xb1 xb2
      replace xbl := lK b xbl
      rewrite [cR b sml] at sm0 sm1 sm2 sm3 sm4 sm5
      replace sml := lK b sml
      rewrite [cR b prl] at pr0 pr1 pr2 pr3 pr4 pr5
      replace prl := lK b prl
      replace cc := bK cc b
      clear b
      refine hK.out _ _ ?_ (fun hHeld => ?_)
      · exact ⟨pa0, pa1, pa2, pa3, pa4, pa5, pb0, pb1, pb2, pb3, pb4, pb5, pf0, pf1, xa0, xa1, xa2, xb0, xb1, xb2, sm0, sm1, sm2, sm3, sm4, sm5, pr0, pr1, pr2, pr3, pr4, pr5⟩
      clear hK K
      try simp only [Act.put, pT]
      refine wpAnyH_take (i := 17) (v := ?_) rfl (by kernel_rfl) (by kernel_rfl) (by kernel_rfl) (fun _ _ _ h => h) (Or.inl ⟨by rfl, ?_⟩) hHeld ?_
      rotate_left
      · (intro w hSw; (try dsimp only at hSw); go_simp; (try with_reducible rfl))
      try simp only [Act.put, pT]
      refine wpAnyH_take (i := 18) (v := ?_) rfl (by kernel_rfl) (by kernel_rfl) (by kernel_rfl) (fun _ _ _ h => h) (Or.inl ⟨by rfl, ?_⟩) hHeld ?_
      rotate_left
      · (intro w hSw; (try dsimp only at hSw); go_simp; (try with_reducible rfl))
      try simp only [Act.put, pT]
      refine wpAnyH_take (i := 19) (v := ?_) rfl (by kernel_rfl) (by kernel_rfl) (by kernel_rfl) (fun _ _ _ h => h) (Or.inl ⟨by rfl, ?_⟩) hHeld ?_
      rotate_left
      · (intro w hSw; (try dsimp only at hSw); go_simp; (try with_reducible rfl))
      try simp only [Act.put, pT]
      refine wpAnyH_take (i := 20) (v := ?_) rfl (by kernel_rfl) (by kernel_rfl) (by kernel_rfl) (fun _ _ _ h => h) (Or.inl ⟨by rfl, ?_⟩) hHeld ?_
      rotate_left
      · (intro w hSw; (try dsimp only at hSw); go_simp; (try with_reducible rfl))
      try simp only [Act.put, pT]
      refine wpAnyH_ready (rs := [21]) (by kernel_rfl) (by simp) ?_
      refine AllReadyH.cons rfl (fun K hK => ?_) AllReadyH.nil
      (try simp only [pT])
      rw [if_pos (by rfl)]
      go_simp
      go_at_call 13
      refine (stright_N hpr gpr_ (sm_.le (by omega)) (sn_.le (by omega)) true HD.out).mono ?_
      rintro e w9 ⟨rfl, b⟩
      replace h0 := h0.on b
      replace g0 := g0.on b
      replace h1 := h1.on b
      replace g1 := g1.on b
      replace hxa := hxa.on b
      replace hxb := hxb.on b
      replace hsm := hsm.on b
      replace gsm_ := gsm_.on b
      replace hpr := hpr.on b
      replace gpr_ := gpr_.on b
      replace he := he.on b
      replace hf := hf.on b
      rewrite [cR b pal] at pa0 pa1 pa2 pa3 pa4 pa5
      replace pal := lK b pal
      rewrite [cR b pbl] at pb0 pb1 pb2 pb3 pb4 pb5
      replace pbl := lK b pbl
      rewrite [cR b pfl] at pf0 pf1
      replace pfl := lK b pfl
      rewrite [cR b xal] at xa0 xa1 xa2
      replace xal := lK b xal
      rewrite [cR b xbl] at xb0 xb1 xb2
      replace xbl := lK b xbl
      rewrite [cR b sml] at sm0 sm1 sm2 sm3 sm4 sm5
      replace sml := lK b sml
      rewrite [cR b prl] at pr0 pr1 pr2 pr3 pr4 pr5
      replace prl := lK b prl
      replace cc := bK cc b
      clear b
      refine hK.out _ _ ?_ (fun hHeld => ?_)
      · exact ⟨pa0, pa1, pa2, pa3, pa4, pa5, pb0, pb1, pb2, pb3, pb4, pb5, pf0, pf1, xa0, xa1, xa2, xb0, xb1, xb2, sm0, sm1, sm2, sm3, sm4, sm5, pr0, pr1, pr2, pr3, pr4, pr5⟩
      clear hK K
      try simp only [Act.put, pT]
      refine wpAnyH_take (i := 22) (v := ?_) rfl (by kernel_rfl) (by kernel_rfl) (by kernel_rfl) (fun _ _ _ h => h) (Or.inl ⟨by rfl, ?_⟩) hHeld ?_
      rotate_left
      · (intro w hSw; (try dsimp only at hSw); go_simp; (try with_reducible rfl))
      try simp only [Act.put, pT]
      refine wpAnyH_take (i := 23) (v := ?_) rfl (by kernel_rfl) (by kernel_rfl) (by kernel_rfl) (fun _ _ _ h => h) (Or.inl ⟨by rfl, ?_⟩) hHeld ?_
      rotate_left
      · (intro w hSw; (try dsimp only at hSw); go_simp; (try with_reducible rfl))
      try simp only [Act.put, pT]
      refine wpAnyH_done (by kernel_rfl) ?_ _
      clear hHeld
      clear he hf hsm gsm_
      go_wp2_with fail
      refine (OI hpr gpr_).mono ?_
      rintro e w10 ⟨bw, Aw, nw, cw, Bw, mw, dw, pw, Vw, rw, kw, Uw, ow, qw, rfl, ⟨hw, gw⟩, b⟩
      replace h0 := h0.on b
      replace g0 := g0.on b
      replace h1 := h1.on b
      replace g1 := g1.on b
      replace hxa := hxa.on b
      replace hxb := hxb.on b
      replace hpr := hpr.on b
      replace gpr_ := gpr_.on b
      rewrite [cR b pal] at pa0 pa1 pa2 pa3 pa4 pa5
      replace pal := lK b pal
      rewrite [cR b pbl] at pb0 pb1 pb2 pb3 pb4 pb5
      replace pbl := lK b pbl
      rewrite [cR b pfl] at pf0 pf1
      replace pfl := lK b pfl
      rewrite [cR b xal] at xa0 xa1 xa2
      replace xal := lK b xal
      rewrite [cR b xbl] at xb0 xb1 xb2
      replace xbl := lK b xbl
      rewrite [cR b sml] at sm0 sm1 sm2 sm3 sm4 sm5
      replace sml := lK b sml
      rewrite [cR b prl] at pr0 pr1 pr2 pr3 pr4 pr5
      replace prl := lK b prl
      replace cc := bK cc b
      clear b
      go_wp2_with fail
      generalize hv_ : w10.alloc (.cells #[.bool bw, .slice Aw nw cw, .slice Bw mw dw, .bool pw, .slice Vw rw kw, .slice Uw ow qw] 29) = v11
      have bA : Below w10.heap.size w10 v11 := by rw [← hv_]; exact below_one _ _
      replace h0 := h0.on bA
      replace g0 := g0.on bA
      replace h1 := h1.on bA
      replace g1 := g1.on bA
      replace hxa := hxa.on bA
      replace hxb := hxb.on bA
      replace hpr := hpr.on bA
      replace gpr_ := gpr_.on bA
      replace hw := hw.on bA
      replace gw := gw.on bA
      rewrite [cR bA pal] at pa0 pa1 pa2 pa3 pa4 pa5
      replace pal := lK bA pal
      rewrite [cR bA pbl] at pb0 pb1 pb2 pb3 pb4 pb5
      replace pbl := lK bA pbl
      rewrite [cR bA pfl] at pf0 pf1
      replace pfl := lK bA pfl
      rewrite [cR bA xal] at xa0 xa1 xa2
      replace xal := lK bA xal
      rewrite [cR bA xbl] at xb0 xb1 xb2
      replace xbl := lK bA xbl
      rewrite [cR bA sml] at sm0 sm1 sm2 sm3 sm4 sm5
      replace sml := lK bA sml
      rewrite [cR bA prl] at pr0 pr1 pr2 pr3 pr4 pr5
      replace prl := lK bA prl
      replace cc := bK cc bA
      clear bA
      obtain ⟨wi0, wi1, wi2, wi3, wi4, wi5⟩ : Cs6 v11 w10.heap.size (.bool bw) (.slice Aw nw cw) (.slice Bw mw dw) (.bool pw) (.slice Vw rw kw) (.slice Uw ow qw) := by simp [Cs6, ← hv_, go_sem]
      have wil : w10.heap.size < v11.heap.size := by simp [← hv_]
      clear hv_
      go_wp2_with fail
      refine (stin_N hpr gpr_ (sm_.le (by omega)) (sn_.le (by omega)) hw gw (zl_.le (by omega)) (zh_.le (by omega)) true HE.out).mono ?_
      rintro e w12 ⟨rfl, b⟩
      replace h0 := h0.on b
      replace g0 := g0.on b
      replace h1 := h1.on b
      replace g1 := g1.on b
      replace hxa := hxa.on b
      replace hxb := hxb.on b
      replace hpr := hpr.on b
      replace gpr_ := gpr_.on b
      replace hw := hw.on b
      replace gw := gw.on b
      rewrite [cR b pal] at pa0 pa1 pa2 pa3 pa4 pa5
      replace pal := lK b pal
      rewrite [cR b pbl] at pb0 pb1 pb2 pb3 pb4 pb5
      replace pbl := lK b pbl
      rewrite [cR b pfl] at pf0 pf1
      replace pfl := lK b pfl
      rewrite [cR b xal] at xa0 xa1 xa2
      replace xal := lK b xal
      rewrite [cR b xbl] at xb0 xb1 xb2
      replace xbl := lK b xbl
      rewrite [cR b sml] at sm0 sm1 sm2 sm3 sm4 sm5
      replace sml := lK b sml
      rewrite [cR b prl] at pr0 pr1 pr2 pr3 pr4 pr5
      replace prl := lK b prl
      rewrite [cR b wil] at wi0 wi1 wi2 wi3 wi4 wi5
      replace wil := lK b wil
      replace cc := bK cc b
      clear b
      go_wp2_with fail
      refine (stright_N hw gw (zl_.le (by omega)) (zh_.le (by omega)) true HF.out).mono ?_
      rintro e w13 ⟨rfl, b⟩
      replace h0 := h0.on b
      replace g0 := g0.on b
      replace h1 := h1.on b
      replace g1 := g1.on b
      replace hxa := hxa.on b
      replace hxb := hxb.on b
      replace hpr := hpr.on b
      replace gpr_ := gpr_.on b
      replace hw := hw.on b
      replace gw := gw.on b
      rewrite [cR b pal] at pa0 pa1 pa2 pa3 pa4 pa5
      replace pal := lK b pal
      rewrite [cR b pbl] at pb0 pb1 pb2 pb3 pb4 pb5
      replace pbl := lK b pbl
      rewrite [cR b pfl] at pf0 pf1
      replace pfl := lK b pfl
      rewrite [cR b xal] at xa0 xa1 xa2
      replace xal := lK b xal
      rewrite [cR b xbl] at xb0 xb1 xb2
      replace xbl := lK b xbl
      rewrite [cR b sml] at sm0 sm1 sm2 sm3 sm4 sm5
      replace sml := lK b sml
      rewrite [cR b prl] at pr0 pr1 pr2 pr3 pr4 pr5
      replace prl := lK b prl
      rewrite [cR b wil] at wi0 wi1 wi2 wi3 wi4 wi5
      replace wil := lK b wil
      replace cc := bK cc b
      clear b
      clear hpr gpr_ hw gw
      go_wp2_with fail
      refine (DI h0 g0 h1 g1).mono ?_
      rintro e w14 ⟨bj, Aj, nj, cj, Bj, mj, dj, pj, Vj, rj, kj, Uj, oj, qj, rfl, ⟨hj, gj⟩, b⟩
      replace h0 := h0.on b
      replace g0 := g0.on b
      replace h1 := h1.on b
      replace g1 := g1.on b
      replace hxa := hxa.on b
      replace hxb := hxb.on b
      rewrite [cR b pal] at pa0 pa1 pa2 pa3 pa4 pa5
      replace pal := lK b pal
      rewrite [cR b pbl] at pb0 pb1 pb2 pb3 pb4 pb5
      replace pbl := lK b pbl
      rewrite [cR b pfl] at pf0 pf1
      replace pfl := lK b pfl
      rewrite [cR b xal] at xa0 xa1 xa2
      replace xal := lK b xal
      rewrite [cR b xbl] at xb0 xb1 xb2
      replace xbl := lK b xbl
      rewrite [cR b sml] at sm0 sm1 sm2 sm3 sm4 sm5
      replace sml := lK b sml
      rewrite [cR b prl] at pr0 pr1 pr2 pr3 pr4 pr5
      replace prl := lK b prl
      rewrite [cR b wil] at wi0 wi1 wi2 wi3 wi4 wi5
      replace wil := lK b wil
      replace cc := bK cc b
      clear b
      go_wp2_with fail
      generalize hv_ : w14.alloc (.cells #[.bool bj, .slice Aj nj cj, .slice Bj mj dj, .bool pj, .slice Vj rj kj, .slice Uj oj qj] 29) = v15
      have bA : Below w14.heap.size w14 v15 := by rw [← hv_]; exact below_one _ _
      replace h0 := h0.on bA
      replace g0 := g0.on bA
      replace h1 := h1.on bA
      replace g1 := g1.on bA
      replace hxa := hxa.on bA
      replace hxb := hxb.on bA
      replace hj := hj.on bA
      replace gj := gj.on bA
      rewrite [cR bA pal] at pa0 pa1 pa2 pa3 pa4 pa5
      replace pal := lK bA pal
      rewrite [cR bA pbl] at pb0 pb1 pb2 pb3 pb4 pb5
      replace pbl := lK bA pbl
      rewrite [cR bA pfl] at pf0 pf1
      replace pfl := lK bA pfl
      rewrite [cR bA xal] at xa0 xa1 xa2
      replace xal := lK bA xal
      rewrite [cR bA xbl] at xb0 xb1 xb2
      replace xbl := lK bA xbl
      rewrite [cR bA sml] at sm0 sm1 sm2 sm3 sm4 sm5
      replace sml := lK bA sml
      rewrite [cR bA prl] at pr0 pr1 pr2 pr3 pr4 pr5
      replace prl := lK bA prl
      rewrite [cR bA wil] at wi0 wi1 wi2 wi3 wi4 wi5
      replace wil := lK bA wil
      replace cc := bK cc bA
      clear bA
      obtain ⟨qu0, qu1, qu2, qu3, qu4, qu5⟩ : Cs6 v15 w14.heap.size (.bool bj) (.slice Aj nj cj) (.slice Bj mj dj) (.bool pj) (.slice Vj rj kj) (.slice Uj oj qj) := by simp [Cs6, ← hv_, go_sem]
      have qul : w14.heap.size < v15.heap.size := by simp [← hv_]
      clear hv_
      go_wp2_with fail
      refine (DR hxa hxb).mono ?_
      rintro e w16 ⟨bz, Az, nz, cz, Bz, mz, dz, rfl, hz, b⟩
      replace h0 := h0.on b
      replace g0 := g0.on b
      replace h1 := h1.on b
      replace g1 := g1.on b
      replace hxa := hxa.on b
      replace hxb := hxb.on b
      replace hj := hj.on b
      replace gj := gj.on b
      rewrite [cR b pal] at pa0 pa1 pa2 pa3 pa4 pa5
      replace pal := lK b pal
      rewrite [cR b pbl] at pb0 pb1 pb2 pb3 pb4 pb5
      replace pbl := lK b pbl
      rewrite [cR b pfl] at pf0 pf1
      replace pfl := lK b pfl
      rewrite [cR b xal] at xa0 xa1 xa2
      replace xal := lK b xal
      rewrite [cR b xbl] at xb0 xb1 xb2
      replace xbl := lK b xbl
      rewrite [cR b sml] at sm0 sm1 sm2 sm3 sm4 sm5
      replace sml := lK b sml
      rewrite [cR b prl] at pr0 pr1 pr2 pr3 pr4 pr5
      replace prl := lK b prl
      rewrite [cR b wil] at wi0 wi1 wi2 wi3 wi4 wi5
      replace wil := lK b wil
      rewrite [cR b qul] at qu0 qu1 qu2 qu3 qu4 qu5
      replace qul := lK b qul
      replace cc := bK cc b
      clear b
      go_wp2_with fail
      generalize hv_ : w16.alloc (.cells #[.bool bz, .slice Az nz cz, .slice Bz mz dz] 27) = v17
      have bA : Below w16.heap.size w16 v17 := by rw [← hv_]; exact below_one _ _
      replace h0 := h0.on bA
      replace g0 := g0.on bA
      replace h1 := h1.on bA
      replace g1 := g1.on bA
      replace hxa := hxa.on bA
      replace hxb := hxb.on bA
      replace hj := hj.on bA
      replace gj := gj.on bA
      replace hz := hz.on bA
      rewrite [cR bA pal] at pa0 pa1 pa2 pa3 pa4 pa5
      replace pal := lK bA pal
      rewrite [cR bA pbl] at pb0 pb1 pb2 pb3 pb4 pb5
      replace pbl := lK bA pbl
      rewrite [cR bA pfl] at pf0 pf1
      replace pfl := lK bA pfl
      rewrite [cR bA xal] at xa0 xa1 xa2
      replace xal := lK bA xal
      rewrite [cR bA xbl] at xb0 xb1 xb2
      replace xbl := lK bA xbl
      rewrite [cR bA sml] at sm0 sm1 sm2 sm3 sm4 sm5
      replace sml := lK bA sml
      rewrite [cR bA prl] at pr0 pr1 pr2 pr3 pr4 pr5
      replace prl := lK bA prl
      rewrite [cR bA wil] at wi0 wi1 wi2 wi3 wi4 wi5
      replace wil := lK bA wil
      rewrite [cR bA qul] at qu0 qu1 qu2 qu3 qu4 qu5
      replace qul := lK bA qul
      replace cc := bK cc bA
      clear bA
      obtain ⟨zz0, zz1, zz2⟩ : Cs3 v17 w16.heap.size (.bool bz) (.slice Az nz cz) (.slice Bz mz dz) := by simp [Cs3, ← hv_, go_sem]
      have zzl : w16.heap.size < v17.heap.size := by simp [← hv_]
      clear hv_
      go_wp2_with fail
      have bD : Below v17.heap.size v17 v17.drew := below_drewN (Below.refl _ v17) 1
      replace h0 := h0.on bD
      replace g0 := g0.on bD
      replace h1 := h1.on bD
      replace g1 := g1.on bD
      replace hxa := hxa.on bD
      replace hxb := hxb.on bD
      replace hj := hj.on bD
      replace gj := gj.on bD
      replace hz := hz.on bD
      rewrite [cR bD pal] at pa0 pa1 pa2 pa3 pa4 pa5
      replace pal := lK bD pal
      rewrite [cR bD pbl] at pb0 pb1 pb2 pb3 pb4 pb5
      replace pbl := lK bD pbl
      rewrite [cR bD pfl] at pf0 pf1
      replace pfl := lK bD pfl
      rewrite [cR bD xal] at xa0 xa1 xa2
      replace xal := lK bD xal
      rewrite [cR bD xbl] at xb0 xb1 xb2
      replace xbl := lK bD xbl
      rewrite [cR bD sml] at sm0 sm1 sm2 sm3 sm4 sm5
      replace sml := lK bD sml
      rewrite [cR bD prl] at pr0 pr1 pr2 pr3 pr4 pr5
      replace prl := lK bD prl
      rewrite [cR bD wil] at wi0 wi1 wi2 wi3 wi4 wi5
      replace wil := lK bD wil
      rewrite [cR bD qul] at qu0 qu1 qu2 qu3 qu4 qu5
      replace qul := lK bD qul
      rewrite [cR bD zzl] at zz0 zz1 zz2
      replace zzl := lK bD zzl
      replace cc := bK cc bD
      clear bD
      refine wp_region_held_drew (S := fun w' => w'.cell? ⟨w.heap.size, 0, none⟩ = some (.bool b0) ∧ w'.cell? ⟨w.heap.size, 1, none⟩ = some (.slice A0 n0 c0) ∧ w'.cell? ⟨w.heap.size, 2, none⟩ = some (.slice B0 m0 d0) ∧ w'.cell? ⟨w.heap.size, 3, none⟩ = some (.bool p0) ∧ w'.cell? ⟨w.heap.size, 4, none⟩ = some (.slice V0 r0 k0) ∧ w'.cell? ⟨w.heap.size, 5, none⟩ = some (.slice U0 o0 q0) ∧ w'.cell? ⟨w.heap.size + 1, 0, none⟩ = some (.bool b1) ∧ w'.cell? ⟨w.heap.size + 1, 1, none⟩ = some (.slice A1 n1 c1) ∧ w'.cell? ⟨w.heap.size + 1, 2, none⟩ = some (.slice B1 m1 d1) ∧ w'.cell? ⟨w.heap.size + 1, 3, none⟩ = some (.bool p1) ∧ w'.cell? ⟨w.heap.size + 1, 4, none⟩ = some (.slice V1 r1 k1) ∧ w'.cell? ⟨w.heap.size + 1, 5, none⟩ = some (.slice U1 o1 q1) ∧ w'.cell? ⟨w.heap.size + 1 + 1, 0, none⟩ = some (.int .u8 f0) ∧ w'.cell? ⟨w.heap.size + 1 + 1, 1, none⟩ = some (.int .u8 f1) ∧ w'.cell? ⟨gxa, 0, none⟩ = some (.bool bxa) ∧ w'.cell? ⟨gxa, 1, none⟩ = some (.slice Axa nxa kxa) ∧ w'.cell? ⟨gxa, 2, none⟩ = some (.slice Cxa mxa dxa) ∧ w'.cell? ⟨gxb, 0, none⟩ = some (.bool bxb) ∧ w'.cell? ⟨gxb, 1, none⟩ = some (.slice Axb nxb kxb) ∧ w'.cell? ⟨gxb, 2, none⟩ = some (.slice Cxb mxb dxb) ∧ w'.cell? ⟨gsm, 0, none⟩ = some (.bool bsm) ∧ w'.cell? ⟨gsm, 1, none⟩ = some (.slice Asm nsm csm) ∧ w'.cell? ⟨gsm, 2, none⟩ = some (.slice Bsm msm dsm) ∧ w'.cell? ⟨gsm, 3, none⟩ = some (.bool psm) ∧ w'.cell? ⟨gsm, 4, none⟩ = some (.slice Vsm rsm ksm) ∧ w'.cell? ⟨gsm, 5, none⟩ = some (.slice Usm osm qsm) ∧ w'.cell? ⟨gpr, 0, none⟩ = some (.bool bpr) ∧ w'.cell? ⟨gpr, 1, none⟩ = some (.slice Apr npr cpr) ∧ w'.cell? ⟨gpr, 2, none⟩ = some (.slice Bpr mpr dpr) ∧ w'.cell? ⟨gpr, 3, none⟩ = some (.bool ppr) ∧ w'.cell? ⟨gpr, 4, none⟩ = some (.slice Vpr rpr kpr) ∧ w'.cell? ⟨gpr, 5, none⟩ = some (.slice Upr opr qpr) ∧ w'.cell? ⟨w10.heap.size, 0, none⟩ = some (.bool bw) ∧ w'.cell? ⟨w10.heap.size, 1, none⟩ = some (.slice Aw nw cw) ∧ w'.cell? ⟨w10.heap.size, 2, none⟩ = some (.slice Bw mw dw) ∧ w'.cell? ⟨w10.heap.size, 3, none⟩ = some (.bool pw) ∧ w'.cell? ⟨w10.heap.size, 4, none⟩ = some (.slice Vw rw kw) ∧ w'.cell? ⟨w10.heap.size, 5, none⟩ = some (.slice Uw ow qw) ∧ w'.cell? ⟨w14.heap.size, 0, none⟩ = some (.bool bj) ∧ w'.cell? ⟨w14.heap.size, 1, none⟩ = some (.slice Aj nj cj) ∧ w'.cell? ⟨w14.heap.size, 2, none⟩ = some (.slice Bj mj dj) ∧ w'.cell? ⟨w14.heap.size, 3, none⟩ = some (.bool pj) ∧ w'.cell? ⟨w14.heap.size, 4, none⟩ = some (.slice Vj rj kj) ∧ w'.cell? ⟨w14.heap.size, 5, none⟩ = some (.slice Uj oj qj) ∧ w'.cell? ⟨w16.heap.size, 0, none⟩ = some (.bool bz) ∧ w'.cell? ⟨w16.heap.size, 1, none⟩ = some (.slice Az nz cz) ∧ w'.cell? ⟨w16.heap.size, 2, none⟩ = some (.slice Bz mz dz)) (by kernel_rfl) ?_ (fun hHeld => ?_)
      · exact ⟨pa0, pa1, pa2, pa3, pa4, pa5, pb0, pb1, pb2, pb3, pb4, pb5, pf0, pf1, xa0, xa1, xa2, xb0, xb1, xb2, sm0, sm1, sm2, sm3, sm4, sm5, pr0, pr1, pr2, pr3, pr4, pr5, wi0, wi1, wi2, wi3, wi4, wi5, qu0, qu1, qu2, qu3, qu4, qu5, zz0, zz1, zz2⟩
      refine wpAnyH_take (i := 0) (v := ?_) rfl (by kernel_rfl) (by kernel_rfl) (by kernel_rfl) (fun _ _ _ h => h) (Or.inl ⟨by rfl, ?_⟩) hHeld ?_
      rotate_left
      · (intro w hSw; (try dsimp only at hSw); go_simp; (try with_reducible rfl))
      try simp only [Act.put, pT]
      refine wpAnyH_ready (rs := [1]) (by kernel_rfl) (by simp) ?_
      refine AllReadyH.cons rfl (fun K hK => ?_) AllReadyH.nil
      (try simp only [pT])
      rw [if_pos (by rfl)]
      go_simp
      go_at_call 36
      refine (C0 _).mono ?_
      rintro e w18 ⟨be, Ae, ne, ce, Be, me, de, rfl, he, b⟩
      replace h0 := h0.on b
      replace g0 := g0.on b
      replace h1 := h1.on b
      replace g1 := g1.on b
      replace hxa := hxa.on b
      replace hxb := hxb.on b
      replace hj := hj.on b
      replace gj := gj.on b
      replace hz := hz.on b
      rewrite [cR b pal] at pa0 pa1 pa2 pa3 pa4 pa5
      replace pal := lK b pal
      rewrite [cR b pbl] at pb0 pb1 pb2 pb3 pb4 pb5
      replace pbl := lK b pbl
      rewrite [cR b pfl] at pf0 pf1
      replace pfl := lK b pfl
      rewrite [cR b xal] at xa0 xa1 xa2
      replace xal := lK b xal
      rewrite [cR b xbl] at xb0 xb1 xb2
      replace xbl := lK b xbl
      rewrite [cR b sml] at sm0 sm1 sm2 sm3 sm4 sm5
      replace sml := lK b sml
      rewrite [cR b prl] at pr0 pr1 pr2 pr3 pr4 pr5
      replace prl := lK b prl
      rewrite [cR b wil] at wi0 wi1 wi2 wi3 wi4 wi5
      replace wil := lK b wil
      rewrite [cR b qul] at qu0 qu1 qu2 qu3 qu4 qu5
      replace qul := lK b qul
      rewrite [cR b zzl] at zz0 zz1 zz2
      replace zzl := lK b zzl
      replace cc := bK cc b
      clear b
      refine hK.out _ _ ?_ (fun hHeld => ?_)
      · exact ⟨pa0, pa1, pa2, pa3, pa4, pa5, pb0, pb1, pb2, pb3, pb4, pb5, pf0, pf1, xa0, xa1, xa2, xb0, xb1, xb2, sm0, sm1, sm2, sm3, sm4, sm5, pr0, pr1, pr2, pr3, pr4, pr5, wi0, wi1, wi2, wi3, wi4, wi5, qu0, qu1, qu2, qu3, qu4, qu5, zz0, zz1, zz2⟩
      clear hK K
      try simp only [Act.put, pT]
      refine wpAnyH_ready (rs := [2]) (by kernel_rfl) (by simp) ?_
      refine AllReadyH.cons rfl (fun K hK => ?_) AllReadyH.nil
      (try simp only [pT])
      rw [if_pos (by rfl)]
      go_simp
      go_at_call 19
      refine (sthas_N h1 g1 (s1.le (by omega)) (t1.le (by omega)) he (s0_.le (by omega)) false HZ.out).mono ?_
      rintro e w19 ⟨rfl, b⟩
      replace h0 := h0.on b
      replace g0 := g0.on b
      replace h1 := h1.on b
      replace g1 := g1.on b
      replace hxa := hxa.on b
      replace hxb := hxb.on b
      replace hj := hj.on b
      replace gj := gj.on b
      replace hz := hz.on b
      replace he := he.on b
      rewrite [cR b pal] at pa0 pa1 pa2 pa3 pa4 pa5
      replace pal := lK b pal
      rewrite [cR b pbl] at pb0 pb1 pb2 pb3 pb4 pb5
      replace pbl := lK b pbl
      rewrite [cR b pfl] at pf0 pf1
      replace pfl := lK b pfl
      rewrite [cR b xal] at xa0 xa1 xa2
      replace xal := lK b xal
      rewrite [cR b xbl] at xb0 xb1 xb2
      replace xbl := lK b xbl
      rewrite [cR b sml] at sm0 sm1 sm2 sm3 sm4 sm5
      replace sml := lK b sml
      rewrite [cR b prl] at pr0 pr1 pr2 pr3 pr4 pr5
      replace prl := lK b prl
      rewrite [cR b wil] at wi0 wi1 wi2 wi3 wi4 wi5
      replace wil := lK b wil
      rewrite [cR b qul] at qu0 qu1 qu2 qu3 qu4 qu5
      replace qul := lK b qul
      rewrite [cR b zzl] at zz0 zz1 zz2
      replace zzl := lK b zzl
      replace cc := bK cc b
      clear b
      refine hK.out _ _ ?_ (fun hHeld => ?_)
      · exact ⟨pa0, pa1, pa2, pa3, pa4, pa5, pb0, pb1, pb2, pb3, pb4, pb5, pf0, pf1, xa0, xa1, xa2, xb0, xb1, xb2, sm0, sm1, sm2, sm3, sm4, sm5, pr0, pr1, pr2, pr3, pr4, pr5, wi0, wi1, wi2, wi3, wi4, wi5, qu0, qu1, qu2, qu3, qu4, qu5, zz0, zz1, zz2⟩
      clear hK K
      try simp only [Act.put, pT]
      refine wpAnyH_take (i := 3) (v := ?_) rfl (by kernel_rfl) (by kernel_rfl) (by kernel_rfl) (fun _ _ _ h => h) (Or.inl ⟨by rfl, ?_⟩) hHeld ?_
      rotate_left
      · (intro w hSw; (try dsimp only at hSw); go_simp; (try with_reducible rfl))
      try simp only [Act.put, pT]
      refine wpAnyH_done (by kernel_rfl) ?_ _
      clear hHeld
      clear he h0 g0 h1 g1 hxa hxb
      go_wp2_with fail
      refine (alive7_any _).mono ?_
      rintro e w20 ⟨rfl, b⟩
      replace hj := hj.on b
      replace gj := gj.on b
      replace hz := hz.on b
      rewrite [cR b pal] at pa0 pa1 pa2 pa3 pa4 pa5
      replace pal := lK b pal
      rewrite [cR b pbl] at pb0 pb1 pb2 pb3 pb4 pb5
      replace pbl := lK b pbl
      rewrite [cR b pfl] at pf0 pf1
      replace pfl := lK b pfl
      rewrite [cR b xal] at xa0 xa1 xa2
      replace xal := lK b xal
      rewrite [cR b xbl] at xb0 xb1 xb2
      replace xbl := lK b xbl
      rewrite [cR b sml] at sm0 sm1 sm2 sm3 sm4 sm5
      replace sml := lK b sml
      rewrite [cR b prl] at pr0 pr1 pr2 pr3 pr4 pr5
      replace prl := lK b prl
      rewrite [cR b wil] at wi0 wi1 wi2 wi3 wi4 wi5
      replace wil := lK b wil
      rewrite [cR b qul] at qu0 qu1 qu2 qu3 qu4 qu5
      replace qul := lK b qul
      rewrite [cR b zzl] at zz0 zz1 zz2
      replace zzl := lK b zzl
      replace cc := bK cc b
      clear b
      go_wp2_with fail
      refine (sthas_N hj gj (sd_.le (by omega)) (se_.le (by omega)) hz (sz_.le (by omega)) true HG.out).mono ?_
      rintro e w21 ⟨rfl, b⟩
      replace hj := hj.on b
      replace gj := gj.on b
      replace hz := hz.on b
      rewrite [cR b pal] at pa0 pa1 pa2 pa3 pa4 pa5
      replace pal := lK b pal
      rewrite [cR b pbl] at pb0 pb1 pb2 pb3 pb4 pb5
      replace pbl := lK b pbl
      rewrite [cR b pfl] at pf0 pf1
      replace pfl := lK b pfl
      rewrite [cR b xal] at xa0 xa1 xa2
      replace xal := lK b xal
      rewrite [cR b xbl] at xb0 xb1 xb2
      replace xbl := lK b xbl
      rewrite [cR b sml] at sm0 sm1 sm2 sm3 sm4 sm5
      replace sml := lK b sml
      rewrite [cR b prl] at pr0 pr1 pr2 pr3 pr4 pr5
      replace prl := lK b prl
      rewrite [cR b wil] at wi0 wi1 wi2 wi3 wi4 wi5
      replace wil := lK b wil
      rewrite [cR b qul] at qu0 qu1 qu2 qu3 qu4 qu5
      replace qul := lK b qul
      rewrite [cR b zzl] at zz0 zz1 zz2
      replace zzl := lK b zzl
      replace cc := bK cc b
      clear b
      go_wp2_with fail
      refine (stright_N hj gj (sd_.le (by omega)) (se_.le (by omega)) true HH.out).mono ?_
      rintro e w22 ⟨rfl, b⟩
      replace hj := hj.on b
      replace gj := gj.on b
      replace hz := hz.on b
      rewrite [cR b pal] at pa0 pa1 pa2 pa3 pa4 pa5
      replace pal := lK b pal
      rewrite [cR b pbl] at pb0 pb1 pb2 pb3 pb4 pb5
      replace pbl := lK b pbl
      rewrite [cR b pfl] at pf0 pf1
      replace pfl := lK b pfl
      rewrite [cR b xal] at xa0 xa1 xa2
      replace xal := lK b xal
      rewrite [cR b xbl] at xb0 xb1 xb2
      replace xbl := lK b xbl
      rewrite [cR b sml] at sm0 sm1 sm2 sm3 sm4 sm5
      replace sml := lK b sml
      rewrite [cR b prl] at pr0 pr1 pr2 pr3 pr4 pr5
      replace prl := lK b prl
      rewrite [cR b wil] at wi0 wi1 wi2 wi3 wi4 wi5
      replace wil := lK b wil
      rewrite [cR b qul] at qu0 qu1 qu2 qu3 qu4 qu5
      replace qul := lK b qul
      rewrite [cR b zzl] at zz0 zz1 zz2
      replace zzl := lK b zzl
      replace cc := bK cc b
      clear b
      go_wp2_with fail
      go_ret
      exact ⟨rfl, cc⟩

end Go.Proofs.YtanpklbconflmaaGreat
