/-
  The walk of IvalIn.
-/
import Derived.Test.YtanpklbconflmaaGreatWIn7
namespace Go.Proofs.YtanpklbconflmaaGreat
set_option maxRecDepth 100000
open Go.RowKit
set_option linter.unusedVariables false
set_option linter.unusedSimpArgs false

set_option maxHeartbeats 8000000 in
theorem IvalIn_walk {w : World} (b0 : Bool) {A0 : Option Addr} {n0 c0 : Nat} {la0 : List Nat} {B0 : Option Addr} {m0 d0 : Nat} {lb0 : List Nat} (p0 : Bool) {V0 : Option Addr} {r0 k0 : Nat} {lc0 : List Nat} {U0 : Option Addr} {o0 q0 : Nat} {ld0 : List Nat} (ha0 : Lim w.heap.size w A0 n0 c0 la0) (hb0 : Lim w.heap.size w B0 m0 d0 lb0) (hc0 : Lim w.heap.size w V0 r0 k0 lc0) (hd0 : Lim w.heap.size w U0 o0 q0 ld0) (b1 : Bool) {A1 : Option Addr} {n1 c1 : Nat} {la1 : List Nat} {B1 : Option Addr} {m1 d1 : Nat} {lb1 : List Nat} (p1 : Bool) {V1 : Option Addr} {r1 k1 : Nat} {lc1 : List Nat} {U1 : Option Addr} {o1 q1 : Nat} {ld1 : List Nat} (ha1 : Lim w.heap.size w A1 n1 c1 la1) (hb1 : Lim w.heap.size w B1 m1 d1 lb1) (hc1 : Lim w.heap.size w V1 r1 k1 lc1) (hd1 : Lim w.heap.size w U1 o1 q1 ld1) (f0 : Int) (f1 : Int) (f2 : Int) (f3 : Int) (w0_ : (Lit.int .u8 f0).wf = true) (w1_ : (Lit.int .u8 f1).wf = true) (w2_ : (Lit.int .u8 f2).wf = true) (w3_ : (Lit.int .u8 f3).wf = true) :
    Calls Tryz.prog 7 #[.agg #[.bool b0, .slice A0 n0 c0, .slice B0 m0 d0, .bool p0, .slice V0 r0 k0, .slice U0 o0 q0], .agg #[.bool b1, .slice A1 n1 c1, .slice B1 m1 d1, .bool p1, .slice V1 r1 k1, .slice U1 o1 q1], .agg #[.int .u8 f0, .int .u8 f1, .int .u8 f2, .int .u8 f3]] w (fun e w' => e = .returned (.bool true) ∧ Below w.heap.size w w') := by
  obtain ⟨z0, G0, K0⟩ := stfew_any ha0 hb0 hc0 hd0 2 (by omega)
  obtain ⟨z1, G1, K1⟩ := stfew_any ha1 hb1 hc1 hd1 2 (by omega)
  cases z0 with
  | false => exact IvalIn_no0 G0
  | true =>
    cases z1 with
    | false => exact IvalIn_no1 G0 G1
    | true =>
      obtain ⟨x0, y0, h0, g0, s0, t0, e0⟩ := K0 rfl
      obtain ⟨x1, y1, h1, g1, s1, t1, e1⟩ := K1 rfl
      obtain ⟨u0, u1⟩ := bounds_u8 w0_
      obtain ⟨u2, u3⟩ := bounds_u8 w1_
      obtain ⟨u4, u5⟩ := bounds_u8 w2_
      obtain ⟨u6, u7⟩ := bounds_u8 w3_
      exact IvalIn_ok h0 g0 s0 t0 h1 g1 s1 t1 G0 G1 u0 u1 u2 u3 u4 u5 u6 u7 e0 e1

end Go.Proofs.YtanpklbconflmaaGreat
