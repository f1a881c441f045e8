/-
  The walk of IvalTurns.
-/
import Derived.Test.YtanpklbconflmaaGreatWTurns7
namespace Go.Proofs.YtanpklbconflmaaGreat
set_option maxRecDepth 100000
open Go.RowKit
set_option linter.unusedVariables false
set_option linter.unusedSimpArgs false

set_option maxHeartbeats 8000000 in
theorem IvalTurns_walk {w : World} (b0 : Bool) {A0 : Option Addr} {n0 c0 : Nat} {la0 : List Nat} {B0 : Option Addr} {m0 d0 : Nat} {lb0 : List Nat} (p0 : Bool) {V0 : Option Addr} {r0 k0 : Nat} {lc0 : List Nat} {U0 : Option Addr} {o0 q0 : Nat} {ld0 : List Nat} (ha0 : Lim w.heap.size w A0 n0 c0 la0) (hb0 : Lim w.heap.size w B0 m0 d0 lb0) (hc0 : Lim w.heap.size w V0 r0 k0 lc0) (hd0 : Lim w.heap.size w U0 o0 q0 ld0) (b1 : Bool) {A1 : Option Addr} {n1 c1 : Nat} {la1 : List Nat} {B1 : Option Addr} {m1 d1 : Nat} {lb1 : List Nat} (p1 : Bool) {V1 : Option Addr} {r1 k1 : Nat} {lc1 : List Nat} {U1 : Option Addr} {o1 q1 : Nat} {ld1 : List Nat} (ha1 : Lim w.heap.size w A1 n1 c1 la1) (hb1 : Lim w.heap.size w B1 m1 d1 lb1) (hc1 : Lim w.heap.size w V1 r1 k1 lc1) (hd1 : Lim w.heap.size w U1 o1 q1 ld1) (b2 : Bool) {A2 : Option Addr} {n2 c2 : Nat} {l2 : List Nat} {B2 : Option Addr} {m2 d2 : Nat} {k2 : List Nat} (hl2 : Lim w.heap.size w A2 n2 c2 l2) (hs2 : n2 ≤ 9223372036854775807) (hk2 : Lim w.heap.size w B2 m2 d2 k2) (ht2 : m2 ≤ 9223372036854775807) :
    Calls Tryz.prog 9 #[.agg #[.bool b0, .slice A0 n0 c0, .slice B0 m0 d0, .bool p0, .slice V0 r0 k0, .slice U0 o0 q0], .agg #[.bool b1, .slice A1 n1 c1, .slice B1 m1 d1, .bool p1, .slice V1 r1 k1, .slice U1 o1 q1], .agg #[.bool b2, .slice A2 n2 c2, .slice B2 m2 d2]] w (fun e w' => e = .returned (.bool true) ∧ Below w.heap.size w w') := by
  obtain ⟨z0, G0, K0⟩ := stfew_any ha0 hb0 hc0 hd0 3 (by omega)
  obtain ⟨z1, G1, K1⟩ := stfew_any ha1 hb1 hc1 hd1 3 (by omega)
  cases z0 with
  | false => exact IvalTurns_no0 G0
  | true =>
    cases z1 with
    | false => exact IvalTurns_no1 G0 G1
    | true =>
      obtain ⟨x0, y0, h0, g0, s0, t0, e0⟩ := K0 rfl
      obtain ⟨x1, y1, h1, g1, s1, t1, e1⟩ := K1 rfl
      have GR : ∀ r : Bool, (decide ((n2 : Int) ≤ ((3 : Nat) : Int)) && (decide ((m2 : Int) ≤ ((3 : Nat) : Int)) && okR b2 n2 l2 m2 k2)) = r → ∀ W : World, Below w.heap.size w W → Calls Tryz.prog 10 #[.agg #[.bool b2, .slice A2 n2 c2, .slice B2 m2 d2], .int .i64 3] W (GotV W (.bool r)) := fun r hr W hW => rtfew_any (hl2.on hW) (hk2.on hW) 3 (by omega) r hr
      cases c2_ : (decide ((n2 : Int) ≤ ((3 : Nat) : Int)) && (decide ((m2 : Int) ≤ ((3 : Nat) : Int)) && okR b2 n2 l2 m2 k2)) with
      | false => exact IvalTurns_no2 G0 G1 (GR false c2_)
      | true =>
        obtain ⟨x2, h2, s2⟩ := few_rt 3 hl2 hk2 c2_
        exact IvalTurns_ok h0 g0 s0 t0 h1 g1 s1 t1 h2 s2 G0 G1 (GR true c2_) e0

end Go.Proofs.YtanpklbconflmaaGreat
