/-
  The walk of IvalOuts.
-/
import Derived.Test.YtanpklbconflmaaGreatWOuts7
import Derived.Test.YtanpklbconflmaaGreatFO
namespace Go.Proofs.YtanpklbconflmaaGreat
set_option maxRecDepth 100000
open Go.RowKit
set_option linter.unusedVariables false
set_option linter.unusedSimpArgs false

set_option maxHeartbeats 8000000 in
theorem IvalOuts_walk {w : World} (b0 : Bool) {A0 : Option Addr} {n0 c0 : Nat} {la0 : List Nat} {B0 : Option Addr} {m0 d0 : Nat} {lb0 : List Nat} (p0 : Bool) {V0 : Option Addr} {r0 k0 : Nat} {lc0 : List Nat} {U0 : Option Addr} {o0 q0 : Nat} {ld0 : List Nat} (ha0 : Lim w.heap.size w A0 n0 c0 la0) (hb0 : Lim w.heap.size w B0 m0 d0 lb0) (hc0 : Lim w.heap.size w V0 r0 k0 lc0) (hd0 : Lim w.heap.size w U0 o0 q0 ld0) (j : Int) (hj : (Lit.int .i64 j).wf = true) :
    Calls Tryz.prog 5 #[.agg #[.bool b0, .slice A0 n0 c0, .slice B0 m0 d0, .bool p0, .slice V0 r0 k0, .slice U0 o0 q0], .int .i64 j] w (fun e w' => e = .returned (.bool true) ∧ Below w.heap.size w w') := by
  obtain ⟨z0, G0, K0⟩ := stfew_any ha0 hb0 hc0 hd0 3 (by omega)
  cases z0 with
  | false => exact IvalOuts_no0 G0
  | true =>
    obtain ⟨x0, y0, h0, g0, s0, t0, e0⟩ := K0 rfl
    by_cases j0 : j < 0
    · exact IvalOuts_low h0 g0 s0 t0 G0 j0
    by_cases j1 : 1000 < j
    · exact IvalOuts_high h0 g0 s0 t0 G0 j1
    by_cases j2 : 300 < j
    · exact IvalOuts_mid G0 j2 (by omega)
    cases hb : b0 with
    | true => subst hb; exact IvalOuts_neg h0 g0 s0 t0 G0 (by omega) (by omega) rfl
    | false => subst hb; exact IvalOuts_ok h0 g0 s0 t0 G0 (by omega) (by omega) rfl e0

end Go.Proofs.YtanpklbconflmaaGreat
