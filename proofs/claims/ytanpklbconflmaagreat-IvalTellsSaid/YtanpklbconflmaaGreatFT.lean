/-
  Whether a span of few limbs is right, told by both.
-/
import Derived.Test.YtanpklbconflmaaGreatA13
namespace Go.Proofs.YtanpklbconflmaaGreat
set_option maxRecDepth 100000
open Go.RowKit
set_option linter.unusedVariables false
set_option linter.unusedSimpArgs false

theorem rights_any {w : World} {b0 p0 : Bool} {A0 B0 V0 U0 : Option Addr} {n0 c0 m0 d0 r0 k0 o0 q0 : Nat} {la lb lc ld : List Nat} (ha : Lim w.heap.size w A0 n0 c0 la) (hb : Lim w.heap.size w B0 m0 d0 lb) (hc : Lim w.heap.size w V0 r0 k0 lc) (hd : Lim w.heap.size w U0 o0 q0 ld) (n1_ : n0 ≤ 3) (m1_ : m0 ≤ 3) (n2_ : r0 ≤ 3) (m2_ : o0 ≤ 3) :
    ∃ z : Bool, (∀ W : World, Below w.heap.size w W → Calls Tryz.prog 12 #[.agg #[.bool b0, .slice A0 n0 c0, .slice B0 m0 d0, .bool p0, .slice V0 r0 k0, .slice U0 o0 q0]] W (GotV W (.bool z))) ∧ (∀ W : World, Below w.heap.size w W → Calls Tryz.prog 13 #[.agg #[.bool b0, .slice A0 n0 c0, .slice B0 m0 d0, .bool p0, .slice V0 r0 k0, .slice U0 o0 q0]] W (GotV W (.bool z))) := by
  cases e1 : okR b0 n0 la m0 lb with
  | false => exact ⟨false, fun W hW => iright_0 (ha.on hW) (hb.on hW) (hc.on hW) (hd.on hW) (by omega) (by omega) (by omega) (by omega) e1, fun W hW => stright_0 (ha.on hW) (hb.on hW) (hc.on hW) (hd.on hW) (by omega) (by omega) (by omega) (by omega) e1⟩
  | true =>
    cases e2 : okR p0 r0 lc o0 ld with
    | false => exact ⟨false, fun W hW => iright_1 (ha.on hW) (hb.on hW) (hc.on hW) (hd.on hW) (by omega) (by omega) (by omega) (by omega) e1 e2, fun W hW => stright_1 (ha.on hW) (hb.on hW) (hc.on hW) (hd.on hW) (by omega) (by omega) (by omega) (by omega) e1 e2⟩
    | true =>
      have tt : ∀ {n m : Nat}, n ≤ 3 → m ≤ 3 → (decide ((n : Int) ≤ ((3 : Nat) : Int)) && (decide ((m : Int) ≤ ((3 : Nat) : Int)) && true)) = true := fun h1 h2 => by rw [decide_eq_true (by omega), decide_eq_true (by omega)]; rfl
      obtain ⟨x, hx, sx⟩ := few_rt 3 ha hb (by rw [e1]; exact tt n1_ m1_)
      obtain ⟨y, hy, sy⟩ := few_rt 3 hc hd (by rw [e2]; exact tt n2_ m2_)
      exact ⟨decide (x ≤ y), fun W hW => iright_N (hx.on hW) (hy.on hW) (sx.le (by omega)) (sy.le (by omega)) _ rfl, fun W hW => stright_N (hx.on hW) (hy.on hW) (sx.le (by omega)) (sy.le (by omega)) _ rfl⟩

end Go.Proofs.YtanpklbconflmaaGreat
