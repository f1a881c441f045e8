/-
  An integer that came in: its side, and its digits.
-/
import Derived.WalkKit
import Derived.ProofKit
import Derived.OpenShut
import Derived.ShutString
import Derived.ChangeOld
import Derived.Below
import Derived.Lib.SmallJoins
import Derived.Test.YtgglcgkgeilblaaA1
namespace Go.Proofs.Ytgglcgkgeilblaa
set_option maxRecDepth 100000
open Go.ChangeShapes Go.WideShapes Go.ChangeAt Go.RowKit Go.Joins

set_option maxRecDepth 100000 in
theorem open_zed {H : Type} {enc : TypeId × Value → H} {W : World} {base b0 : Nat} {held : Bool} {r : Reach} {v : Value} {d : DataW H} {p : List MemPlace} (hv : Value.okWide Try.prog W r b0 34 v) (h : DataW.Trod enc Try.prog W base (fun _ => true) held 34 v d p) :
    ∃ (b : Bool) (a : Option Addr) (len cap : Nat) (l : List Nat), v = .agg #[.bool b, .slice a len cap] ∧ Lim W.heap.size W a len cap l ∧ len ≤ 9223372036854775807 := by
  obtain ⟨v0, v1, y0, y1, n, rfl, _, _, h0, h1⟩ := open_agg2 Try.underlying34 (by kernel_rfl) (by kernel_rfl) hv h
  obtain ⟨b, hb, _⟩ := DataW.trod_bool Try.underlying4 h0
  injection hb with hb _
  subst hb
  rcases open_ints Try.underlying32 Try.underlying56 (by kernel_rfl) h1 with ⟨hcs, _⟩ | ⟨x, l, c, zs, hcs, _, hl, hm, hz, _, hcell, hwz⟩
  · injection hcs with hcs _
    subst hcs
    obtain ⟨l, hl, hs⟩ := arg_of_row (w := W) (a := none) (len := 0) (cap := 0) (zs := []) (.inl ⟨rfl, rfl, rfl, rfl⟩)
    exact ⟨b, none, 0, 0, l, rfl, hl, hs⟩
  · injection hcs with hcs _
    subst hcs
    obtain ⟨l', hl', hs⟩ := arg_of_row (w := W) (a := some x) (len := l) (cap := c) (zs := zs) (.inr ⟨x, rfl, hl, hm, by simpa using hz, hcell, hwz⟩)
    exact ⟨b, some x, l, c, l', rfl, hl', hs⟩

end Go.Proofs.Ytgglcgkgeilblaa
