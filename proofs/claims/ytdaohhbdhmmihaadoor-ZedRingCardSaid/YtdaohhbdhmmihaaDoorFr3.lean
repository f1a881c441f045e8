/-
  Several texts in one: Fr, Fr2.
-/
import Derived.WalkKit
import Derived.ProofKit
import Derived.OpenShut
import Derived.ShutString
import Derived.ChangeOld
import Derived.Below
import Derived.Lib.SmallJoins
import Derived.Test.YtdaohhbdhmmihaaDoorA2

/-
  An integer that came in: its side, and its digits.
-/
namespace Go.Proofs.YtdaohhbdhmmihaaDoor
open Go.ChangeShapes Go.WideShapes Go.ChangeAt Go.RowKit Go.Joins

set_option maxRecDepth 100000 in
theorem open_zed {H : Type} {enc : TypeId × Value → H} {W : World} {base b0 : Nat} {held : Bool} {r : Reach} {v : Value} {d : DataW H} {p : List MemPlace} (hv : Value.okWide Tryd.prog W r b0 25 v) (h : DataW.Trod enc Tryd.prog W base (fun _ => true) held 25 v d p) :
    ∃ (b : Bool) (a : Option Addr) (len cap : Nat) (l : List Nat), v = .agg #[.bool b, .slice a len cap] ∧ Lim W.heap.size W a len cap l ∧ len ≤ 9223372036854775807 := by
  obtain ⟨v0, v1, y0, y1, n, rfl, _, _, h0, h1⟩ := open_agg2 Tryd.underlying25 (by kernel_rfl) (by kernel_rfl) hv h
  obtain ⟨b, hb, _⟩ := DataW.trod_bool Tryd.underlying4 h0
  injection hb with hb _
  subst hb
  rcases open_ints Tryd.underlying23 Tryd.underlying51 (by kernel_rfl) h1 with ⟨hcs, _⟩ | ⟨x, l, c, zs, hcs, _, hl, hm, hz, _, hcell, hwz⟩
  · injection hcs with hcs _
    subst hcs
    obtain ⟨l, hl, hs⟩ := arg_of_row (w := W) (a := none) (len := 0) (cap := 0) (zs := []) (.inl ⟨rfl, rfl, rfl, rfl⟩)
    exact ⟨b, none, 0, 0, l, rfl, hl, hs⟩
  · injection hcs with hcs _
    subst hcs
    obtain ⟨l', hl', hs⟩ := arg_of_row (w := W) (a := some x) (len := l) (cap := c) (zs := zs) (.inr ⟨x, rfl, hl, hm, by simpa using hz, hcell, hwz⟩)
    exact ⟨b, some x, l, c, l', rfl, hl', hs⟩

end Go.Proofs.YtdaohhbdhmmihaaDoor

/-
  An array of two integers that came in.
-/
namespace Go.Proofs.YtdaohhbdhmmihaaDoor
open Go.ChangeShapes Go.WideShapes Go.ChangeAt Go.RowKit Go.Joins

set_option maxRecDepth 100000 in
theorem open_pair {H : Type} {enc : TypeId × Value → H} {W : World} {base b0 : Nat} {held : Bool} {r : Reach} {v : Value} {d : DataW H} {p : List MemPlace} (hv : Value.okWide Tryd.prog W r b0 43 v) (h : DataW.Trod enc Tryd.prog W base (fun _ => true) held 43 v d p) :
    ∃ x y : Int, v = .agg #[.int .i64 x, .int .i64 y] ∧ (Lit.int .i64 x).wf = true ∧ (Lit.int .i64 y).wf = true := by
  have hu : Tryd.prog.underlying 43 = some (.array 2 2) := Tryd.underlying43
  have e1 : Tryd.prog.cellsOf 2 = 1 := by kernel_rfl
  have e2 : Tryd.prog.cellsOf 43 = 2 := by kernel_rfl
  simp only [Value.okWide, hu] at hv
  obtain ⟨cs, rfl, hsz, _⟩ := hv
  obtain ⟨c0, c1, rfl⟩ := array2 (hsz.trans e2)
  obtain ⟨fuel, hf⟩ := h
  obtain ⟨xs, m, rfl, _, _, hxl, hel⟩ := DataW.trod_array hu hf
  obtain ⟨x0, x1, rfl⟩ : ∃ x0 x1, xs = [x0, x1] := by
    match xs, hxl with
    | [a, b], _ => exact ⟨a, b, rfl⟩
  have h0 := hel 0 (by omega)
  have h1 := hel 1 (by omega)
  rw [e1] at h0 h1
  obtain ⟨z0, k0, _, w0⟩ := DataW.trod_int (x := x0) Tryd.underlying2 h0
  obtain ⟨z1, k1, _, w1⟩ := DataW.trod_int (x := x1) Tryd.underlying2 h1
  simp [Value.cells] at k0 k1
  subst k0
  subst k1
  exact ⟨z0, z1, rfl, w0, w1⟩

end Go.Proofs.YtdaohhbdhmmihaaDoor
