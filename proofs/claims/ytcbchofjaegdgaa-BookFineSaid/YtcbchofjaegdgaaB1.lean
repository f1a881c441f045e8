/-
  Rows of integers: what a slice value reads as, what keeps it, what is answered; a row of the call's own.
-/
import Derived.WalkKit
import Derived.WalkSpells
import Derived.WalkLawsBesides
import Derived.Lib.Hide
import Derived.Lib.SliceRun
import Derived.Deep.RegionHeld3
import Derived.Deep.AppendLies
import Derived.Deep.QuietTactic
import Derived.Deep.DeepCutAuto
import Derived.Deep.CutBlock
import Derived.Deep.Draws
import Derived.Laws.OwnMore
import Derived.Below
import Derived.OpenShut
import Derived.Test.YtcbchofjaegdgaaRows
namespace Go.Proofs.Ytcbchofjaegdgaa
set_option maxRecDepth 100000
open Go.RowKit
set_option linter.unusedVariables false

/-- An integer as a value. -/
def encI (z : Int) : Value := .int .i64 z
/-- What 64 bits hold. -/
def Fits (z : Int) : Prop := -9223372036854775808 ≤ z ∧ z ≤ 9223372036854775807
theorem Fits.wrap {z : Int} (h : Fits z) : IntKind.i64.wrap z = z := IntWalk.i64_in z h
theorem infoI : (Try.prog.info? 2).map (fun i => (i.zero, i.size, i.bytes)) = some (some (.int .i64 0), 1, 8) := by kernel_rfl

/-- The slice value '.slice A n c' holds the integers l. -/
def IR (w : World) (A : Option Addr) (n c : Nat) (l : List Int) : Prop :=
  n = l.length ∧ n ≤ c ∧ (0 < n → ∃ b off, A = some ⟨b, off, none⟩ ∧ b < w.heap.size ∧ ∀ j, j < n → w.cell? ⟨b, off + j, none⟩ = some (.int .i64 (l[j]?.getD 0)))
theorem IR.on {w w' : World} {A : Option Addr} {n c : Nat} {l : List Int} (h : IR w A n c l) (hb : Below w.heap.size w w') : IR w' A n c l :=
  ⟨h.1, h.2.1, fun hn => by
    obtain ⟨b, off, e, hlt, hc⟩ := h.2.2 hn
    exact ⟨b, off, e, Nat.lt_of_lt_of_le hlt hb.size, fun j hj => (hb.cell (p := ⟨b, off + j, none⟩) hlt).trans (hc j hj)⟩⟩
theorem IR.nil (w : World) (A : Option Addr) (c : Nat) : IR w A 0 c [] := ⟨rfl, Nat.zero_le _, fun h => absurd h (by omega)⟩
theorem IR.of_own {w : World} {base : Nat} {e : TypeId} {A : Option Addr} {n c : Nat} {l : List Int} (h : w.ownsRow base e 1 (.slice A n c) n (l.map encI)) : IR w A n c l := by
  have hl : n = l.length := by have := h.1; simp at this; omega
  refine ⟨hl, ?_, fun hn => ?_⟩
  · rcases h.2 with ⟨e1, h0⟩ | ⟨g, cap, cur, e1, _, _, hnc, _⟩
    · omega
    · injection e1 with _ _ e2; omega
  · have hlt := h.lt
    rcases h.2 with ⟨e1, h0⟩ | ⟨g, cap, cur, e1, _, _, hnc, _⟩
    · omega
    · injection e1 with e2 _ e3
      subst e2; subst e3
      refine ⟨g, 0, rfl, (hlt g rfl).2, fun j hj => ?_⟩
      have := h.cellAt j (by omega)
      rw [Nat.zero_add, this, List.getElem?_map, List.getElem?_eq_getElem (by omega)]
      simp [encI]

/-- A known value. -/
def GotV (w : World) (v : Value) (e : Ending) (w' : World) : Prop := e = .returned v ∧ Below w.heap.size w w'
/-- A row of integers. -/
def GotI (w : World) (l : List Int) (e : Ending) (w' : World) : Prop := ∃ A n c, e = .returned (.slice A n c) ∧ IR w' A n c l ∧ Below w.heap.size w w'
/-- A row of integers, and a code. -/
def GotIp (w : World) (l : List Int) (r : Int) (e : Ending) (w' : World) : Prop := ∃ A n c, e = .returned (.tuple #[.slice A n c, .int .i64 r]) ∧ IR w' A n c l ∧ Below w.heap.size w w'
end Go.Proofs.Ytcbchofjaegdgaa
