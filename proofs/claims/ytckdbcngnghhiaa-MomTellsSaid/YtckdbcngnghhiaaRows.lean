/-
  No cell of these rows narrows 'for every input' (looked for: loops, veiled, ifaces, maps, wideKeys, modest, calm, conditions, laid).
  DERIVED. THE GIVEN ROWS OF THIS SEAT. 5 by the template 'for every input the law returns true; each argument reads behind the call as it read before'; 0 by the template 'total and deterministic' (their statements: YtckdbcngnghhiaaTotals.lean).
  GIVEN WITH THE SEED: the statements are not yours to turn. If you find one false, say at which input.
  Laid BY PROGRAM, IN A SANDBOX (cutbox-rows.mjs): the forced cells as the released guide's own fill.sh prints them over the translation 8b55bab9efcbb78b… (all of the seat's roots in one cut). By AI agents, Wed Nov 11 2026. No macro, syntax, notation, axiom, sorry.
-/
import Derived.Test.YtckdbcngnghhiaaChecked
import GoSem.Claim
import GoSem.ClaimJoined
import GoSem.ClaimMapViews
import Derived.JoinedTies
import Derived.KernelRfl
namespace Go.Proofs.Ytckdbcngnghhiaa
/- THE CELL 'sum', in the pinned program and in every row, IS THE sha256 OF THE DUMP (.gsa) THAT YtckdbcngnghhiaaProg.lean LOADS. Nothing in Lean hashes anything: it is a label: what it is worth is what the hold of that sum in a sandbox is worth. -/
noncomputable def Try.pinned : Pinned := { name := "ytckdbcngnghhiaa", sum := "8b55bab9efcbb78bd58594ba76c9ec4bb7fedc5086cf59b7abcd7d06b926b39a", checked := Try.checked }
namespace Rows
def none {H : Type} : Left H := { results := [], args := [] }

/-- 'ratchetlaw17.MomTells': WHATEVER THE INPUT: true; the input reads as it did. -/
def momTellsSpec : ChangeSpec := { name := "momTells", fn := fun _ => fun
  | [d1, d2, d3] => { results := [.lit (.bool true)], args := [d1, d2, d3] }
  | _ => none }
def momTellsRow : OpenClaim := { program := "ytckdbcngnghhiaa", sum := "8b55bab9efcbb78bd58594ba76c9ec4bb7fedc5086cf59b7abcd7d06b926b39a", func := "ratchet/ratchetlaw17.MomTells", spec := "momTells", inPlace := ["math/bits.Add64"], named := ["math/bits.divideError", "math/bits.overflowError"], apart := false }
def MomTellsSaid : Prop := momTellsRow.holds Try.pinned (OpenSpec.ofChange momTellsSpec)

/-- ITS FALSE NEIGHBOUR: 'it returns false'. Refute it at one input. -/
def momTellsWrong : ChangeSpec := { name := "momTells", fn := fun _ => fun
  | [d1, d2, d3] => { results := [.lit (.bool false)], args := [d1, d2, d3] }
  | _ => none }
def MomTellsWrongFalsely : Prop := momTellsRow.holds Try.pinned (OpenSpec.ofChange momTellsWrong)

/-- 'ratchetlaw17.MomNear': WHATEVER THE INPUT: true; the input reads as it did. -/
def momNearSpec : ChangeSpec := { name := "momNear", fn := fun _ => fun
  | [d1, d2, d3] => { results := [.lit (.bool true)], args := [d1, d2, d3] }
  | _ => none }
def momNearRow : OpenClaim := { program := "ytckdbcngnghhiaa", sum := "8b55bab9efcbb78bd58594ba76c9ec4bb7fedc5086cf59b7abcd7d06b926b39a", func := "ratchet/ratchetlaw17.MomNear", spec := "momNear", inPlace := ["math/bits.Add64"], named := ["math/bits.divideError", "math/bits.overflowError"], apart := false }
def MomNearSaid : Prop := momNearRow.holds Try.pinned (OpenSpec.ofChange momNearSpec)

/-- ITS FALSE NEIGHBOUR: 'it returns false'. Refute it at one input. -/
def momNearWrong : ChangeSpec := { name := "momNear", fn := fun _ => fun
  | [d1, d2, d3] => { results := [.lit (.bool false)], args := [d1, d2, d3] }
  | _ => none }
def MomNearWrongFalsely : Prop := momNearRow.holds Try.pinned (OpenSpec.ofChange momNearWrong)

/-- 'ratchetlaw17.MomApart': WHATEVER THE INPUT: true; the input reads as it did. -/
def momApartSpec : ChangeSpec := { name := "momApart", fn := fun _ => fun
  | [d1, d2, d3] => { results := [.lit (.bool true)], args := [d1, d2, d3] }
  | _ => none }
def momApartRow : OpenClaim := { program := "ytckdbcngnghhiaa", sum := "8b55bab9efcbb78bd58594ba76c9ec4bb7fedc5086cf59b7abcd7d06b926b39a", func := "ratchet/ratchetlaw17.MomApart", spec := "momApart", inPlace := ["math/bits.Add64"], named := ["math/bits.divideError", "math/bits.overflowError"], apart := false }
def MomApartSaid : Prop := momApartRow.holds Try.pinned (OpenSpec.ofChange momApartSpec)

/-- ITS FALSE NEIGHBOUR: 'it returns false'. Refute it at one input. -/
def momApartWrong : ChangeSpec := { name := "momApart", fn := fun _ => fun
  | [d1, d2, d3] => { results := [.lit (.bool false)], args := [d1, d2, d3] }
  | _ => none }
def MomApartWrongFalsely : Prop := momApartRow.holds Try.pinned (OpenSpec.ofChange momApartWrong)

/-- 'ratchetlaw17.MomPlain': WHATEVER THE INPUT: true; the input reads as it did. -/
def momPlainSpec : ChangeSpec := { name := "momPlain", fn := fun _ => fun
  | [d1, d2, d3] => { results := [.lit (.bool true)], args := [d1, d2, d3] }
  | _ => none }
def momPlainRow : OpenClaim := { program := "ytckdbcngnghhiaa", sum := "8b55bab9efcbb78bd58594ba76c9ec4bb7fedc5086cf59b7abcd7d06b926b39a", func := "ratchet/ratchetlaw17.MomPlain", spec := "momPlain", inPlace := ["math/bits.Add64"], named := ["math/bits.divideError", "math/bits.overflowError"], apart := false }
def MomPlainSaid : Prop := momPlainRow.holds Try.pinned (OpenSpec.ofChange momPlainSpec)

/-- ITS FALSE NEIGHBOUR: 'it returns false'. Refute it at one input. -/
def momPlainWrong : ChangeSpec := { name := "momPlain", fn := fun _ => fun
  | [d1, d2, d3] => { results := [.lit (.bool false)], args := [d1, d2, d3] }
  | _ => none }
def MomPlainWrongFalsely : Prop := momPlainRow.holds Try.pinned (OpenSpec.ofChange momPlainWrong)

/-- 'ratchetlaw17.MomSides': WHATEVER THE INPUT: true; the input reads as it did. -/
def momSidesSpec : ChangeSpec := { name := "momSides", fn := fun _ => fun
  | [d1, d2, d3] => { results := [.lit (.bool true)], args := [d1, d2, d3] }
  | _ => none }
def momSidesRow : OpenClaim := { program := "ytckdbcngnghhiaa", sum := "8b55bab9efcbb78bd58594ba76c9ec4bb7fedc5086cf59b7abcd7d06b926b39a", func := "ratchet/ratchetlaw17.MomSides", spec := "momSides", inPlace := ["math/bits.Add64"], named := ["math/bits.divideError", "math/bits.overflowError"], apart := false }
def MomSidesSaid : Prop := momSidesRow.holds Try.pinned (OpenSpec.ofChange momSidesSpec)

/-- ITS FALSE NEIGHBOUR: 'it returns false'. Refute it at one input. -/
def momSidesWrong : ChangeSpec := { name := "momSides", fn := fun _ => fun
  | [d1, d2, d3] => { results := [.lit (.bool false)], args := [d1, d2, d3] }
  | _ => none }
def MomSidesWrongFalsely : Prop := momSidesRow.holds Try.pinned (OpenSpec.ofChange momSidesWrong)

/- THE SECOND FORM. 'bulk': how many values and letters a reading holds, each counted each time it is reached (what is shared counts as often as it is met; a slice's spare places count too). A statement '..UptoSaid' is the law's where the arguments, and the package variables that the reading takes, are together of bulk at most 1048576: NARROWER than '..Said'. Prove '..Said' where nothing that the law and all that it calls make is longer than what came in: it says more and counts as full. Else prove '..UptoSaid'. A law counts once. -/
mutual
def uptoBulk {H : Type} : DataW H → Nat
  | .lit (.string bytes) => bytes.length + 1
  | .lit _ => 1
  | .nil => 1
  | .ptr d => uptoBulk d + 1
  | .slice elems spare => uptoBulkAll elems + uptoBulkAll spare + 1
  | .agg parts => uptoBulkAll parts + 1
  | .iface _ d => uptoBulk d + 1
  | .map entries => uptoBulkEntries entries + 1
  | .held _ => 1
def uptoBulkAll {H : Type} : List (DataW H) → Nat
  | [] => 0
  | d :: r => uptoBulk d + uptoBulkAll r
def uptoBulkEntries {H : Type} : List (Lit × DataW H) → Nat
  | [] => 0
  | x :: r => uptoBulkEntry x + uptoBulkEntries r
def uptoBulkEntry {H : Type} : Lit × DataW H → Nat
  | (.string bytes, d) => bytes.length + uptoBulk d + 1
  | (_, d) => uptoBulk d + 1
 end
def uptoSmall : (H : Type) → List (DataW H) → Bool := fun _ ds => decide (uptoBulkAll ds ≤ 1048576)
def OpenSpec.upto (s : _root_.Go.ChangeSpec) : _root_.Go.OpenSpec := { _root_.Go.OpenSpec.ofChange s with cond := some uptoSmall }

/-- 'ratchetlaw17.MomTells', WHERE WHAT IT READS IS OF BULK AT MOST 1048576: true; the input reads as it did. -/
def momTellsUptoRow : OpenClaim := { program := "ytckdbcngnghhiaa", sum := "8b55bab9efcbb78bd58594ba76c9ec4bb7fedc5086cf59b7abcd7d06b926b39a", func := "ratchet/ratchetlaw17.MomTells", spec := "momTells", inPlace := ["math/bits.Add64"], named := ["math/bits.divideError", "math/bits.overflowError"], apart := false, narrowed := true }
def MomTellsUptoSaid : Prop := momTellsUptoRow.holds Try.pinned (OpenSpec.upto momTellsSpec)

/-- 'ratchetlaw17.MomNear', WHERE WHAT IT READS IS OF BULK AT MOST 1048576: true; the input reads as it did. -/
def momNearUptoRow : OpenClaim := { program := "ytckdbcngnghhiaa", sum := "8b55bab9efcbb78bd58594ba76c9ec4bb7fedc5086cf59b7abcd7d06b926b39a", func := "ratchet/ratchetlaw17.MomNear", spec := "momNear", inPlace := ["math/bits.Add64"], named := ["math/bits.divideError", "math/bits.overflowError"], apart := false, narrowed := true }
def MomNearUptoSaid : Prop := momNearUptoRow.holds Try.pinned (OpenSpec.upto momNearSpec)

/-- 'ratchetlaw17.MomApart', WHERE WHAT IT READS IS OF BULK AT MOST 1048576: true; the input reads as it did. -/
def momApartUptoRow : OpenClaim := { program := "ytckdbcngnghhiaa", sum := "8b55bab9efcbb78bd58594ba76c9ec4bb7fedc5086cf59b7abcd7d06b926b39a", func := "ratchet/ratchetlaw17.MomApart", spec := "momApart", inPlace := ["math/bits.Add64"], named := ["math/bits.divideError", "math/bits.overflowError"], apart := false, narrowed := true }
def MomApartUptoSaid : Prop := momApartUptoRow.holds Try.pinned (OpenSpec.upto momApartSpec)

/-- 'ratchetlaw17.MomPlain', WHERE WHAT IT READS IS OF BULK AT MOST 1048576: true; the input reads as it did. -/
def momPlainUptoRow : OpenClaim := { program := "ytckdbcngnghhiaa", sum := "8b55bab9efcbb78bd58594ba76c9ec4bb7fedc5086cf59b7abcd7d06b926b39a", func := "ratchet/ratchetlaw17.MomPlain", spec := "momPlain", inPlace := ["math/bits.Add64"], named := ["math/bits.divideError", "math/bits.overflowError"], apart := false, narrowed := true }
def MomPlainUptoSaid : Prop := momPlainUptoRow.holds Try.pinned (OpenSpec.upto momPlainSpec)

/-- 'ratchetlaw17.MomSides', WHERE WHAT IT READS IS OF BULK AT MOST 1048576: true; the input reads as it did. -/
def momSidesUptoRow : OpenClaim := { program := "ytckdbcngnghhiaa", sum := "8b55bab9efcbb78bd58594ba76c9ec4bb7fedc5086cf59b7abcd7d06b926b39a", func := "ratchet/ratchetlaw17.MomSides", spec := "momSides", inPlace := ["math/bits.Add64"], named := ["math/bits.divideError", "math/bits.overflowError"], apart := false, narrowed := true }
def MomSidesUptoSaid : Prop := momSidesUptoRow.holds Try.pinned (OpenSpec.upto momSidesSpec)

end Rows
end Go.Proofs.Ytckdbcngnghhiaa
