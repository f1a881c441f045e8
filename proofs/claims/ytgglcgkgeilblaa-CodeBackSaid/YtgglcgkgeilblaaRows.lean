/-
  No cell of these rows narrows 'for every input' (looked for: loops, veiled, ifaces, maps, wideKeys, modest, calm, conditions, laid).
  DERIVED. THE GIVEN ROWS OF THIS SEAT. 5 by the template 'for every input the law returns true; each argument reads behind the call as it read before'; 0 by the template 'total and deterministic' (their statements: YtgglcgkgeilblaaTotals.lean).
  GIVEN WITH THE SEED: the statements are not yours to turn. If you find one false, say at which input.
  Laid BY PROGRAM, IN A SANDBOX (cutbox-rows.mjs): the forced cells as the released guide's own fill.sh prints them over the translation a4f4992bbf4e4b18… (all of the seat's roots in one cut). By AI agents, Wed Nov 11 2026. No macro, syntax, notation, axiom, sorry.
-/
import Derived.Test.YtgglcgkgeilblaaChecked
import GoSem.Claim
import GoSem.ClaimJoined
import GoSem.ClaimMapViews
import Derived.JoinedTies
import Derived.KernelRfl
namespace Go.Proofs.Ytgglcgkgeilblaa
/- THE CELL 'sum', in the pinned program and in every row, IS THE sha256 OF THE DUMP (.gsa) THAT YtgglcgkgeilblaaProg.lean LOADS. Nothing in Lean hashes anything: it is a label: what it is worth is what the hold of that sum in a sandbox is worth. -/
noncomputable def Try.pinned : Pinned := { name := "ytgglcgkgeilblaa", sum := "a4f4992bbf4e4b180ba36ba11ce93d3d3f5b0345ebf42a38ea222d9f5dc9f3de", checked := Try.checked }
namespace Rows
def none {H : Type} : Left H := { results := [], args := [] }

/-- 'ratchetlaw10.CodeTells': WHATEVER THE INPUT: true; the input reads as it did. -/
def codeTellsSpec : ChangeSpec := { name := "codeTells", fn := fun _ => fun
  | [d1, d2, d3] => { results := [.lit (.bool true)], args := [d1, d2, d3] }
  | _ => none }
def codeTellsRow : OpenClaim := { program := "ytgglcgkgeilblaa", sum := "a4f4992bbf4e4b180ba36ba11ce93d3d3f5b0345ebf42a38ea222d9f5dc9f3de", func := "ratchet/ratchetlaw10.CodeTells", spec := "codeTells", inPlace := ["math/bits.Add64"], unfollowed := true, recurses := true, apart := false }
def CodeTellsSaid : Prop := codeTellsRow.holds Try.pinned (OpenSpec.ofChange codeTellsSpec)

/-- ITS FALSE NEIGHBOUR: 'it returns false'. Refute it at one input. -/
def codeTellsWrong : ChangeSpec := { name := "codeTells", fn := fun _ => fun
  | [d1, d2, d3] => { results := [.lit (.bool false)], args := [d1, d2, d3] }
  | _ => none }
def CodeTellsWrongFalsely : Prop := codeTellsRow.holds Try.pinned (OpenSpec.ofChange codeTellsWrong)

/-- 'ratchetlaw10.CodeNearest': WHATEVER THE INPUT: true; the input reads as it did. -/
def codeNearestSpec : ChangeSpec := { name := "codeNearest", fn := fun _ => fun
  | [d1, d2, d3] => { results := [.lit (.bool true)], args := [d1, d2, d3] }
  | _ => none }
def codeNearestRow : OpenClaim := { program := "ytgglcgkgeilblaa", sum := "a4f4992bbf4e4b180ba36ba11ce93d3d3f5b0345ebf42a38ea222d9f5dc9f3de", func := "ratchet/ratchetlaw10.CodeNearest", spec := "codeNearest", inPlace := ["math/bits.Add64"], unfollowed := true, recurses := true, apart := false }
def CodeNearestSaid : Prop := codeNearestRow.holds Try.pinned (OpenSpec.ofChange codeNearestSpec)

/-- ITS FALSE NEIGHBOUR: 'it returns false'. Refute it at one input. -/
def codeNearestWrong : ChangeSpec := { name := "codeNearest", fn := fun _ => fun
  | [d1, d2, d3] => { results := [.lit (.bool false)], args := [d1, d2, d3] }
  | _ => none }
def CodeNearestWrongFalsely : Prop := codeNearestRow.holds Try.pinned (OpenSpec.ofChange codeNearestWrong)

/-- 'ratchetlaw10.CodeOrder': WHATEVER THE INPUT: true; the input reads as it did. -/
def codeOrderSpec : ChangeSpec := { name := "codeOrder", fn := fun _ => fun
  | [d1, d2] => { results := [.lit (.bool true)], args := [d1, d2] }
  | _ => none }
def codeOrderRow : OpenClaim := { program := "ytgglcgkgeilblaa", sum := "a4f4992bbf4e4b180ba36ba11ce93d3d3f5b0345ebf42a38ea222d9f5dc9f3de", func := "ratchet/ratchetlaw10.CodeOrder", spec := "codeOrder", inPlace := ["math/bits.Add64"], unfollowed := true, recurses := true, apart := false }
def CodeOrderSaid : Prop := codeOrderRow.holds Try.pinned (OpenSpec.ofChange codeOrderSpec)

/-- ITS FALSE NEIGHBOUR: 'it returns false'. Refute it at one input. -/
def codeOrderWrong : ChangeSpec := { name := "codeOrder", fn := fun _ => fun
  | [d1, d2] => { results := [.lit (.bool false)], args := [d1, d2] }
  | _ => none }
def CodeOrderWrongFalsely : Prop := codeOrderRow.holds Try.pinned (OpenSpec.ofChange codeOrderWrong)

/-- 'ratchetlaw10.CodeBack': WHATEVER THE INPUT: true; the input reads as it did. -/
def codeBackSpec : ChangeSpec := { name := "codeBack", fn := fun _ => fun
  | [d1, d2, d3] => { results := [.lit (.bool true)], args := [d1, d2, d3] }
  | _ => none }
def codeBackRow : OpenClaim := { program := "ytgglcgkgeilblaa", sum := "a4f4992bbf4e4b180ba36ba11ce93d3d3f5b0345ebf42a38ea222d9f5dc9f3de", func := "ratchet/ratchetlaw10.CodeBack", spec := "codeBack", inPlace := ["math/bits.Add64"], unfollowed := true, recurses := true, apart := false }
def CodeBackSaid : Prop := codeBackRow.holds Try.pinned (OpenSpec.ofChange codeBackSpec)

/-- ITS FALSE NEIGHBOUR: 'it returns false'. Refute it at one input. -/
def codeBackWrong : ChangeSpec := { name := "codeBack", fn := fun _ => fun
  | [d1, d2, d3] => { results := [.lit (.bool false)], args := [d1, d2, d3] }
  | _ => none }
def CodeBackWrongFalsely : Prop := codeBackRow.holds Try.pinned (OpenSpec.ofChange codeBackWrong)

/-- 'ratchetlaw10.CodeScaled': WHATEVER THE INPUT: true; the input reads as it did. -/
def codeScaledSpec : ChangeSpec := { name := "codeScaled", fn := fun _ => fun
  | [d1, d2, d3] => { results := [.lit (.bool true)], args := [d1, d2, d3] }
  | _ => none }
def codeScaledRow : OpenClaim := { program := "ytgglcgkgeilblaa", sum := "a4f4992bbf4e4b180ba36ba11ce93d3d3f5b0345ebf42a38ea222d9f5dc9f3de", func := "ratchet/ratchetlaw10.CodeScaled", spec := "codeScaled", inPlace := ["math/bits.Add64"], unfollowed := true, recurses := true, apart := false }
def CodeScaledSaid : Prop := codeScaledRow.holds Try.pinned (OpenSpec.ofChange codeScaledSpec)

/-- ITS FALSE NEIGHBOUR: 'it returns false'. Refute it at one input. -/
def codeScaledWrong : ChangeSpec := { name := "codeScaled", fn := fun _ => fun
  | [d1, d2, d3] => { results := [.lit (.bool false)], args := [d1, d2, d3] }
  | _ => none }
def CodeScaledWrongFalsely : Prop := codeScaledRow.holds Try.pinned (OpenSpec.ofChange codeScaledWrong)

/- THE SECOND FORM. 'bulk': how many values and letters a reading holds, each counted each time it is reached (what is shared counts as often as it is met; a slice's spare places count too). A statement '..UptoSaid' is the law's where the arguments, and the package variables that the reading takes, are together of bulk at most 1048576: NARROWER than '..Said'. Prove '..Said' where nothing that the law and all that it calls make is longer than what came in: it says more and counts as full. Else prove '..UptoSaid'. A law counts once. -/
mutual
def uptoBulk {H : Type} : DataW H → Nat
  | .lit (.string bytes) => bytes.length + 1
  | .lit _ => 1
  | .nil => 1
  | .ptr d => uptoBulk d + 1
  | .slice elems spare => uptoBulkAll elems + uptoBulkAll spare + 1
  | .agg parts => uptoBulkAll parts + 1
  | .iface _ d => uptoBulk d + 1
  | .map entries => uptoBulkEntries entries + 1
  | .held _ => 1
def uptoBulkAll {H : Type} : List (DataW H) → Nat
  | [] => 0
  | d :: r => uptoBulk d + uptoBulkAll r
def uptoBulkEntries {H : Type} : List (Lit × DataW H) → Nat
  | [] => 0
  | x :: r => uptoBulkEntry x + uptoBulkEntries r
def uptoBulkEntry {H : Type} : Lit × DataW H → Nat
  | (.string bytes, d) => bytes.length + uptoBulk d + 1
  | (_, d) => uptoBulk d + 1
 end
def uptoSmall : (H : Type) → List (DataW H) → Bool := fun _ ds => decide (uptoBulkAll ds ≤ 1048576)
def OpenSpec.upto (s : _root_.Go.ChangeSpec) : _root_.Go.OpenSpec := { _root_.Go.OpenSpec.ofChange s with cond := some uptoSmall }

/-- 'ratchetlaw10.CodeTells', WHERE WHAT IT READS IS OF BULK AT MOST 1048576: true; the input reads as it did. -/
def codeTellsUptoRow : OpenClaim := { program := "ytgglcgkgeilblaa", sum := "a4f4992bbf4e4b180ba36ba11ce93d3d3f5b0345ebf42a38ea222d9f5dc9f3de", func := "ratchet/ratchetlaw10.CodeTells", spec := "codeTells", inPlace := ["math/bits.Add64"], unfollowed := true, recurses := true, apart := false, narrowed := true }
def CodeTellsUptoSaid : Prop := codeTellsUptoRow.holds Try.pinned (OpenSpec.upto codeTellsSpec)

/-- 'ratchetlaw10.CodeNearest', WHERE WHAT IT READS IS OF BULK AT MOST 1048576: true; the input reads as it did. -/
def codeNearestUptoRow : OpenClaim := { program := "ytgglcgkgeilblaa", sum := "a4f4992bbf4e4b180ba36ba11ce93d3d3f5b0345ebf42a38ea222d9f5dc9f3de", func := "ratchet/ratchetlaw10.CodeNearest", spec := "codeNearest", inPlace := ["math/bits.Add64"], unfollowed := true, recurses := true, apart := false, narrowed := true }
def CodeNearestUptoSaid : Prop := codeNearestUptoRow.holds Try.pinned (OpenSpec.upto codeNearestSpec)

/-- 'ratchetlaw10.CodeOrder', WHERE WHAT IT READS IS OF BULK AT MOST 1048576: true; the input reads as it did. -/
def codeOrderUptoRow : OpenClaim := { program := "ytgglcgkgeilblaa", sum := "a4f4992bbf4e4b180ba36ba11ce93d3d3f5b0345ebf42a38ea222d9f5dc9f3de", func := "ratchet/ratchetlaw10.CodeOrder", spec := "codeOrder", inPlace := ["math/bits.Add64"], unfollowed := true, recurses := true, apart := false, narrowed := true }
def CodeOrderUptoSaid : Prop := codeOrderUptoRow.holds Try.pinned (OpenSpec.upto codeOrderSpec)

/-- 'ratchetlaw10.CodeBack', WHERE WHAT IT READS IS OF BULK AT MOST 1048576: true; the input reads as it did. -/
def codeBackUptoRow : OpenClaim := { program := "ytgglcgkgeilblaa", sum := "a4f4992bbf4e4b180ba36ba11ce93d3d3f5b0345ebf42a38ea222d9f5dc9f3de", func := "ratchet/ratchetlaw10.CodeBack", spec := "codeBack", inPlace := ["math/bits.Add64"], unfollowed := true, recurses := true, apart := false, narrowed := true }
def CodeBackUptoSaid : Prop := codeBackUptoRow.holds Try.pinned (OpenSpec.upto codeBackSpec)

/-- 'ratchetlaw10.CodeScaled', WHERE WHAT IT READS IS OF BULK AT MOST 1048576: true; the input reads as it did. -/
def codeScaledUptoRow : OpenClaim := { program := "ytgglcgkgeilblaa", sum := "a4f4992bbf4e4b180ba36ba11ce93d3d3f5b0345ebf42a38ea222d9f5dc9f3de", func := "ratchet/ratchetlaw10.CodeScaled", spec := "codeScaled", inPlace := ["math/bits.Add64"], unfollowed := true, recurses := true, apart := false, narrowed := true }
def CodeScaledUptoSaid : Prop := codeScaledUptoRow.holds Try.pinned (OpenSpec.upto codeScaledSpec)

end Rows
end Go.Proofs.Ytgglcgkgeilblaa
