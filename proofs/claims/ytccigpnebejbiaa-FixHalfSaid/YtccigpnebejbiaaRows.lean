/-
  No cell of these rows narrows 'for every input' (looked for: loops, veiled, ifaces, maps, wideKeys, modest, calm, conditions, laid).
  DERIVED. THE GIVEN ROWS OF THIS SEAT. 5 by the template 'for every input the law returns true; each argument reads behind the call as it read before'; 0 by the template 'total and deterministic' (their statements: YtccigpnebejbiaaTotals.lean).
  GIVEN WITH THE SEED: the statements are not yours to turn. If you find one false, say at which input.
  Laid BY PROGRAM, IN A SANDBOX (cutbox-rows.mjs): the forced cells as the released guide's own fill.sh prints them over the translation 9bce75fa4fabe847… (all of the seat's roots in one cut). By AI agents, Wed Nov 11 2026. No macro, syntax, notation, axiom, sorry.
-/
import Derived.Test.YtccigpnebejbiaaChecked
import GoSem.Claim
import GoSem.ClaimJoined
import GoSem.ClaimMapViews
import Derived.JoinedTies
import Derived.KernelRfl
namespace Go.Proofs.Ytccigpnebejbiaa
/- THE CELL 'sum', in the pinned program and in every row, IS THE sha256 OF THE DUMP (.gsa) THAT YtccigpnebejbiaaProg.lean LOADS. Nothing in Lean hashes anything: it is a label: what it is worth is what the hold of that sum in a sandbox is worth. -/
noncomputable def Try.pinned : Pinned := { name := "ytccigpnebejbiaa", sum := "9bce75fa4fabe847778d2fa6e3bbc6c4cc279f187a6357f70efcc7b562e06b8b", checked := Try.checked }
namespace Rows
def none {H : Type} : Left H := { results := [], args := [] }

/-- 'ratchetlaw08.FixScales': WHATEVER THE INPUT: true; the input reads as it did. -/
def fixScalesSpec : ChangeSpec := { name := "fixScales", fn := fun _ => fun
  | [d1, d2, d3] => { results := [.lit (.bool true)], args := [d1, d2, d3] }
  | _ => none }
def fixScalesRow : OpenClaim := { program := "ytccigpnebejbiaa", sum := "9bce75fa4fabe847778d2fa6e3bbc6c4cc279f187a6357f70efcc7b562e06b8b", func := "ratchet/ratchetlaw08.FixScales", spec := "fixScales", inPlace := ["math/bits.Add64", "math/bits.Sub64"], unfollowed := true, recurses := true, named := ["math/bits.divideError", "math/bits.overflowError"], apart := false }
def FixScalesSaid : Prop := fixScalesRow.holds Try.pinned (OpenSpec.ofChange fixScalesSpec)

/-- ITS FALSE NEIGHBOUR: 'it returns false'. Refute it at one input. -/
def fixScalesWrong : ChangeSpec := { name := "fixScales", fn := fun _ => fun
  | [d1, d2, d3] => { results := [.lit (.bool false)], args := [d1, d2, d3] }
  | _ => none }
def FixScalesWrongFalsely : Prop := fixScalesRow.holds Try.pinned (OpenSpec.ofChange fixScalesWrong)

/-- 'ratchetlaw08.FixHalf': WHATEVER THE INPUT: true; the input reads as it did. -/
def fixHalfSpec : ChangeSpec := { name := "fixHalf", fn := fun _ => fun
  | [d1, d2, d3] => { results := [.lit (.bool true)], args := [d1, d2, d3] }
  | _ => none }
def fixHalfRow : OpenClaim := { program := "ytccigpnebejbiaa", sum := "9bce75fa4fabe847778d2fa6e3bbc6c4cc279f187a6357f70efcc7b562e06b8b", func := "ratchet/ratchetlaw08.FixHalf", spec := "fixHalf", inPlace := ["math/bits.Add64", "math/bits.Sub64"], unfollowed := true, recurses := true, named := ["math/bits.divideError", "math/bits.overflowError"], apart := false }
def FixHalfSaid : Prop := fixHalfRow.holds Try.pinned (OpenSpec.ofChange fixHalfSpec)

/-- ITS FALSE NEIGHBOUR: 'it returns false'. Refute it at one input. -/
def fixHalfWrong : ChangeSpec := { name := "fixHalf", fn := fun _ => fun
  | [d1, d2, d3] => { results := [.lit (.bool false)], args := [d1, d2, d3] }
  | _ => none }
def FixHalfWrongFalsely : Prop := fixHalfRow.holds Try.pinned (OpenSpec.ofChange fixHalfWrong)

/-- 'ratchetlaw08.FixOrder': WHATEVER THE INPUT: true; the input reads as it did. -/
def fixOrderSpec : ChangeSpec := { name := "fixOrder", fn := fun _ => fun
  | [d1, d2, d3] => { results := [.lit (.bool true)], args := [d1, d2, d3] }
  | _ => none }
def fixOrderRow : OpenClaim := { program := "ytccigpnebejbiaa", sum := "9bce75fa4fabe847778d2fa6e3bbc6c4cc279f187a6357f70efcc7b562e06b8b", func := "ratchet/ratchetlaw08.FixOrder", spec := "fixOrder", inPlace := ["math/bits.Add64", "math/bits.Sub64"], unfollowed := true, recurses := true, named := ["math/bits.divideError", "math/bits.overflowError"], apart := false }
def FixOrderSaid : Prop := fixOrderRow.holds Try.pinned (OpenSpec.ofChange fixOrderSpec)

/-- ITS FALSE NEIGHBOUR: 'it returns false'. Refute it at one input. -/
def fixOrderWrong : ChangeSpec := { name := "fixOrder", fn := fun _ => fun
  | [d1, d2, d3] => { results := [.lit (.bool false)], args := [d1, d2, d3] }
  | _ => none }
def FixOrderWrongFalsely : Prop := fixOrderRow.holds Try.pinned (OpenSpec.ofChange fixOrderWrong)

/-- 'ratchetlaw08.FixSides': WHATEVER THE INPUT: true; the input reads as it did. -/
def fixSidesSpec : ChangeSpec := { name := "fixSides", fn := fun _ => fun
  | [d1, d2, d3] => { results := [.lit (.bool true)], args := [d1, d2, d3] }
  | _ => none }
def fixSidesRow : OpenClaim := { program := "ytccigpnebejbiaa", sum := "9bce75fa4fabe847778d2fa6e3bbc6c4cc279f187a6357f70efcc7b562e06b8b", func := "ratchet/ratchetlaw08.FixSides", spec := "fixSides", inPlace := ["math/bits.Add64", "math/bits.Sub64"], unfollowed := true, recurses := true, named := ["math/bits.divideError", "math/bits.overflowError"], apart := false }
def FixSidesSaid : Prop := fixSidesRow.holds Try.pinned (OpenSpec.ofChange fixSidesSpec)

/-- ITS FALSE NEIGHBOUR: 'it returns false'. Refute it at one input. -/
def fixSidesWrong : ChangeSpec := { name := "fixSides", fn := fun _ => fun
  | [d1, d2, d3] => { results := [.lit (.bool false)], args := [d1, d2, d3] }
  | _ => none }
def FixSidesWrongFalsely : Prop := fixSidesRow.holds Try.pinned (OpenSpec.ofChange fixSidesWrong)

/-- 'ratchetlaw08.FixAgree': WHATEVER THE INPUT: true; the input reads as it did. -/
def fixAgreeSpec : ChangeSpec := { name := "fixAgree", fn := fun _ => fun
  | [d1, d2, d3] => { results := [.lit (.bool true)], args := [d1, d2, d3] }
  | _ => none }
def fixAgreeRow : OpenClaim := { program := "ytccigpnebejbiaa", sum := "9bce75fa4fabe847778d2fa6e3bbc6c4cc279f187a6357f70efcc7b562e06b8b", func := "ratchet/ratchetlaw08.FixAgree", spec := "fixAgree", inPlace := ["math/bits.Add64", "math/bits.Sub64"], unfollowed := true, recurses := true, named := ["math/bits.divideError", "math/bits.overflowError"], apart := false }
def FixAgreeSaid : Prop := fixAgreeRow.holds Try.pinned (OpenSpec.ofChange fixAgreeSpec)

/-- ITS FALSE NEIGHBOUR: 'it returns false'. Refute it at one input. -/
def fixAgreeWrong : ChangeSpec := { name := "fixAgree", fn := fun _ => fun
  | [d1, d2, d3] => { results := [.lit (.bool false)], args := [d1, d2, d3] }
  | _ => none }
def FixAgreeWrongFalsely : Prop := fixAgreeRow.holds Try.pinned (OpenSpec.ofChange fixAgreeWrong)

/- THE SECOND FORM. 'bulk': how many values and letters a reading holds, each counted each time it is reached (what is shared counts as often as it is met; a slice's spare places count too). A statement '..UptoSaid' is the law's where the arguments, and the package variables that the reading takes, are together of bulk at most 1048576: NARROWER than '..Said'. Prove '..Said' where nothing that the law and all that it calls make is longer than what came in: it says more and counts as full. Else prove '..UptoSaid'. A law counts once. -/
mutual
def uptoBulk {H : Type} : DataW H → Nat
  | .lit (.string bytes) => bytes.length + 1
  | .lit _ => 1
  | .nil => 1
  | .ptr d => uptoBulk d + 1
  | .slice elems spare => uptoBulkAll elems + uptoBulkAll spare + 1
  | .agg parts => uptoBulkAll parts + 1
  | .iface _ d => uptoBulk d + 1
  | .map entries => uptoBulkEntries entries + 1
  | .held _ => 1
def uptoBulkAll {H : Type} : List (DataW H) → Nat
  | [] => 0
  | d :: r => uptoBulk d + uptoBulkAll r
def uptoBulkEntries {H : Type} : List (Lit × DataW H) → Nat
  | [] => 0
  | x :: r => uptoBulkEntry x + uptoBulkEntries r
def uptoBulkEntry {H : Type} : Lit × DataW H → Nat
  | (.string bytes, d) => bytes.length + uptoBulk d + 1
  | (_, d) => uptoBulk d + 1
 end
def uptoSmall : (H : Type) → List (DataW H) → Bool := fun _ ds => decide (uptoBulkAll ds ≤ 1048576)
def OpenSpec.upto (s : _root_.Go.ChangeSpec) : _root_.Go.OpenSpec := { _root_.Go.OpenSpec.ofChange s with cond := some uptoSmall }

/-- 'ratchetlaw08.FixScales', WHERE WHAT IT READS IS OF BULK AT MOST 1048576: true; the input reads as it did. -/
def fixScalesUptoRow : OpenClaim := { program := "ytccigpnebejbiaa", sum := "9bce75fa4fabe847778d2fa6e3bbc6c4cc279f187a6357f70efcc7b562e06b8b", func := "ratchet/ratchetlaw08.FixScales", spec := "fixScales", inPlace := ["math/bits.Add64", "math/bits.Sub64"], unfollowed := true, recurses := true, named := ["math/bits.divideError", "math/bits.overflowError"], apart := false, narrowed := true }
def FixScalesUptoSaid : Prop := fixScalesUptoRow.holds Try.pinned (OpenSpec.upto fixScalesSpec)

/-- 'ratchetlaw08.FixHalf', WHERE WHAT IT READS IS OF BULK AT MOST 1048576: true; the input reads as it did. -/
def fixHalfUptoRow : OpenClaim := { program := "ytccigpnebejbiaa", sum := "9bce75fa4fabe847778d2fa6e3bbc6c4cc279f187a6357f70efcc7b562e06b8b", func := "ratchet/ratchetlaw08.FixHalf", spec := "fixHalf", inPlace := ["math/bits.Add64", "math/bits.Sub64"], unfollowed := true, recurses := true, named := ["math/bits.divideError", "math/bits.overflowError"], apart := false, narrowed := true }
def FixHalfUptoSaid : Prop := fixHalfUptoRow.holds Try.pinned (OpenSpec.upto fixHalfSpec)

/-- 'ratchetlaw08.FixOrder', WHERE WHAT IT READS IS OF BULK AT MOST 1048576: true; the input reads as it did. -/
def fixOrderUptoRow : OpenClaim := { program := "ytccigpnebejbiaa", sum := "9bce75fa4fabe847778d2fa6e3bbc6c4cc279f187a6357f70efcc7b562e06b8b", func := "ratchet/ratchetlaw08.FixOrder", spec := "fixOrder", inPlace := ["math/bits.Add64", "math/bits.Sub64"], unfollowed := true, recurses := true, named := ["math/bits.divideError", "math/bits.overflowError"], apart := false, narrowed := true }
def FixOrderUptoSaid : Prop := fixOrderUptoRow.holds Try.pinned (OpenSpec.upto fixOrderSpec)

/-- 'ratchetlaw08.FixSides', WHERE WHAT IT READS IS OF BULK AT MOST 1048576: true; the input reads as it did. -/
def fixSidesUptoRow : OpenClaim := { program := "ytccigpnebejbiaa", sum := "9bce75fa4fabe847778d2fa6e3bbc6c4cc279f187a6357f70efcc7b562e06b8b", func := "ratchet/ratchetlaw08.FixSides", spec := "fixSides", inPlace := ["math/bits.Add64", "math/bits.Sub64"], unfollowed := true, recurses := true, named := ["math/bits.divideError", "math/bits.overflowError"], apart := false, narrowed := true }
def FixSidesUptoSaid : Prop := fixSidesUptoRow.holds Try.pinned (OpenSpec.upto fixSidesSpec)

/-- 'ratchetlaw08.FixAgree', WHERE WHAT IT READS IS OF BULK AT MOST 1048576: true; the input reads as it did. -/
def fixAgreeUptoRow : OpenClaim := { program := "ytccigpnebejbiaa", sum := "9bce75fa4fabe847778d2fa6e3bbc6c4cc279f187a6357f70efcc7b562e06b8b", func := "ratchet/ratchetlaw08.FixAgree", spec := "fixAgree", inPlace := ["math/bits.Add64", "math/bits.Sub64"], unfollowed := true, recurses := true, named := ["math/bits.divideError", "math/bits.overflowError"], apart := false, narrowed := true }
def FixAgreeUptoSaid : Prop := fixAgreeUptoRow.holds Try.pinned (OpenSpec.upto fixAgreeSpec)

end Rows
end Go.Proofs.Ytccigpnebejbiaa
