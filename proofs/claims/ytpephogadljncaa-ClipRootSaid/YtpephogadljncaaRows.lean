/-
  No cell of these rows narrows 'for every input' (looked for: loops, veiled, ifaces, maps, wideKeys, modest, calm, conditions, laid).
  DERIVED. THE GIVEN ROWS OF THIS SEAT. 5 by the template 'for every input the law returns true; each argument reads behind the call as it read before'; 0 by the template 'total and deterministic' (their statements: YtpephogadljncaaTotals.lean).
  GIVEN WITH THE SEED: the statements are not yours to turn. If you find one false, say at which input.
  Laid BY PROGRAM, IN A SANDBOX (cutbox-rows.mjs): the forced cells as the released guide's own fill.sh prints them over the translation 140dc73dc2a9c83b… (all of the seat's roots in one cut). By AI agents, Wed Nov 11 2026. No macro, syntax, notation, axiom, sorry.
-/
import Derived.Test.YtpephogadljncaaChecked
import GoSem.Claim
import GoSem.ClaimJoined
import GoSem.ClaimMapViews
import Derived.JoinedTies
import Derived.KernelRfl
namespace Go.Proofs.Ytpephogadljncaa
/- THE CELL 'sum', in the pinned program and in every row, IS THE sha256 OF THE DUMP (.gsa) THAT YtpephogadljncaaProg.lean LOADS. Nothing in Lean hashes anything: it is a label: what it is worth is what the hold of that sum in a sandbox is worth. -/
noncomputable def Try.pinned : Pinned := { name := "ytpephogadljncaa", sum := "140dc73dc2a9c83b6c10d7def612fd6bf750cb714e97c8ff68e942e28d513441", checked := Try.checked }
namespace Rows
def none {H : Type} : Left H := { results := [], args := [] }

/-- 'ratchetlaw16.ClipNorm': WHATEVER THE INPUT: true; the input reads as it did. -/
def clipNormSpec : ChangeSpec := { name := "clipNorm", fn := fun _ => fun
  | [d1, d2] => { results := [.lit (.bool true)], args := [d1, d2] }
  | _ => none }
def clipNormRow : OpenClaim := { program := "ytpephogadljncaa", sum := "140dc73dc2a9c83b6c10d7def612fd6bf750cb714e97c8ff68e942e28d513441", func := "ratchet/ratchetlaw16.ClipNorm", spec := "clipNorm", inPlace := ["math/bits.Add64", "math/bits.Sub64"], unfollowed := true, recurses := true, named := ["math/bits.divideError", "math/bits.overflowError"], apart := false }
def ClipNormSaid : Prop := clipNormRow.holds Try.pinned (OpenSpec.ofChange clipNormSpec)

/-- ITS FALSE NEIGHBOUR: 'it returns false'. Refute it at one input. -/
def clipNormWrong : ChangeSpec := { name := "clipNorm", fn := fun _ => fun
  | [d1, d2] => { results := [.lit (.bool false)], args := [d1, d2] }
  | _ => none }
def ClipNormWrongFalsely : Prop := clipNormRow.holds Try.pinned (OpenSpec.ofChange clipNormWrong)

/-- 'ratchetlaw16.ClipRoot': WHATEVER THE INPUT: true; the input reads as it did. -/
def clipRootSpec : ChangeSpec := { name := "clipRoot", fn := fun _ => fun
  | [d] => { results := [.lit (.bool true)], args := [d] }
  | _ => none }
def clipRootRow : OpenClaim := { program := "ytpephogadljncaa", sum := "140dc73dc2a9c83b6c10d7def612fd6bf750cb714e97c8ff68e942e28d513441", func := "ratchet/ratchetlaw16.ClipRoot", spec := "clipRoot", inPlace := ["math/bits.Add64", "math/bits.Sub64"], unfollowed := true, recurses := true, named := ["math/bits.divideError", "math/bits.overflowError"], apart := false }
def ClipRootSaid : Prop := clipRootRow.holds Try.pinned (OpenSpec.ofChange clipRootSpec)

/-- ITS FALSE NEIGHBOUR: 'it returns false'. Refute it at one input. -/
def clipRootWrong : ChangeSpec := { name := "clipRoot", fn := fun _ => fun
  | [d] => { results := [.lit (.bool false)], args := [d] }
  | _ => none }
def ClipRootWrongFalsely : Prop := clipRootRow.holds Try.pinned (OpenSpec.ofChange clipRootWrong)

/-- 'ratchetlaw16.ClipSides': WHATEVER THE INPUT: true; the input reads as it did. -/
def clipSidesSpec : ChangeSpec := { name := "clipSides", fn := fun _ => fun
  | [d1, d2, d3] => { results := [.lit (.bool true)], args := [d1, d2, d3] }
  | _ => none }
def clipSidesRow : OpenClaim := { program := "ytpephogadljncaa", sum := "140dc73dc2a9c83b6c10d7def612fd6bf750cb714e97c8ff68e942e28d513441", func := "ratchet/ratchetlaw16.ClipSides", spec := "clipSides", inPlace := ["math/bits.Add64", "math/bits.Sub64"], unfollowed := true, recurses := true, named := ["math/bits.divideError", "math/bits.overflowError"], apart := false }
def ClipSidesSaid : Prop := clipSidesRow.holds Try.pinned (OpenSpec.ofChange clipSidesSpec)

/-- ITS FALSE NEIGHBOUR: 'it returns false'. Refute it at one input. -/
def clipSidesWrong : ChangeSpec := { name := "clipSides", fn := fun _ => fun
  | [d1, d2, d3] => { results := [.lit (.bool false)], args := [d1, d2, d3] }
  | _ => none }
def ClipSidesWrongFalsely : Prop := clipSidesRow.holds Try.pinned (OpenSpec.ofChange clipSidesWrong)

/-- 'ratchetlaw16.ClipMean': WHATEVER THE INPUT: true; the input reads as it did. -/
def clipMeanSpec : ChangeSpec := { name := "clipMean", fn := fun _ => fun
  | [d] => { results := [.lit (.bool true)], args := [d] }
  | _ => none }
def clipMeanRow : OpenClaim := { program := "ytpephogadljncaa", sum := "140dc73dc2a9c83b6c10d7def612fd6bf750cb714e97c8ff68e942e28d513441", func := "ratchet/ratchetlaw16.ClipMean", spec := "clipMean", inPlace := ["math/bits.Add64", "math/bits.Sub64"], unfollowed := true, recurses := true, named := ["math/bits.divideError", "math/bits.overflowError"], apart := false }
def ClipMeanSaid : Prop := clipMeanRow.holds Try.pinned (OpenSpec.ofChange clipMeanSpec)

/-- ITS FALSE NEIGHBOUR: 'it returns false'. Refute it at one input. -/
def clipMeanWrong : ChangeSpec := { name := "clipMean", fn := fun _ => fun
  | [d] => { results := [.lit (.bool false)], args := [d] }
  | _ => none }
def ClipMeanWrongFalsely : Prop := clipMeanRow.holds Try.pinned (OpenSpec.ofChange clipMeanWrong)

/-- 'ratchetlaw16.ClipJoined': WHATEVER THE INPUT: true; the input reads as it did. -/
def clipJoinedSpec : ChangeSpec := { name := "clipJoined", fn := fun _ => fun
  | [d1, d2] => { results := [.lit (.bool true)], args := [d1, d2] }
  | _ => none }
def clipJoinedRow : OpenClaim := { program := "ytpephogadljncaa", sum := "140dc73dc2a9c83b6c10d7def612fd6bf750cb714e97c8ff68e942e28d513441", func := "ratchet/ratchetlaw16.ClipJoined", spec := "clipJoined", inPlace := ["math/bits.Add64", "math/bits.Sub64"], unfollowed := true, recurses := true, named := ["math/bits.divideError", "math/bits.overflowError"], apart := false }
def ClipJoinedSaid : Prop := clipJoinedRow.holds Try.pinned (OpenSpec.ofChange clipJoinedSpec)

/-- ITS FALSE NEIGHBOUR: 'it returns false'. Refute it at one input. -/
def clipJoinedWrong : ChangeSpec := { name := "clipJoined", fn := fun _ => fun
  | [d1, d2] => { results := [.lit (.bool false)], args := [d1, d2] }
  | _ => none }
def ClipJoinedWrongFalsely : Prop := clipJoinedRow.holds Try.pinned (OpenSpec.ofChange clipJoinedWrong)

/- THE SECOND FORM. 'bulk': how many values and letters a reading holds, each counted each time it is reached (what is shared counts as often as it is met; a slice's spare places count too). A statement '..UptoSaid' is the law's where the arguments, and the package variables that the reading takes, are together of bulk at most 1048576: NARROWER than '..Said'. Prove '..Said' where nothing that the law and all that it calls make is longer than what came in: it says more and counts as full. Else prove '..UptoSaid'. A law counts once. -/
mutual
def uptoBulk {H : Type} : DataW H → Nat
  | .lit (.string bytes) => bytes.length + 1
  | .lit _ => 1
  | .nil => 1
  | .ptr d => uptoBulk d + 1
  | .slice elems spare => uptoBulkAll elems + uptoBulkAll spare + 1
  | .agg parts => uptoBulkAll parts + 1
  | .iface _ d => uptoBulk d + 1
  | .map entries => uptoBulkEntries entries + 1
  | .held _ => 1
def uptoBulkAll {H : Type} : List (DataW H) → Nat
  | [] => 0
  | d :: r => uptoBulk d + uptoBulkAll r
def uptoBulkEntries {H : Type} : List (Lit × DataW H) → Nat
  | [] => 0
  | x :: r => uptoBulkEntry x + uptoBulkEntries r
def uptoBulkEntry {H : Type} : Lit × DataW H → Nat
  | (.string bytes, d) => bytes.length + uptoBulk d + 1
  | (_, d) => uptoBulk d + 1
 end
def uptoSmall : (H : Type) → List (DataW H) → Bool := fun _ ds => decide (uptoBulkAll ds ≤ 1048576)
def OpenSpec.upto (s : _root_.Go.ChangeSpec) : _root_.Go.OpenSpec := { _root_.Go.OpenSpec.ofChange s with cond := some uptoSmall }

/-- 'ratchetlaw16.ClipNorm', WHERE WHAT IT READS IS OF BULK AT MOST 1048576: true; the input reads as it did. -/
def clipNormUptoRow : OpenClaim := { program := "ytpephogadljncaa", sum := "140dc73dc2a9c83b6c10d7def612fd6bf750cb714e97c8ff68e942e28d513441", func := "ratchet/ratchetlaw16.ClipNorm", spec := "clipNorm", inPlace := ["math/bits.Add64", "math/bits.Sub64"], unfollowed := true, recurses := true, named := ["math/bits.divideError", "math/bits.overflowError"], apart := false, narrowed := true }
def ClipNormUptoSaid : Prop := clipNormUptoRow.holds Try.pinned (OpenSpec.upto clipNormSpec)

/-- 'ratchetlaw16.ClipRoot', WHERE WHAT IT READS IS OF BULK AT MOST 1048576: true; the input reads as it did. -/
def clipRootUptoRow : OpenClaim := { program := "ytpephogadljncaa", sum := "140dc73dc2a9c83b6c10d7def612fd6bf750cb714e97c8ff68e942e28d513441", func := "ratchet/ratchetlaw16.ClipRoot", spec := "clipRoot", inPlace := ["math/bits.Add64", "math/bits.Sub64"], unfollowed := true, recurses := true, named := ["math/bits.divideError", "math/bits.overflowError"], apart := false, narrowed := true }
def ClipRootUptoSaid : Prop := clipRootUptoRow.holds Try.pinned (OpenSpec.upto clipRootSpec)

/-- 'ratchetlaw16.ClipSides', WHERE WHAT IT READS IS OF BULK AT MOST 1048576: true; the input reads as it did. -/
def clipSidesUptoRow : OpenClaim := { program := "ytpephogadljncaa", sum := "140dc73dc2a9c83b6c10d7def612fd6bf750cb714e97c8ff68e942e28d513441", func := "ratchet/ratchetlaw16.ClipSides", spec := "clipSides", inPlace := ["math/bits.Add64", "math/bits.Sub64"], unfollowed := true, recurses := true, named := ["math/bits.divideError", "math/bits.overflowError"], apart := false, narrowed := true }
def ClipSidesUptoSaid : Prop := clipSidesUptoRow.holds Try.pinned (OpenSpec.upto clipSidesSpec)

/-- 'ratchetlaw16.ClipMean', WHERE WHAT IT READS IS OF BULK AT MOST 1048576: true; the input reads as it did. -/
def clipMeanUptoRow : OpenClaim := { program := "ytpephogadljncaa", sum := "140dc73dc2a9c83b6c10d7def612fd6bf750cb714e97c8ff68e942e28d513441", func := "ratchet/ratchetlaw16.ClipMean", spec := "clipMean", inPlace := ["math/bits.Add64", "math/bits.Sub64"], unfollowed := true, recurses := true, named := ["math/bits.divideError", "math/bits.overflowError"], apart := false, narrowed := true }
def ClipMeanUptoSaid : Prop := clipMeanUptoRow.holds Try.pinned (OpenSpec.upto clipMeanSpec)

/-- 'ratchetlaw16.ClipJoined', WHERE WHAT IT READS IS OF BULK AT MOST 1048576: true; the input reads as it did. -/
def clipJoinedUptoRow : OpenClaim := { program := "ytpephogadljncaa", sum := "140dc73dc2a9c83b6c10d7def612fd6bf750cb714e97c8ff68e942e28d513441", func := "ratchet/ratchetlaw16.ClipJoined", spec := "clipJoined", inPlace := ["math/bits.Add64", "math/bits.Sub64"], unfollowed := true, recurses := true, named := ["math/bits.divideError", "math/bits.overflowError"], apart := false, narrowed := true }
def ClipJoinedUptoSaid : Prop := clipJoinedUptoRow.holds Try.pinned (OpenSpec.upto clipJoinedSpec)

end Rows
end Go.Proofs.Ytpephogadljncaa
