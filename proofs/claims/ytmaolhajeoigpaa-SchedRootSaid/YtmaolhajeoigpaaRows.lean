/-
  No cell of these rows narrows 'for every input' (looked for: loops, veiled, ifaces, maps, wideKeys, modest, calm, conditions, laid).
  DERIVED. THE GIVEN ROWS OF THIS SEAT. 5 by the template 'for every input the law returns true; each argument reads behind the call as it read before'; 0 by the template 'total and deterministic' (their statements: YtmaolhajeoigpaaTotals.lean).
  GIVEN WITH THE SEED: the statements are not yours to turn. If you find one false, say at which input.
  Laid BY PROGRAM, IN A SANDBOX (cutbox-rows.mjs): the forced cells as the released guide's own fill.sh prints them over the translation b238226e6ae80722… (all of the seat's roots in one cut). By AI agents, Wed Nov 11 2026. No macro, syntax, notation, axiom, sorry.
-/
import Derived.Test.YtmaolhajeoigpaaChecked
import GoSem.Claim
import GoSem.ClaimJoined
import GoSem.ClaimMapViews
import Derived.JoinedTies
import Derived.KernelRfl
namespace Go.Proofs.Ytmaolhajeoigpaa
/- THE CELL 'sum', in the pinned program and in every row, IS THE sha256 OF THE DUMP (.gsa) THAT YtmaolhajeoigpaaProg.lean LOADS. Nothing in Lean hashes anything: it is a label: what it is worth is what the hold of that sum in a sandbox is worth. -/
noncomputable def Try.pinned : Pinned := { name := "ytmaolhajeoigpaa", sum := "b238226e6ae80722e202c72971d7c0815cb891fc4dc58b5a0fac544a75d337e0", checked := Try.checked }
namespace Rows
def none {H : Type} : Left H := { results := [], args := [] }

/-- 'ratchetlaw15.SchedWarm': WHATEVER THE INPUT: true; the input reads as it did. -/
def schedWarmSpec : ChangeSpec := { name := "schedWarm", fn := fun _ => fun
  | [d1, d2, d3] => { results := [.lit (.bool true)], args := [d1, d2, d3] }
  | _ => none }
def schedWarmRow : OpenClaim := { program := "ytmaolhajeoigpaa", sum := "b238226e6ae80722e202c72971d7c0815cb891fc4dc58b5a0fac544a75d337e0", func := "ratchet/ratchetlaw15.SchedWarm", spec := "schedWarm", inPlace := ["math/bits.Add64", "math/bits.Sub64"], unfollowed := true, recurses := true, named := ["math/bits.divideError", "math/bits.overflowError"], apart := false }
def SchedWarmSaid : Prop := schedWarmRow.holds Try.pinned (OpenSpec.ofChange schedWarmSpec)

/-- ITS FALSE NEIGHBOUR: 'it returns false'. Refute it at one input. -/
def schedWarmWrong : ChangeSpec := { name := "schedWarm", fn := fun _ => fun
  | [d1, d2, d3] => { results := [.lit (.bool false)], args := [d1, d2, d3] }
  | _ => none }
def SchedWarmWrongFalsely : Prop := schedWarmRow.holds Try.pinned (OpenSpec.ofChange schedWarmWrong)

/-- 'ratchetlaw15.SchedFalls': WHATEVER THE INPUT: true; the input reads as it did. -/
def schedFallsSpec : ChangeSpec := { name := "schedFalls", fn := fun _ => fun
  | [d1, d2, d3] => { results := [.lit (.bool true)], args := [d1, d2, d3] }
  | _ => none }
def schedFallsRow : OpenClaim := { program := "ytmaolhajeoigpaa", sum := "b238226e6ae80722e202c72971d7c0815cb891fc4dc58b5a0fac544a75d337e0", func := "ratchet/ratchetlaw15.SchedFalls", spec := "schedFalls", inPlace := ["math/bits.Add64", "math/bits.Sub64"], unfollowed := true, recurses := true, named := ["math/bits.divideError", "math/bits.overflowError"], apart := false }
def SchedFallsSaid : Prop := schedFallsRow.holds Try.pinned (OpenSpec.ofChange schedFallsSpec)

/-- ITS FALSE NEIGHBOUR: 'it returns false'. Refute it at one input. -/
def schedFallsWrong : ChangeSpec := { name := "schedFalls", fn := fun _ => fun
  | [d1, d2, d3] => { results := [.lit (.bool false)], args := [d1, d2, d3] }
  | _ => none }
def SchedFallsWrongFalsely : Prop := schedFallsRow.holds Try.pinned (OpenSpec.ofChange schedFallsWrong)

/-- 'ratchetlaw15.SchedRoot': WHATEVER THE INPUT: true; the input reads as it did. -/
def schedRootSpec : ChangeSpec := { name := "schedRoot", fn := fun _ => fun
  | [d1, d2, d3] => { results := [.lit (.bool true)], args := [d1, d2, d3] }
  | _ => none }
def schedRootRow : OpenClaim := { program := "ytmaolhajeoigpaa", sum := "b238226e6ae80722e202c72971d7c0815cb891fc4dc58b5a0fac544a75d337e0", func := "ratchet/ratchetlaw15.SchedRoot", spec := "schedRoot", inPlace := ["math/bits.Add64", "math/bits.Sub64"], unfollowed := true, recurses := true, named := ["math/bits.divideError", "math/bits.overflowError"], apart := false }
def SchedRootSaid : Prop := schedRootRow.holds Try.pinned (OpenSpec.ofChange schedRootSpec)

/-- ITS FALSE NEIGHBOUR: 'it returns false'. Refute it at one input. -/
def schedRootWrong : ChangeSpec := { name := "schedRoot", fn := fun _ => fun
  | [d1, d2, d3] => { results := [.lit (.bool false)], args := [d1, d2, d3] }
  | _ => none }
def SchedRootWrongFalsely : Prop := schedRootRow.holds Try.pinned (OpenSpec.ofChange schedRootWrong)

/-- 'ratchetlaw15.SchedEnds': WHATEVER THE INPUT: true; the input reads as it did. -/
def schedEndsSpec : ChangeSpec := { name := "schedEnds", fn := fun _ => fun
  | [d1, d2, d3] => { results := [.lit (.bool true)], args := [d1, d2, d3] }
  | _ => none }
def schedEndsRow : OpenClaim := { program := "ytmaolhajeoigpaa", sum := "b238226e6ae80722e202c72971d7c0815cb891fc4dc58b5a0fac544a75d337e0", func := "ratchet/ratchetlaw15.SchedEnds", spec := "schedEnds", inPlace := ["math/bits.Add64", "math/bits.Sub64"], unfollowed := true, recurses := true, named := ["math/bits.divideError", "math/bits.overflowError"], apart := false }
def SchedEndsSaid : Prop := schedEndsRow.holds Try.pinned (OpenSpec.ofChange schedEndsSpec)

/-- ITS FALSE NEIGHBOUR: 'it returns false'. Refute it at one input. -/
def schedEndsWrong : ChangeSpec := { name := "schedEnds", fn := fun _ => fun
  | [d1, d2, d3] => { results := [.lit (.bool false)], args := [d1, d2, d3] }
  | _ => none }
def SchedEndsWrongFalsely : Prop := schedEndsRow.holds Try.pinned (OpenSpec.ofChange schedEndsWrong)

/-- 'ratchetlaw15.SchedAny': WHATEVER THE INPUT: true; the input reads as it did. -/
def schedAnySpec : ChangeSpec := { name := "schedAny", fn := fun _ => fun
  | [d1, d2, d3] => { results := [.lit (.bool true)], args := [d1, d2, d3] }
  | _ => none }
def schedAnyRow : OpenClaim := { program := "ytmaolhajeoigpaa", sum := "b238226e6ae80722e202c72971d7c0815cb891fc4dc58b5a0fac544a75d337e0", func := "ratchet/ratchetlaw15.SchedAny", spec := "schedAny", inPlace := ["math/bits.Add64", "math/bits.Sub64"], unfollowed := true, recurses := true, named := ["math/bits.divideError", "math/bits.overflowError"], apart := false }
def SchedAnySaid : Prop := schedAnyRow.holds Try.pinned (OpenSpec.ofChange schedAnySpec)

/-- ITS FALSE NEIGHBOUR: 'it returns false'. Refute it at one input. -/
def schedAnyWrong : ChangeSpec := { name := "schedAny", fn := fun _ => fun
  | [d1, d2, d3] => { results := [.lit (.bool false)], args := [d1, d2, d3] }
  | _ => none }
def SchedAnyWrongFalsely : Prop := schedAnyRow.holds Try.pinned (OpenSpec.ofChange schedAnyWrong)

/- THE SECOND FORM. 'bulk': how many values and letters a reading holds, each counted each time it is reached (what is shared counts as often as it is met; a slice's spare places count too). A statement '..UptoSaid' is the law's where the arguments, and the package variables that the reading takes, are together of bulk at most 1048576: NARROWER than '..Said'. Prove '..Said' where nothing that the law and all that it calls make is longer than what came in: it says more and counts as full. Else prove '..UptoSaid'. A law counts once. -/
mutual
def uptoBulk {H : Type} : DataW H → Nat
  | .lit (.string bytes) => bytes.length + 1
  | .lit _ => 1
  | .nil => 1
  | .ptr d => uptoBulk d + 1
  | .slice elems spare => uptoBulkAll elems + uptoBulkAll spare + 1
  | .agg parts => uptoBulkAll parts + 1
  | .iface _ d => uptoBulk d + 1
  | .map entries => uptoBulkEntries entries + 1
  | .held _ => 1
def uptoBulkAll {H : Type} : List (DataW H) → Nat
  | [] => 0
  | d :: r => uptoBulk d + uptoBulkAll r
def uptoBulkEntries {H : Type} : List (Lit × DataW H) → Nat
  | [] => 0
  | x :: r => uptoBulkEntry x + uptoBulkEntries r
def uptoBulkEntry {H : Type} : Lit × DataW H → Nat
  | (.string bytes, d) => bytes.length + uptoBulk d + 1
  | (_, d) => uptoBulk d + 1
 end
def uptoSmall : (H : Type) → List (DataW H) → Bool := fun _ ds => decide (uptoBulkAll ds ≤ 1048576)
def OpenSpec.upto (s : _root_.Go.ChangeSpec) : _root_.Go.OpenSpec := { _root_.Go.OpenSpec.ofChange s with cond := some uptoSmall }

/-- 'ratchetlaw15.SchedWarm', WHERE WHAT IT READS IS OF BULK AT MOST 1048576: true; the input reads as it did. -/
def schedWarmUptoRow : OpenClaim := { program := "ytmaolhajeoigpaa", sum := "b238226e6ae80722e202c72971d7c0815cb891fc4dc58b5a0fac544a75d337e0", func := "ratchet/ratchetlaw15.SchedWarm", spec := "schedWarm", inPlace := ["math/bits.Add64", "math/bits.Sub64"], unfollowed := true, recurses := true, named := ["math/bits.divideError", "math/bits.overflowError"], apart := false, narrowed := true }
def SchedWarmUptoSaid : Prop := schedWarmUptoRow.holds Try.pinned (OpenSpec.upto schedWarmSpec)

/-- 'ratchetlaw15.SchedFalls', WHERE WHAT IT READS IS OF BULK AT MOST 1048576: true; the input reads as it did. -/
def schedFallsUptoRow : OpenClaim := { program := "ytmaolhajeoigpaa", sum := "b238226e6ae80722e202c72971d7c0815cb891fc4dc58b5a0fac544a75d337e0", func := "ratchet/ratchetlaw15.SchedFalls", spec := "schedFalls", inPlace := ["math/bits.Add64", "math/bits.Sub64"], unfollowed := true, recurses := true, named := ["math/bits.divideError", "math/bits.overflowError"], apart := false, narrowed := true }
def SchedFallsUptoSaid : Prop := schedFallsUptoRow.holds Try.pinned (OpenSpec.upto schedFallsSpec)

/-- 'ratchetlaw15.SchedRoot', WHERE WHAT IT READS IS OF BULK AT MOST 1048576: true; the input reads as it did. -/
def schedRootUptoRow : OpenClaim := { program := "ytmaolhajeoigpaa", sum := "b238226e6ae80722e202c72971d7c0815cb891fc4dc58b5a0fac544a75d337e0", func := "ratchet/ratchetlaw15.SchedRoot", spec := "schedRoot", inPlace := ["math/bits.Add64", "math/bits.Sub64"], unfollowed := true, recurses := true, named := ["math/bits.divideError", "math/bits.overflowError"], apart := false, narrowed := true }
def SchedRootUptoSaid : Prop := schedRootUptoRow.holds Try.pinned (OpenSpec.upto schedRootSpec)

/-- 'ratchetlaw15.SchedEnds', WHERE WHAT IT READS IS OF BULK AT MOST 1048576: true; the input reads as it did. -/
def schedEndsUptoRow : OpenClaim := { program := "ytmaolhajeoigpaa", sum := "b238226e6ae80722e202c72971d7c0815cb891fc4dc58b5a0fac544a75d337e0", func := "ratchet/ratchetlaw15.SchedEnds", spec := "schedEnds", inPlace := ["math/bits.Add64", "math/bits.Sub64"], unfollowed := true, recurses := true, named := ["math/bits.divideError", "math/bits.overflowError"], apart := false, narrowed := true }
def SchedEndsUptoSaid : Prop := schedEndsUptoRow.holds Try.pinned (OpenSpec.upto schedEndsSpec)

/-- 'ratchetlaw15.SchedAny', WHERE WHAT IT READS IS OF BULK AT MOST 1048576: true; the input reads as it did. -/
def schedAnyUptoRow : OpenClaim := { program := "ytmaolhajeoigpaa", sum := "b238226e6ae80722e202c72971d7c0815cb891fc4dc58b5a0fac544a75d337e0", func := "ratchet/ratchetlaw15.SchedAny", spec := "schedAny", inPlace := ["math/bits.Add64", "math/bits.Sub64"], unfollowed := true, recurses := true, named := ["math/bits.divideError", "math/bits.overflowError"], apart := false, narrowed := true }
def SchedAnyUptoSaid : Prop := schedAnyUptoRow.holds Try.pinned (OpenSpec.upto schedAnySpec)

end Rows
end Go.Proofs.Ytmaolhajeoigpaa
