/-
  No cell of these rows narrows 'for every input' (looked for: loops, veiled, ifaces, maps, wideKeys, modest, calm, conditions, laid).
  DERIVED. THE GIVEN ROWS OF THIS SEAT. 5 by the template 'for every input the law returns true; each argument reads behind the call as it read before'; 0 by the template 'total and deterministic' (their statements: YtcbchofjaegdgaaTotals.lean).
  GIVEN WITH THE SEED: the statements are not yours to turn. If you find one false, say at which input.
  Laid BY PROGRAM, IN A SANDBOX (cutbox-rows.mjs): the forced cells as the released guide's own fill.sh prints them over the translation d3e679d566e30d8e… (all of the seat's roots in one cut). By AI agents, Wed Nov 11 2026. No macro, syntax, notation, axiom, sorry.
-/
import Derived.Test.YtcbchofjaegdgaaChecked
import GoSem.Claim
import GoSem.ClaimJoined
import GoSem.ClaimMapViews
import Derived.JoinedTies
import Derived.KernelRfl
namespace Go.Proofs.Ytcbchofjaegdgaa
/- THE CELL 'sum', in the pinned program and in every row, IS THE sha256 OF THE DUMP (.gsa) THAT YtcbchofjaegdgaaProg.lean LOADS. Nothing in Lean hashes anything: it is a label: what it is worth is what the hold of that sum in a sandbox is worth. -/
noncomputable def Try.pinned : Pinned := { name := "ytcbchofjaegdgaa", sum := "d3e679d566e30d8eb27d9d00da9d2f82fd0f2c731db4006f6b035c85b6411c5c", checked := Try.checked }
namespace Rows
def none {H : Type} : Left H := { results := [], args := [] }

/-- 'ratchetlaw09.BookTells': WHATEVER THE INPUT: true; the input reads as it did. -/
def bookTellsSpec : ChangeSpec := { name := "bookTells", fn := fun _ => fun
  | [d] => { results := [.lit (.bool true)], args := [d] }
  | _ => none }
def bookTellsRow : OpenClaim := { program := "ytcbchofjaegdgaa", sum := "d3e679d566e30d8eb27d9d00da9d2f82fd0f2c731db4006f6b035c85b6411c5c", func := "ratchet/ratchetlaw09.BookTells", spec := "bookTells", unfollowed := true, recurses := true, apart := false }
def BookTellsSaid : Prop := bookTellsRow.holds Try.pinned (OpenSpec.ofChange bookTellsSpec)

/-- ITS FALSE NEIGHBOUR: 'it returns false'. Refute it at one input. -/
def bookTellsWrong : ChangeSpec := { name := "bookTells", fn := fun _ => fun
  | [d] => { results := [.lit (.bool false)], args := [d] }
  | _ => none }
def BookTellsWrongFalsely : Prop := bookTellsRow.holds Try.pinned (OpenSpec.ofChange bookTellsWrong)

/-- 'ratchetlaw09.BookRises': WHATEVER THE INPUT: true; the input reads as it did. -/
def bookRisesSpec : ChangeSpec := { name := "bookRises", fn := fun _ => fun
  | [d1, d2] => { results := [.lit (.bool true)], args := [d1, d2] }
  | _ => none }
def bookRisesRow : OpenClaim := { program := "ytcbchofjaegdgaa", sum := "d3e679d566e30d8eb27d9d00da9d2f82fd0f2c731db4006f6b035c85b6411c5c", func := "ratchet/ratchetlaw09.BookRises", spec := "bookRises", unfollowed := true, recurses := true, apart := false }
def BookRisesSaid : Prop := bookRisesRow.holds Try.pinned (OpenSpec.ofChange bookRisesSpec)

/-- ITS FALSE NEIGHBOUR: 'it returns false'. Refute it at one input. -/
def bookRisesWrong : ChangeSpec := { name := "bookRises", fn := fun _ => fun
  | [d1, d2] => { results := [.lit (.bool false)], args := [d1, d2] }
  | _ => none }
def BookRisesWrongFalsely : Prop := bookRisesRow.holds Try.pinned (OpenSpec.ofChange bookRisesWrong)

/-- 'ratchetlaw09.BookGaps': WHATEVER THE INPUT: true; the input reads as it did. -/
def bookGapsSpec : ChangeSpec := { name := "bookGaps", fn := fun _ => fun
  | [d] => { results := [.lit (.bool true)], args := [d] }
  | _ => none }
def bookGapsRow : OpenClaim := { program := "ytcbchofjaegdgaa", sum := "d3e679d566e30d8eb27d9d00da9d2f82fd0f2c731db4006f6b035c85b6411c5c", func := "ratchet/ratchetlaw09.BookGaps", spec := "bookGaps", unfollowed := true, recurses := true, apart := false }
def BookGapsSaid : Prop := bookGapsRow.holds Try.pinned (OpenSpec.ofChange bookGapsSpec)

/-- ITS FALSE NEIGHBOUR: 'it returns false'. Refute it at one input. -/
def bookGapsWrong : ChangeSpec := { name := "bookGaps", fn := fun _ => fun
  | [d] => { results := [.lit (.bool false)], args := [d] }
  | _ => none }
def BookGapsWrongFalsely : Prop := bookGapsRow.holds Try.pinned (OpenSpec.ofChange bookGapsWrong)

/-- 'ratchetlaw09.BookSides': WHATEVER THE INPUT: true; the input reads as it did. -/
def bookSidesSpec : ChangeSpec := { name := "bookSides", fn := fun _ => fun
  | [d1, d2] => { results := [.lit (.bool true)], args := [d1, d2] }
  | _ => none }
def bookSidesRow : OpenClaim := { program := "ytcbchofjaegdgaa", sum := "d3e679d566e30d8eb27d9d00da9d2f82fd0f2c731db4006f6b035c85b6411c5c", func := "ratchet/ratchetlaw09.BookSides", spec := "bookSides", unfollowed := true, recurses := true, apart := false }
def BookSidesSaid : Prop := bookSidesRow.holds Try.pinned (OpenSpec.ofChange bookSidesSpec)

/-- ITS FALSE NEIGHBOUR: 'it returns false'. Refute it at one input. -/
def bookSidesWrong : ChangeSpec := { name := "bookSides", fn := fun _ => fun
  | [d1, d2] => { results := [.lit (.bool false)], args := [d1, d2] }
  | _ => none }
def BookSidesWrongFalsely : Prop := bookSidesRow.holds Try.pinned (OpenSpec.ofChange bookSidesWrong)

/-- 'ratchetlaw09.BookFine': WHATEVER THE INPUT: true; the input reads as it did. -/
def bookFineSpec : ChangeSpec := { name := "bookFine", fn := fun _ => fun
  | [d1, d2] => { results := [.lit (.bool true)], args := [d1, d2] }
  | _ => none }
def bookFineRow : OpenClaim := { program := "ytcbchofjaegdgaa", sum := "d3e679d566e30d8eb27d9d00da9d2f82fd0f2c731db4006f6b035c85b6411c5c", func := "ratchet/ratchetlaw09.BookFine", spec := "bookFine", unfollowed := true, recurses := true, apart := false }
def BookFineSaid : Prop := bookFineRow.holds Try.pinned (OpenSpec.ofChange bookFineSpec)

/-- ITS FALSE NEIGHBOUR: 'it returns false'. Refute it at one input. -/
def bookFineWrong : ChangeSpec := { name := "bookFine", fn := fun _ => fun
  | [d1, d2] => { results := [.lit (.bool false)], args := [d1, d2] }
  | _ => none }
def BookFineWrongFalsely : Prop := bookFineRow.holds Try.pinned (OpenSpec.ofChange bookFineWrong)

/- THE SECOND FORM. 'bulk': how many values and letters a reading holds, each counted each time it is reached (what is shared counts as often as it is met; a slice's spare places count too). A statement '..UptoSaid' is the law's where the arguments, and the package variables that the reading takes, are together of bulk at most 1048576: NARROWER than '..Said'. Prove '..Said' where nothing that the law and all that it calls make is longer than what came in: it says more and counts as full. Else prove '..UptoSaid'. A law counts once. -/
mutual
def uptoBulk {H : Type} : DataW H → Nat
  | .lit (.string bytes) => bytes.length + 1
  | .lit _ => 1
  | .nil => 1
  | .ptr d => uptoBulk d + 1
  | .slice elems spare => uptoBulkAll elems + uptoBulkAll spare + 1
  | .agg parts => uptoBulkAll parts + 1
  | .iface _ d => uptoBulk d + 1
  | .map entries => uptoBulkEntries entries + 1
  | .held _ => 1
def uptoBulkAll {H : Type} : List (DataW H) → Nat
  | [] => 0
  | d :: r => uptoBulk d + uptoBulkAll r
def uptoBulkEntries {H : Type} : List (Lit × DataW H) → Nat
  | [] => 0
  | x :: r => uptoBulkEntry x + uptoBulkEntries r
def uptoBulkEntry {H : Type} : Lit × DataW H → Nat
  | (.string bytes, d) => bytes.length + uptoBulk d + 1
  | (_, d) => uptoBulk d + 1
 end
def uptoSmall : (H : Type) → List (DataW H) → Bool := fun _ ds => decide (uptoBulkAll ds ≤ 1048576)
def OpenSpec.upto (s : _root_.Go.ChangeSpec) : _root_.Go.OpenSpec := { _root_.Go.OpenSpec.ofChange s with cond := some uptoSmall }

/-- 'ratchetlaw09.BookTells', WHERE WHAT IT READS IS OF BULK AT MOST 1048576: true; the input reads as it did. -/
def bookTellsUptoRow : OpenClaim := { program := "ytcbchofjaegdgaa", sum := "d3e679d566e30d8eb27d9d00da9d2f82fd0f2c731db4006f6b035c85b6411c5c", func := "ratchet/ratchetlaw09.BookTells", spec := "bookTells", unfollowed := true, recurses := true, apart := false, narrowed := true }
def BookTellsUptoSaid : Prop := bookTellsUptoRow.holds Try.pinned (OpenSpec.upto bookTellsSpec)

/-- 'ratchetlaw09.BookRises', WHERE WHAT IT READS IS OF BULK AT MOST 1048576: true; the input reads as it did. -/
def bookRisesUptoRow : OpenClaim := { program := "ytcbchofjaegdgaa", sum := "d3e679d566e30d8eb27d9d00da9d2f82fd0f2c731db4006f6b035c85b6411c5c", func := "ratchet/ratchetlaw09.BookRises", spec := "bookRises", unfollowed := true, recurses := true, apart := false, narrowed := true }
def BookRisesUptoSaid : Prop := bookRisesUptoRow.holds Try.pinned (OpenSpec.upto bookRisesSpec)

/-- 'ratchetlaw09.BookGaps', WHERE WHAT IT READS IS OF BULK AT MOST 1048576: true; the input reads as it did. -/
def bookGapsUptoRow : OpenClaim := { program := "ytcbchofjaegdgaa", sum := "d3e679d566e30d8eb27d9d00da9d2f82fd0f2c731db4006f6b035c85b6411c5c", func := "ratchet/ratchetlaw09.BookGaps", spec := "bookGaps", unfollowed := true, recurses := true, apart := false, narrowed := true }
def BookGapsUptoSaid : Prop := bookGapsUptoRow.holds Try.pinned (OpenSpec.upto bookGapsSpec)

/-- 'ratchetlaw09.BookSides', WHERE WHAT IT READS IS OF BULK AT MOST 1048576: true; the input reads as it did. -/
def bookSidesUptoRow : OpenClaim := { program := "ytcbchofjaegdgaa", sum := "d3e679d566e30d8eb27d9d00da9d2f82fd0f2c731db4006f6b035c85b6411c5c", func := "ratchet/ratchetlaw09.BookSides", spec := "bookSides", unfollowed := true, recurses := true, apart := false, narrowed := true }
def BookSidesUptoSaid : Prop := bookSidesUptoRow.holds Try.pinned (OpenSpec.upto bookSidesSpec)

/-- 'ratchetlaw09.BookFine', WHERE WHAT IT READS IS OF BULK AT MOST 1048576: true; the input reads as it did. -/
def bookFineUptoRow : OpenClaim := { program := "ytcbchofjaegdgaa", sum := "d3e679d566e30d8eb27d9d00da9d2f82fd0f2c731db4006f6b035c85b6411c5c", func := "ratchet/ratchetlaw09.BookFine", spec := "bookFine", unfollowed := true, recurses := true, apart := false, narrowed := true }
def BookFineUptoSaid : Prop := bookFineUptoRow.holds Try.pinned (OpenSpec.upto bookFineSpec)

end Rows
end Go.Proofs.Ytcbchofjaegdgaa
