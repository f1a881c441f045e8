/-
  No cell of these rows narrows 'for every input' (looked for: loops, veiled, ifaces, maps, wideKeys, modest, calm, conditions, laid).
  DERIVED. THE GIVEN ROWS OF THIS SEAT. 3 by the template 'for every input the law returns true; each argument reads behind the call as it read before'; 0 by the template 'total and deterministic' (their statements: YtpidpebgeblenaaTotals.lean).
  GIVEN WITH THE SEED: the statements are not yours to turn. If you find one false, say at which input.
  Laid BY PROGRAM, IN A SANDBOX (cutbox-rows.mjs): the forced cells as the released guide's own fill.sh prints them over the translation 6272f9bfa2e47f19… (all of the seat's roots in one cut). By AI agents, Wed Nov 11 2026. No macro, syntax, notation, axiom, sorry.
-/
import Derived.Test.YtpidpebgeblenaaChecked
import GoSem.Claim
import GoSem.ClaimJoined
import GoSem.ClaimMapViews
import Derived.JoinedTies
import Derived.KernelRfl
namespace Go.Proofs.Ytpidpebgeblenaa
/- THE CELL 'sum', in the pinned program and in every row, IS THE sha256 OF THE DUMP (.gsa) THAT YtpidpebgeblenaaProg.lean LOADS. Nothing in Lean hashes anything: it is a label: what it is worth is what the hold of that sum in a sandbox is worth. -/
noncomputable def Try.pinned : Pinned := { name := "ytpidpebgeblenaa", sum := "6272f9bfa2e47f198a37fdbc32a06104315e027b133ddfe55bcaa2fa37f6bfc8", checked := Try.checked }
namespace Rows
def none {H : Type} : Left H := { results := [], args := [] }

/-- 'ratchetlaw14.TensCost': WHATEVER THE INPUT: true; the input reads as it did. -/
def tensCostSpec : ChangeSpec := { name := "tensCost", fn := fun _ => fun
  | [d1, d2] => { results := [.lit (.bool true)], args := [d1, d2] }
  | _ => none }
def tensCostRow : OpenClaim := { program := "ytpidpebgeblenaa", sum := "6272f9bfa2e47f198a37fdbc32a06104315e027b133ddfe55bcaa2fa37f6bfc8", func := "ratchet/ratchetlaw14.TensCost", spec := "tensCost", unfollowed := true, recurses := true, apart := false }
def TensCostSaid : Prop := tensCostRow.holds Try.pinned (OpenSpec.ofChange tensCostSpec)

/-- ITS FALSE NEIGHBOUR: 'it returns false'. Refute it at one input. -/
def tensCostWrong : ChangeSpec := { name := "tensCost", fn := fun _ => fun
  | [d1, d2] => { results := [.lit (.bool false)], args := [d1, d2] }
  | _ => none }
def TensCostWrongFalsely : Prop := tensCostRow.holds Try.pinned (OpenSpec.ofChange tensCostWrong)

/-- 'ratchetlaw14.TensApart': WHATEVER THE INPUT: true; the input reads as it did. -/
def tensApartSpec : ChangeSpec := { name := "tensApart", fn := fun _ => fun
  | [d1, d2, d3] => { results := [.lit (.bool true)], args := [d1, d2, d3] }
  | _ => none }
def tensApartRow : OpenClaim := { program := "ytpidpebgeblenaa", sum := "6272f9bfa2e47f198a37fdbc32a06104315e027b133ddfe55bcaa2fa37f6bfc8", func := "ratchet/ratchetlaw14.TensApart", spec := "tensApart", unfollowed := true, recurses := true, apart := false }
def TensApartSaid : Prop := tensApartRow.holds Try.pinned (OpenSpec.ofChange tensApartSpec)

/-- ITS FALSE NEIGHBOUR: 'it returns false'. Refute it at one input. -/
def tensApartWrong : ChangeSpec := { name := "tensApart", fn := fun _ => fun
  | [d1, d2, d3] => { results := [.lit (.bool false)], args := [d1, d2, d3] }
  | _ => none }
def TensApartWrongFalsely : Prop := tensApartRow.holds Try.pinned (OpenSpec.ofChange tensApartWrong)

/-- 'ratchetlaw14.TensJoined': WHATEVER THE INPUT: true; the input reads as it did. -/
def tensJoinedSpec : ChangeSpec := { name := "tensJoined", fn := fun _ => fun
  | [d1, d2, d3] => { results := [.lit (.bool true)], args := [d1, d2, d3] }
  | _ => none }
def tensJoinedRow : OpenClaim := { program := "ytpidpebgeblenaa", sum := "6272f9bfa2e47f198a37fdbc32a06104315e027b133ddfe55bcaa2fa37f6bfc8", func := "ratchet/ratchetlaw14.TensJoined", spec := "tensJoined", unfollowed := true, recurses := true, apart := false }
def TensJoinedSaid : Prop := tensJoinedRow.holds Try.pinned (OpenSpec.ofChange tensJoinedSpec)

/-- ITS FALSE NEIGHBOUR: 'it returns false'. Refute it at one input. -/
def tensJoinedWrong : ChangeSpec := { name := "tensJoined", fn := fun _ => fun
  | [d1, d2, d3] => { results := [.lit (.bool false)], args := [d1, d2, d3] }
  | _ => none }
def TensJoinedWrongFalsely : Prop := tensJoinedRow.holds Try.pinned (OpenSpec.ofChange tensJoinedWrong)

/- THE SECOND FORM. 'bulk': how many values and letters a reading holds, each counted each time it is reached (what is shared counts as often as it is met; a slice's spare places count too). A statement '..UptoSaid' is the law's where the arguments, and the package variables that the reading takes, are together of bulk at most 1048576: NARROWER than '..Said'. Prove '..Said' where nothing that the law and all that it calls make is longer than what came in: it says more and counts as full. Else prove '..UptoSaid'. A law counts once. -/
mutual
def uptoBulk {H : Type} : DataW H → Nat
  | .lit (.string bytes) => bytes.length + 1
  | .lit _ => 1
  | .nil => 1
  | .ptr d => uptoBulk d + 1
  | .slice elems spare => uptoBulkAll elems + uptoBulkAll spare + 1
  | .agg parts => uptoBulkAll parts + 1
  | .iface _ d => uptoBulk d + 1
  | .map entries => uptoBulkEntries entries + 1
  | .held _ => 1
def uptoBulkAll {H : Type} : List (DataW H) → Nat
  | [] => 0
  | d :: r => uptoBulk d + uptoBulkAll r
def uptoBulkEntries {H : Type} : List (Lit × DataW H) → Nat
  | [] => 0
  | x :: r => uptoBulkEntry x + uptoBulkEntries r
def uptoBulkEntry {H : Type} : Lit × DataW H → Nat
  | (.string bytes, d) => bytes.length + uptoBulk d + 1
  | (_, d) => uptoBulk d + 1
 end
def uptoSmall : (H : Type) → List (DataW H) → Bool := fun _ ds => decide (uptoBulkAll ds ≤ 1048576)
def OpenSpec.upto (s : _root_.Go.ChangeSpec) : _root_.Go.OpenSpec := { _root_.Go.OpenSpec.ofChange s with cond := some uptoSmall }

/-- 'ratchetlaw14.TensCost', WHERE WHAT IT READS IS OF BULK AT MOST 1048576: true; the input reads as it did. -/
def tensCostUptoRow : OpenClaim := { program := "ytpidpebgeblenaa", sum := "6272f9bfa2e47f198a37fdbc32a06104315e027b133ddfe55bcaa2fa37f6bfc8", func := "ratchet/ratchetlaw14.TensCost", spec := "tensCost", unfollowed := true, recurses := true, apart := false, narrowed := true }
def TensCostUptoSaid : Prop := tensCostUptoRow.holds Try.pinned (OpenSpec.upto tensCostSpec)

/-- 'ratchetlaw14.TensApart', WHERE WHAT IT READS IS OF BULK AT MOST 1048576: true; the input reads as it did. -/
def tensApartUptoRow : OpenClaim := { program := "ytpidpebgeblenaa", sum := "6272f9bfa2e47f198a37fdbc32a06104315e027b133ddfe55bcaa2fa37f6bfc8", func := "ratchet/ratchetlaw14.TensApart", spec := "tensApart", unfollowed := true, recurses := true, apart := false, narrowed := true }
def TensApartUptoSaid : Prop := tensApartUptoRow.holds Try.pinned (OpenSpec.upto tensApartSpec)

/-- 'ratchetlaw14.TensJoined', WHERE WHAT IT READS IS OF BULK AT MOST 1048576: true; the input reads as it did. -/
def tensJoinedUptoRow : OpenClaim := { program := "ytpidpebgeblenaa", sum := "6272f9bfa2e47f198a37fdbc32a06104315e027b133ddfe55bcaa2fa37f6bfc8", func := "ratchet/ratchetlaw14.TensJoined", spec := "tensJoined", unfollowed := true, recurses := true, apart := false, narrowed := true }
def TensJoinedUptoSaid : Prop := tensJoinedUptoRow.holds Try.pinned (OpenSpec.upto tensJoinedSpec)

end Rows
end Go.Proofs.Ytpidpebgeblenaa
