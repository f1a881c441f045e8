/-
  No cell of these rows narrows 'for every input' (looked for: loops, veiled, ifaces, maps, wideKeys, modest, calm, conditions, laid).
  DERIVED. THE GIVEN ROWS OF THIS SEAT. 3 by the template 'for every input the law returns true; each argument reads behind the call as it read before'; 0 by the template 'total and deterministic' (their statements: YtpidpebgeblenaaGreatTotals.lean).
  GIVEN WITH THE SEED: the statements are not yours to turn. If you find one false, say at which input.
  Laid BY PROGRAM, IN A SANDBOX (cutbox-rows.mjs): the forced cells as the released guide's own fill.sh prints them over the translation 6fca4cdafe816a63… (all of the seat's roots in one cut). By AI agents, Wed Nov 11 2026. No macro, syntax, notation, axiom, sorry.
-/
import Derived.Test.YtpidpebgeblenaaGreatChecked
import GoSem.Claim
import GoSem.ClaimJoined
import GoSem.ClaimMapViews
import Derived.JoinedTies
import Derived.KernelRfl
namespace Go.Proofs.YtpidpebgeblenaaGreat
/- THE CELL 'sum', in the pinned program and in every row, IS THE sha256 OF THE DUMP (.gsa) THAT YtpidpebgeblenaaGreatProg.lean LOADS. Nothing in Lean hashes anything: it is a label: what it is worth is what the hold of that sum in a sandbox is worth. -/
noncomputable def Tryz.pinned : Pinned := { name := "ytpidpebgeblenaagreat", sum := "6fca4cdafe816a63d7920b750340969968515f63a83209d8fc8939cc269d962d", checked := Tryz.checked }
namespace Rows
def none {H : Type} : Left H := { results := [], args := [] }

/-- 'ratchetlaw14.TensTells': WHATEVER THE INPUT: true; the input reads as it did. -/
def tensTellsSpec : ChangeSpec := { name := "tensTells", fn := fun _ => fun
  | [d1, d2] => { results := [.lit (.bool true)], args := [d1, d2] }
  | _ => none }
def tensTellsRow : OpenClaim := { program := "ytpidpebgeblenaagreat", sum := "6fca4cdafe816a63d7920b750340969968515f63a83209d8fc8939cc269d962d", func := "ratchet/ratchetlaw14.TensTells", spec := "tensTells", unfollowed := true, recurses := true, apart := false }
def TensTellsSaid : Prop := tensTellsRow.holds Tryz.pinned (OpenSpec.ofChange tensTellsSpec)

/-- ITS FALSE NEIGHBOUR: 'it returns false'. Refute it at one input. -/
def tensTellsWrong : ChangeSpec := { name := "tensTells", fn := fun _ => fun
  | [d1, d2] => { results := [.lit (.bool false)], args := [d1, d2] }
  | _ => none }
def TensTellsWrongFalsely : Prop := tensTellsRow.holds Tryz.pinned (OpenSpec.ofChange tensTellsWrong)

/-- 'ratchetlaw14.TensKeeps': WHATEVER THE INPUT: true; the input reads as it did. -/
def tensKeepsSpec : ChangeSpec := { name := "tensKeeps", fn := fun _ => fun
  | [d1, d2] => { results := [.lit (.bool true)], args := [d1, d2] }
  | _ => none }
def tensKeepsRow : OpenClaim := { program := "ytpidpebgeblenaagreat", sum := "6fca4cdafe816a63d7920b750340969968515f63a83209d8fc8939cc269d962d", func := "ratchet/ratchetlaw14.TensKeeps", spec := "tensKeeps", unfollowed := true, recurses := true, apart := false }
def TensKeepsSaid : Prop := tensKeepsRow.holds Tryz.pinned (OpenSpec.ofChange tensKeepsSpec)

/-- ITS FALSE NEIGHBOUR: 'it returns false'. Refute it at one input. -/
def tensKeepsWrong : ChangeSpec := { name := "tensKeeps", fn := fun _ => fun
  | [d1, d2] => { results := [.lit (.bool false)], args := [d1, d2] }
  | _ => none }
def TensKeepsWrongFalsely : Prop := tensKeepsRow.holds Tryz.pinned (OpenSpec.ofChange tensKeepsWrong)

/-- 'ratchetlaw14.TensRight': WHATEVER THE INPUT: true; the input reads as it did. -/
def tensRightSpec : ChangeSpec := { name := "tensRight", fn := fun _ => fun
  | [d1, d2] => { results := [.lit (.bool true)], args := [d1, d2] }
  | _ => none }
def tensRightRow : OpenClaim := { program := "ytpidpebgeblenaagreat", sum := "6fca4cdafe816a63d7920b750340969968515f63a83209d8fc8939cc269d962d", func := "ratchet/ratchetlaw14.TensRight", spec := "tensRight", unfollowed := true, recurses := true, apart := false }
def TensRightSaid : Prop := tensRightRow.holds Tryz.pinned (OpenSpec.ofChange tensRightSpec)

/-- ITS FALSE NEIGHBOUR: 'it returns false'. Refute it at one input. -/
def tensRightWrong : ChangeSpec := { name := "tensRight", fn := fun _ => fun
  | [d1, d2] => { results := [.lit (.bool false)], args := [d1, d2] }
  | _ => none }
def TensRightWrongFalsely : Prop := tensRightRow.holds Tryz.pinned (OpenSpec.ofChange tensRightWrong)

/- THE SECOND FORM. 'bulk': how many values and letters a reading holds, each counted each time it is reached (what is shared counts as often as it is met; a slice's spare places count too). A statement '..UptoSaid' is the law's where the arguments, and the package variables that the reading takes, are together of bulk at most 1048576: NARROWER than '..Said'. Prove '..Said' where nothing that the law and all that it calls make is longer than what came in: it says more and counts as full. Else prove '..UptoSaid'. A law counts once. -/
mutual
def uptoBulk {H : Type} : DataW H → Nat
  | .lit (.string bytes) => bytes.length + 1
  | .lit _ => 1
  | .nil => 1
  | .ptr d => uptoBulk d + 1
  | .slice elems spare => uptoBulkAll elems + uptoBulkAll spare + 1
  | .agg parts => uptoBulkAll parts + 1
  | .iface _ d => uptoBulk d + 1
  | .map entries => uptoBulkEntries entries + 1
  | .held _ => 1
def uptoBulkAll {H : Type} : List (DataW H) → Nat
  | [] => 0
  | d :: r => uptoBulk d + uptoBulkAll r
def uptoBulkEntries {H : Type} : List (Lit × DataW H) → Nat
  | [] => 0
  | x :: r => uptoBulkEntry x + uptoBulkEntries r
def uptoBulkEntry {H : Type} : Lit × DataW H → Nat
  | (.string bytes, d) => bytes.length + uptoBulk d + 1
  | (_, d) => uptoBulk d + 1
 end
def uptoSmall : (H : Type) → List (DataW H) → Bool := fun _ ds => decide (uptoBulkAll ds ≤ 1048576)
def OpenSpec.upto (s : _root_.Go.ChangeSpec) : _root_.Go.OpenSpec := { _root_.Go.OpenSpec.ofChange s with cond := some uptoSmall }

/-- 'ratchetlaw14.TensTells', WHERE WHAT IT READS IS OF BULK AT MOST 1048576: true; the input reads as it did. -/
def tensTellsUptoRow : OpenClaim := { program := "ytpidpebgeblenaagreat", sum := "6fca4cdafe816a63d7920b750340969968515f63a83209d8fc8939cc269d962d", func := "ratchet/ratchetlaw14.TensTells", spec := "tensTells", unfollowed := true, recurses := true, apart := false, narrowed := true }
def TensTellsUptoSaid : Prop := tensTellsUptoRow.holds Tryz.pinned (OpenSpec.upto tensTellsSpec)

/-- 'ratchetlaw14.TensKeeps', WHERE WHAT IT READS IS OF BULK AT MOST 1048576: true; the input reads as it did. -/
def tensKeepsUptoRow : OpenClaim := { program := "ytpidpebgeblenaagreat", sum := "6fca4cdafe816a63d7920b750340969968515f63a83209d8fc8939cc269d962d", func := "ratchet/ratchetlaw14.TensKeeps", spec := "tensKeeps", unfollowed := true, recurses := true, apart := false, narrowed := true }
def TensKeepsUptoSaid : Prop := tensKeepsUptoRow.holds Tryz.pinned (OpenSpec.upto tensKeepsSpec)

/-- 'ratchetlaw14.TensRight', WHERE WHAT IT READS IS OF BULK AT MOST 1048576: true; the input reads as it did. -/
def tensRightUptoRow : OpenClaim := { program := "ytpidpebgeblenaagreat", sum := "6fca4cdafe816a63d7920b750340969968515f63a83209d8fc8939cc269d962d", func := "ratchet/ratchetlaw14.TensRight", spec := "tensRight", unfollowed := true, recurses := true, apart := false, narrowed := true }
def TensRightUptoSaid : Prop := tensRightUptoRow.holds Tryz.pinned (OpenSpec.upto tensRightSpec)

end Rows
end Go.Proofs.YtpidpebgeblenaaGreat
