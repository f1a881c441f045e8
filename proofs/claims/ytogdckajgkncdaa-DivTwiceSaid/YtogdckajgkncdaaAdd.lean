/-
  The contract of nat.Add.
-/
import Derived.Test.YtogdckajgkncdaaShare
namespace Go.Proofs.Ytogdckajgkncdaa
open Go.RowKit Go.Shelf

attribute [local go_sem] Oper.semAt_some
attribute [local go_sem ↓] mx_run
end Go.Proofs.Ytogdckajgkncdaa
