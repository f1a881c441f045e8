/-
  The walk of SchedEnds, as its frame takes it.
-/
import Derived.Test.YtmaolhajeoigpaaWEnds15
namespace Go.Proofs.Ytmaolhajeoigpaa
set_option maxRecDepth 100000
open Go.RowKit
set_option linter.unusedVariables false
set_option linter.unusedSimpArgs false

theorem SchedEnds_walk {w : World} {kd ba ra en wa ev la po : Int} (i_kd : I64 kd) (i_ba : I64 ba) (i_ra : I64 ra) (i_en : I64 en) (i_wa : I64 wa) (i_ev : I64 ev) (i_la : I64 la) (i_po : I64 po) (t u : Int) (wt_ : (Lit.int .i64 t).wf = true) (wu_ : (Lit.int .i64 u).wf = true) (f : Int) (wf_ : (Lit.int .i64 f).wf = true) : Calls Try.prog 6 #[.agg #[.int .i64 kd, .int .i64 ba, .int .i64 ra, .int .i64 en, .int .i64 wa, .int .i64 ev, .int .i64 la, .int .i64 po], .agg #[.int .i64 t, .int .i64 u], .int .i64 f] w fun e w' => e = .returned (.bool true) ∧ Below w.heap.size w w' := SchedEnds_all ⟨i_kd, i_ba, i_ra, i_en, i_wa, i_ev, i_la, i_po, bounds_i64 wt_, bounds_i64 wf_⟩ ⟨i_kd, i_ba, i_ra, i_en, i_wa, i_ev, i_la, i_po, bounds_i64 wu_, bounds_i64 wf_⟩
end Go.Proofs.Ytmaolhajeoigpaa
