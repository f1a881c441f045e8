/-
  The walk of BookGaps: all ways together.
-/
import Derived.Test.YtcbchofjaegdgaaWGaps9
namespace Go.Proofs.Ytcbchofjaegdgaa
set_option maxRecDepth 100000
open Go.RowKit
set_option linter.unusedVariables false
set_option linter.unusedSimpArgs false

theorem BookGaps_walk {w : World} (k : Int) (wk : (Lit.int .i64 k).wf = true) :
    Calls Try.prog 5 #[.int .i64 k] w (fun e w' => e = .returned (.bool true) ∧ Below w.heap.size w w') := by
  by_cases h : Kind9 k
  · obtain ⟨f1, f2, f3, f4, f5⟩ := facts9 h
    obtain ⟨g1, g2, g3⟩ := gfacts9 h
    simp only [Bool.and_eq_true, decide_eq_true_eq] at g3
    obtain ⟨⟨g3, g4⟩, g5⟩ := g3
    have CB := book_ok h
    have CG := fun W => bgap_N W k
    have CD := fun W => bden_N W k
    have CS := fun W => bsig_N W k
    unfold least9 at g3 g4
    cases hs : sig9 k with
    | true => rw [hs] at CS g3 g4; exact Gaps_t CB CG CD CS f1 g1 g2 rfl rfl g3 g4 g5 (book9_at k)
    | false => rw [hs] at CS g3 g4; exact Gaps_f CB CG CD CS f1 g1 g2 rfl rfl g3 g4 g5 (book9_at k)
  · exact Gaps_no (book_no h)

end Go.Proofs.Ytcbchofjaegdgaa
