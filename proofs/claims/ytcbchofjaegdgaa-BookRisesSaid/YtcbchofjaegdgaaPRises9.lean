/-
  The walk of BookRises: all ways together.
-/
import Derived.Test.YtcbchofjaegdgaaWRises9
namespace Go.Proofs.Ytcbchofjaegdgaa
set_option maxRecDepth 100000
open Go.RowKit
set_option linter.unusedVariables false
set_option linter.unusedSimpArgs false

theorem u8_nat {a : Int} (h : (Lit.int .u8 a).wf = true) : ∃ q : Nat, a = (q : Int) ∧ q < 256 := by
  have : 0 ≤ a ∧ a ≤ 255 := bounds_u8 h
  exact ⟨a.toNat, by omega, by omega⟩
theorem book_ok {k : Int} (h : Kind9 k) (W : World) : Calls Try.prog 8 #[.int .i64 k] W (GotIp W (book9 k) 0) := by have := bbook_N W k; rw [kind9_code h] at this; exact this
theorem book_no {k : Int} (h : ¬ Kind9 k) (W : World) : Calls Try.prog 8 #[.int .i64 k] W (GotIp W [] 1) := by have := bbook_N W k; rw [(other9 h).1, (other9 h).2.1] at this; exact this
theorem BookRises_walk {w : World} (k : Int) (wk : (Lit.int .i64 k).wf = true) (a : Int) (wa : (Lit.int .u8 a).wf = true) :
    Calls Try.prog 4 #[.int .i64 k, .int .u8 a] w (fun e w' => e = .returned (.bool true) ∧ Below w.heap.size w w') := by
  obtain ⟨q, rfl, hq⟩ := u8_nat wa
  by_cases h : Kind9 k
  · obtain ⟨f1, f2, f3, f4, f5⟩ := facts9 h
    have CB := book_ok h
    have CD := fun W => bden_N W k
    have CS := fun W => bsig_N W k
    cases hs : sig9 k with
    | true =>
      rw [hs] at f5 CS
      have hz : decide ((book9 k)[0]?.getD 0 < 0) = true := by simpa using f5
      by_cases h0 : q = 0
      · subst h0; exact Rises_0t CB CD CS f1 f2 f3 rfl hz
      · obtain ⟨p, rfl⟩ : ∃ p, q = p + 1 := ⟨q - 1, by omega⟩
        exact Rises_1t CB CD CS f1 f2 f3 rfl hz rfl hq (rises_at f4 (by omega))
    | false =>
      rw [hs] at f5 CS
      have hz : ((book9 k)[0]?.getD 0 == 0) = true := by simpa using f5
      by_cases h0 : q = 0
      · subst h0; exact Rises_0f CB CD CS f1 f2 f3 rfl hz
      · obtain ⟨p, rfl⟩ : ∃ p, q = p + 1 := ⟨q - 1, by omega⟩
        exact Rises_1f CB CD CS f1 f2 f3 rfl hz rfl hq (rises_at f4 (by omega))
  · obtain ⟨g1, g2, g3, g4, g5⟩ := other9 h
    have CB := book_no h
    have CD : ∀ W : World, Calls Try.prog 12 #[.int .i64 k] W (GotV W (.int .i64 0)) := fun W => by have := bden_N W k; rw [g3] at this; exact this
    have CG : ∀ W : World, Calls Try.prog 14 #[.int .i64 k] W (GotV W (.int .i64 0)) := fun W => by have := bgap_N W k; rw [g4] at this; exact this
    unfold Kind9 at h
    by_cases hk : k < 0
    · exact Rises_low q CB CD CG hk
    · exact Rises_high q CB CD CG (by omega)

end Go.Proofs.Ytcbchofjaegdgaa
