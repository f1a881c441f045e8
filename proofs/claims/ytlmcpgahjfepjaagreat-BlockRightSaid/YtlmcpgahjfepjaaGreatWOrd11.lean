/-
  The walk of BlockOrder.
-/
import Derived.Test.YtlmcpgahjfepjaaGreatA15
namespace Go.Proofs.YtlmcpgahjfepjaaGreat
open Go.RowKit
set_option linter.unusedVariables false
set_option linter.unusedSimpArgs false










theorem pk_len4 (k : Int) (L : List Int) (h : k = 4) : pkC k L = [] ∧ pkS k L = 0 ∧ pkW k L = L := by unfold pkC pkS pkW; rw [if_pos h, if_pos h, if_pos h]; exact ⟨rfl, rfl, rfl⟩
theorem pk_not4 (k : Int) (L : List Int) (h : k ≠ 4) : pkC k L = L.map (pk k (gr L)) ∧ pkS k L = gr L ∧ pkW k L = [] := by unfold pkC pkS pkW; rw [if_neg h, if_neg h, if_neg h]; exact ⟨rfl, rfl, rfl⟩
theorem i64_at {L : List Int} (h : ∀ x ∈ L, I64 x) (j : Nat) : I64 (L[j]?.getD 0) := by
  rcases Nat.lt_or_ge j L.length with e | e
  · exact h _ (mem_at e)
  · rw [List.getElem?_eq_none e]; show I64 0; unfold I64; omega
theorem gr_i64 {k : Int} {L : List Int} (h : ∀ x ∈ L, I64 x) (ho : OkP k L) : I64 (gr L) := grk_i64 (fun j => ⟨i64_at h j, by
  rcases Nat.lt_or_ge j L.length with e | e
  · exact (ho.2 _ (mem_at e)).1
  · rw [List.getElem?_eq_none e]; decide⟩) _
end Go.Proofs.YtlmcpgahjfepjaaGreat
