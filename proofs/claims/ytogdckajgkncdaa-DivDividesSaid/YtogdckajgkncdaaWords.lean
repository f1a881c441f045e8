/-
  Words for memory: a slice value that reads as a list of digits; a slice value that stands for a natural number. Lemmas on what keeps them.
-/
import Derived.Below
import Derived.Laws.OwnMore
import Derived.Deep.AppendLies
import Derived.Deep.Draws
import Derived.Test.YtogdckajgkncdaaMath
namespace Go.Proofs.Ytogdckajgkncdaa
open Go.RowKit

/-- The slice value '.slice A n c' holds the digits l, in a block below B. -/
def Lim (B : Nat) (w : World) (A : Option Addr) (n c : Nat) (l : List Nat) : Prop :=
  n = l.length ∧ n ≤ c ∧ Dig l ∧ (0 < n → ∃ b off, A = some ⟨b, off, none⟩ ∧ b < B ∧ ∀ j, j < n → w.cell? ⟨b, off + j, none⟩ = some (.int .u64 ((l[j]?.getD 0 : Nat) : Int)))

/-- A value that holds the digits l. -/
def IsL (w : World) (v : Value) (l : List Nat) : Prop := ∃ A n c, v = .slice A n c ∧ Lim w.heap.size w A n c l
/-- A value that stands for the number x. -/
def IsN (w : World) (v : Value) (x : Nat) : Prop := IsL w v (limbs x)

section
variable {w w' : World} {B B' : Nat} {A : Option Addr} {n c : Nat} {l : List Nat} {v : Value}
theorem Lim.below (h : Lim B w A n c l) (hb : Below B w w') : Lim B w' A n c l :=
  ⟨h.1, h.2.1, h.2.2.1, fun hn => by
    obtain ⟨b, off, e, hlt, hc⟩ := h.2.2.2 hn
    exact ⟨b, off, e, hlt, fun j hj => (hb.cell (p := ⟨b, off + j, none⟩) hlt).trans (hc j hj)⟩⟩
theorem Lim.more (h : Lim B w A n c l) (hB : B ≤ B') : Lim B' w A n c l :=
  ⟨h.1, h.2.1, h.2.2.1, fun hn => by
    obtain ⟨b, off, e, hlt, hc⟩ := h.2.2.2 hn
    exact ⟨b, off, e, Nat.lt_of_lt_of_le hlt hB, hc⟩⟩
theorem Lim.drew (h : Lim B w A n c l) : Lim B w.drew A n c l := h
theorem IsL.below (h : IsL w v l) (hb : Below w.heap.size w w') : IsL w' v l := by
  obtain ⟨A, n, c, e, hl⟩ := h
  exact ⟨A, n, c, e, (hl.below hb).more hb.size⟩
theorem IsN.below {x : Nat} (h : IsN w v x) (hb : Below w.heap.size w w') : IsN w' v x := IsL.below h hb
theorem Lim.nil (B : Nat) (w : World) (A : Option Addr) (c : Nat) : Lim B w A 0 c [] := ⟨rfl, Nat.zero_le _, Dig.nil, fun h => absurd h (by omega)⟩
theorem IsN.zero (w : World) : IsN w (.slice none 0 0) 0 := ⟨none, 0, 0, rfl, by rw [limbs_zero]; exact Lim.nil _ _ _ _⟩
end

end Go.Proofs.Ytogdckajgkncdaa
