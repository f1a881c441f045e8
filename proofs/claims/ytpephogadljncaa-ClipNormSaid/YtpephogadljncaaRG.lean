/-
  Rows of rows of the call's own, which grow.
-/
import Derived.Test.YtpephogadljncaaA8
namespace Go.Proofs.Ytpephogadljncaa
set_option maxRecDepth 100000
open Go.RowKit
set_option linter.unusedVariables false
set_option linter.unusedSimpArgs false

theorem infoR : (Try.prog.info? 31).map (fun i => (i.zero, i.size, i.bytes)) = some (some (.slice none 0 0), 1, 24) := by kernel_rfl
theorem ir_keep16 {w w' : World} {A : Option Addr} {n c : Nat} {l : List Int} (h : IR w A n c l) (hk : ∀ q, 0 < n → A = some q → w'.heap[q.block]? = w.heap[q.block]?) (hs : w.heap.size ≤ w'.heap.size) : IR w' A n c l :=
  ⟨h.1, h.2.1, fun hp => by
    obtain ⟨b, off, e, hlt, hc⟩ := h.2.2 hp
    have hb : w'.heap[b]? = w.heap[b]? := hk _ hp e
    exact ⟨b, off, e, Nat.lt_of_lt_of_le hlt hs, fun j hj => (World.cell?_of_block (w := w) (a := ⟨b, off + j, none⟩) hb).trans (hc j hj)⟩⟩
/-- A row lies apart from the row of rows. -/
def ApartR (own : Option Nat) (A : Option Addr) (n : Nat) : Prop := 0 < n → ∀ q, A = some q → own ≠ some q.block
/-- A row of values holds rows. -/
def RV (own : Option Nat) (w : World) (xs : List Value) (L : List (List Int)) : Prop :=
  xs.length = L.length ∧ ∀ j, j < L.length → ∃ A n c, xs[j]? = some (.slice A n c) ∧ IR w A n c (L[j]?.getD []) ∧ (∀ z ∈ L[j]?.getD [], I64 z) ∧ ApartR own A n
theorem RV.nil (own : Option Nat) (w : World) : RV own w [] [] := ⟨rfl, fun j hj => by simp at hj⟩
theorem RV.on {own : Option Nat} {w w' : World} {xs : List Value} {L : List (List Int)} (h : RV own w xs L) (hb : Below w.heap.size w w') : RV own w' xs L := ⟨h.1, fun j hj => by
  obtain ⟨A, n, c, h0, h1, h2, h3⟩ := h.2 j hj
  exact ⟨A, n, c, h0, h1.on hb, h2, h3⟩⟩
theorem ir_lt {w : World} {A : Option Addr} {n c : Nat} {l : List Int} (h : IR w A n c l) : ∀ q, 0 < n → A = some q → q.block < w.heap.size := fun q hp e => by
  obtain ⟨b, off, e2, hlt, _⟩ := h.2.2 hp
  rw [e] at e2; injection e2 with e2; rw [e2]; exact hlt
theorem RV.push {gq : Nat} {own : Option Nat} {w w' : World} {xs : List Value} {L : List (List Int)} {l : List Int} {A : Option Addr} {n c : Nat} (h : RV own w xs L) (hgrow : w.grownBy w' own) (hat : own = some gq ∨ gq = w.heap.size) (hR : IR w A n c l) (hi : ∀ z ∈ l, I64 z) (ha : ApartR own A n) :
    RV (some gq) w' (xs ++ [.slice A n c]) (L ++ [l]) := by
  have key : ∀ {A : Option Addr} {n c : Nat} {l : List Int}, IR w A n c l → ApartR own A n → IR w' A n c l ∧ ApartR (some gq) A n := fun hR ha => by
    refine ⟨ir_keep16 hR (fun q hp e => hgrow.block q.block (ir_lt hR q hp e) (fun e2 => ha hp q e e2.symm)) hgrow.size, fun hp q e e2 => ?_⟩
    injection e2 with e2
    rcases hat with e3 | e3
    · exact ha hp q e (by rw [e3, e2])
    · have := ir_lt hR q hp e; omega
  refine ⟨by simp [h.1], fun j hj => ?_⟩
  rw [List.length_append] at hj
  rcases Nat.lt_or_ge j L.length with hlt | hge
  · obtain ⟨A, n, c, h0, h1, h2, h3⟩ := h.2 j hlt
    obtain ⟨k1, k2⟩ := key h1 h3
    rw [List.getElem?_append_left hlt]
    exact ⟨A, n, c, by rw [List.getElem?_append_left (by rw [h.1]; exact hlt)]; exact h0, k1, h2, k2⟩
  · have e : j = L.length := by simp at hj; omega
    subst e
    obtain ⟨k1, k2⟩ := key hR ha
    rw [List.getElem?_append_right (Nat.le_refl _), Nat.sub_self]
    exact ⟨A, n, c, by rw [List.getElem?_append_right (by rw [h.1]; exact Nat.le_refl _), h.1, Nat.sub_self]; rfl, k1, hi, k2⟩
theorem RV.rr {t g K cap : Nat} {own : Option Nat} {w : World} {xs : List Value} {L : List (List Int)} (h : RV own w xs L) (hO : w.ownsRow t 31 1 (.slice (some ⟨g, 0, none⟩) K cap) K xs) : RR w (some ⟨g, 0, none⟩) K cap L := by
  have hl : K = xs.length := by have := hO.1; omega
  refine ⟨by rw [hl, h.1], ?_, fun hp => ⟨g, 0, rfl, (hO.lt g rfl).2, fun j hj => ?_⟩⟩
  · rcases hO.2 with ⟨e1, _⟩ | ⟨_, _, _, e1, _, _, hnc, _⟩
    · cases e1
    · injection e1 with _ _ e2; omega
  · obtain ⟨A, n, c, h0, h1, h2, _⟩ := h.2 j (by rw [← h.1, ← hl]; exact hj)
    exact ⟨A, n, c, by rw [Nat.zero_add, hO.cellAt j (by omega)]; exact h0, h1, h2⟩
theorem own_afterR {t : Nat} {w W W' : World} {g cap n : Nat} {xs : List Value} (hO : W.ownsRow t 31 1 (.slice (some ⟨g, 0, none⟩) n cap) n xs) (hbl : Below t w W) (hts : t ≤ W.heap.size) (b : Below W.heap.size W W') :
    W'.ownsRow t 31 1 (.slice (some ⟨g, 0, none⟩) n cap) n xs ∧ Below t w W' ∧ t ≤ W'.heap.size ∧ t ≤ g ∧ g < W.heap.size := by
  have hl := hO.lt g rfl
  refine ⟨?_, hbl.trans (b.mono hts), Nat.le_trans hts b.size, hl.1, hl.2⟩
  obtain ⟨h1, h2⟩ := hO
  refine ⟨h1, ?_⟩
  rcases h2 with h2 | ⟨g', cap', cur, hv, hg, hh, r⟩
  · exact Or.inl h2
  · refine Or.inr ⟨g', cap', cur, hv, hg, ?_, r⟩
    have : g' = g := by injection hv with e; injection e with e2; injection e2 with e3; exact e3.symm
    subst this
    rw [b.block g' hl.2]; exact hh
end Go.Proofs.Ytpephogadljncaa
