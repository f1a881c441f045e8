/-
  Three rows of the call's own and a box that is laid, in whatever order: what keeps them.
-/
import Derived.Test.YtckdbcngnghhiaaA8
namespace Go.Proofs.Ytckdbcngnghhiaa
open Go.RowKit
set_option linter.unusedVariables false
set_option linter.unusedSimpArgs false

def RowAt17 (t : Nat) (W : World) (r : Option (Nat × Nat × Nat × List Int)) : Prop := ∀ g n c L, r = some (g, n, c, L) → W.ownsRow t 2 1 (.slice (some ⟨g, 0, none⟩) n c) n (L.map encI)
def BoxAt17 (W : World) (x : Option Nat) : Prop := ∀ g, x = some g → W.heap[g]? = some (.cells #[.slice none 0 0, .slice none 0 0, .slice none 0 0, .slice none 0 0] 26)
def blk17 (r : Option (Nat × Nat × Nat × List Int)) : Option Nat := r.map (·.1)
def Dis17 (p q : Option Nat) : Prop := ∀ g, p = some g → q ≠ some g
def Ap17 (V W : World) (a b c : Option (Nat × Nat × Nat × List Int)) (x : Option Nat) : Prop :=
  Below V.heap.size V W ∧ RowAt17 V.heap.size W a ∧ RowAt17 V.heap.size W b ∧ RowAt17 V.heap.size W c ∧ BoxAt17 W x ∧ Dis17 (blk17 a) (blk17 b) ∧ Dis17 (blk17 a) (blk17 c) ∧ Dis17 (blk17 b) (blk17 c) ∧ Dis17 (blk17 a) x ∧ Dis17 (blk17 b) x ∧ Dis17 (blk17 c) x ∧ ∀ g, x = some g → V.heap.size ≤ g
theorem Dis17.symm {p q : Option Nat} (h : Dis17 p q) : Dis17 q p := fun g e e2 => h g e2 e
theorem row_lt17 {t : Nat} {W : World} {r : Option (Nat × Nat × Nat × List Int)} (h : RowAt17 t W r) {g : Nat} (e : blk17 r = some g) : t ≤ g ∧ g < W.heap.size := by
  rcases r with _ | ⟨g', n, c, L⟩
  · cases e
  · have e2 : g' = g := by injection e
    subst e2
    exact (h g' n c L rfl).lt g' rfl
theorem box_lt17 {W : World} {x : Option Nat} (h : BoxAt17 W x) {g : Nat} (e : x = some g) : g < W.heap.size := (Array.getElem?_eq_some_iff.1 (h g e)).1
theorem row_keep17 {t : Nat} {W W' : World} {r : Option (Nat × Nat × Nat × List Int)} (h : RowAt17 t W r) (hk : ∀ g, blk17 r = some g → g < W.heap.size → W'.heap[g]? = W.heap[g]?) : RowAt17 t W' r := fun g n c L e => own_any17 (h g n c L e) (fun k ek => by
  have e2 : g = k := by injection ek
  subst e2
  exact hk g (by rw [e]; rfl) (row_lt17 h (by rw [e]; rfl)).2)
theorem box_keep17 {W W' : World} {x : Option Nat} (h : BoxAt17 W x) (hk : ∀ g, x = some g → g < W.heap.size → W'.heap[g]? = W.heap[g]?) : BoxAt17 W' x := fun g e => (hk g e (box_lt17 h e)).trans (h g e)
theorem Ap17.start (V : World) : Ap17 V V.drew none none none none :=
  ⟨below_drewN (Below.refl _ V) 1, fun _ _ _ _ e => (by cases e), fun _ _ _ _ e => (by cases e), fun _ _ _ _ e => (by cases e), fun _ e => (by cases e), fun _ e => (by cases e), fun _ e => (by cases e), fun _ e => (by cases e), fun _ e => (by cases e), fun _ e => (by cases e), fun _ e => (by cases e), fun _ e => (by cases e)⟩
section
variable {V W w1 : World} {a b c : Option (Nat × Nat × Nat × List Int)} {x : Option Nat}
theorem Ap17.sw1 (h : Ap17 V W a b c x) : Ap17 V W b a c x := by
  obtain ⟨h1, h2, h3, h4, h5, h6, h7, h8, h9, h10, h11, h12⟩ := h
  exact ⟨h1, h3, h2, h4, h5, h6.symm, h8, h7, h10, h9, h11, h12⟩
theorem Ap17.sw2 (h : Ap17 V W a b c x) : Ap17 V W a c b x := by
  obtain ⟨h1, h2, h3, h4, h5, h6, h7, h8, h9, h10, h11, h12⟩ := h
  exact ⟨h1, h2, h4, h3, h5, h7, h6, h8.symm, h9, h11, h10, h12⟩
theorem Ap17.newA (h : Ap17 V W none b c x) : Ap17 V (W.alloc (.cells #[] 2)) (some (W.heap.size, 0, 0, [])) b c x := by
  obtain ⟨h1, h2, h3, h4, h5, h6, h7, h8, h9, h10, h11, h12⟩ := h
  have up := one_upD W (.cells #[] 2)
  have k : ∀ g, g < W.heap.size → (W.alloc (.cells #[] 2)).heap[g]? = W.heap[g]? := fun g hg => up.block g hg
  refine ⟨h1.alloc h1.size _, fun g n c L e => ?_, row_keep17 h3 (fun g _ => k g), row_keep17 h4 (fun g _ => k g), box_keep17 h5 (fun g _ => k g), fun g e e2 => ?_, fun g e e2 => ?_, h8, fun g e e2 => ?_, h10, h11, h12⟩
  · injection e with e; injection e with e1 e; injection e with e2 e; injection e with e3 e4
    subst e1; subst e2; subst e3; subst e4
    exact World.ownsRow_lit W #[] 0 h1.size (by unfold maxLen; omega) rfl
  · have h0 := (row_lt17 h3 e2).2; have e3 : W.heap.size = g := by injection e
    omega
  · have h0 := (row_lt17 h4 e2).2; have e3 : W.heap.size = g := by injection e
    omega
  · have h0 := box_lt17 h5 e2; have e3 : W.heap.size = g := by injection e
    omega
theorem Ap17.newX (h : Ap17 V W a b c none) : Ap17 V (W.alloc (.cells #[.slice none 0 0, .slice none 0 0, .slice none 0 0, .slice none 0 0] 26)) a b c (some W.heap.size) := by
  obtain ⟨h1, h2, h3, h4, h5, h6, h7, h8, h9, h10, h11, h12⟩ := h
  have up := one_upD W (.cells #[.slice none 0 0, .slice none 0 0, .slice none 0 0, .slice none 0 0] 26)
  have k : ∀ g, g < W.heap.size → (W.alloc (.cells #[.slice none 0 0, .slice none 0 0, .slice none 0 0, .slice none 0 0] 26)).heap[g]? = W.heap[g]? := fun g hg => up.block g hg
  have d : ∀ {r : Option (Nat × Nat × Nat × List Int)}, RowAt17 V.heap.size W r → Dis17 (blk17 r) (some W.heap.size) := fun hr g e e2 => by have := (row_lt17 hr e).2; injection e2 with e2; omega
  refine ⟨h1.alloc h1.size _, row_keep17 h2 (fun g _ => k g), row_keep17 h3 (fun g _ => k g), row_keep17 h4 (fun g _ => k g), fun g e => ?_, h6, h7, h8, d h2, d h3, d h4, fun g e => ?_⟩
  · injection e with e; subst e; exact World.alloc_heap_new W _
  · injection e with e; rw [← e]; exact h1.size
theorem Ap17.app {g n cap g1 R cap1 : Nat} {L M : List Int} (h : Ap17 V W (some (g, n, cap, L)) b c x) (hown1 : w1.ownsRow V.heap.size 2 1 (.slice (some ⟨g1, 0, none⟩) R cap1) R (L.map encI ++ M.map encI)) (hgrow : W.grownBy w1 (some g)) (hat : g1 = g ∨ g1 = W.heap.size) : Ap17 V w1 (some (g1, R, cap1, L ++ M)) b c x := by
  obtain ⟨h1, h2, h3, h4, h5, h6, h7, h8, h9, h10, h11, h12⟩ := h
  have hg := row_lt17 h2 (show blk17 (some (g, n, cap, L)) = some g from rfl)
  have k : ∀ q, g ≠ q → q < W.heap.size → w1.heap[q]? = W.heap[q]? := fun q hne hq => hgrow.block q hq (fun e => hne (by injection e with e; exact e.symm))
  have na : ∀ {q : Option Nat}, Dis17 (some g) q → ∀ z, q = some z → g ≠ z := fun hd z e e2 => hd g rfl (by rw [e, e2])
  have nb : ∀ {q : Option Nat}, Dis17 (some g) q → (∀ z, q = some z → z < W.heap.size) → Dis17 (some g1) q := fun hd hl z e e2 => by
    have e3 : g1 = z := by injection e
    rcases hat with e4 | e4
    · exact hd g rfl (by rw [e2, ← e3, e4])
    · have := hl z e2; omega
  refine ⟨h1.grown hgrow h1.size (fun q e => by injection e with e; omega), fun g' n' c' L' e => ?_, row_keep17 h3 (fun q e => k q (na h6 q e)), row_keep17 h4 (fun q e => k q (na h7 q e)), box_keep17 h5 (fun q e => k q (na h9 q e)), nb h6 (fun z e => (row_lt17 h3 e).2), nb h7 (fun z e => (row_lt17 h4 e).2), h8, nb h9 (fun z e => box_lt17 h5 e), h10, h11, h12⟩
  injection e with e; injection e with e1 e; injection e with e2 e; injection e with e3 e4
  subst e1; subst e2; subst e3; subst e4
  rw [List.map_append]; exact hown1
theorem Ap17.own {g n cap : Nat} {L : List Int} (h : Ap17 V W (some (g, n, cap, L)) b c x) : W.ownsRow V.heap.size 2 1 (.slice (some ⟨g, 0, none⟩) n cap) n (L.map encI) := h.2.1 _ _ _ _ rfl
theorem Ap17.done {g0 n0 c0 g1 n1 c1 g2 n2 c2 gx : Nat} {L M G : List Int} (h : Ap17 V W (some (g0, n0, c0, L)) (some (g1, n1, c1, M)) (some (g2, n2, c2, G)) (some gx)) (x y z u : Value) :
    (put4 W gx x y z u).heap[gx]? = some (.cells #[x, y, z, u] 26) ∧ IR (put4 W gx x y z u) (some ⟨g0, 0, none⟩) n0 c0 L ∧ IR (put4 W gx x y z u) (some ⟨g1, 0, none⟩) n1 c1 M ∧ IR (put4 W gx x y z u) (some ⟨g2, 0, none⟩) n2 c2 G ∧ Below V.heap.size V (put4 W gx x y z u) := by
  obtain ⟨h1, h2, h3, h4, h5, h6, h7, h8, h9, h10, h11, h12⟩ := h
  have z0 := h5 gx rfl
  have i : ∀ {g n cp : Nat} {K : List Int}, RowAt17 V.heap.size W (some (g, n, cp, K)) → Dis17 (blk17 (some (g, n, cp, K))) (some gx) → IR (put4 W gx x y z u) (some ⟨g, 0, none⟩) n cp K := fun {g n cp K} hr hd =>
    ir_keep17 (IR.of_own (hr _ _ _ _ rfl)) (fun q _ e => put4_far (by
      have e2 : (⟨g, 0, none⟩ : Addr) = q := by injection e
      rw [← e2]; exact fun e3 => hd g rfl (by rw [← e3]))) (by unfold put4; simp)
  exact ⟨put_cell1 (put_cell1 (put_cell1 (put_cell1 z0))), i h2 h9, i h3 h10, i h4 h11, below_put4 h1 (h12 gx rfl) _ _ _ _⟩
end
end Go.Proofs.Ytckdbcngnghhiaa
