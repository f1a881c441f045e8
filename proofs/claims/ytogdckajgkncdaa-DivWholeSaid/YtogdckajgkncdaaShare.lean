/-
  What nat.Add and nat.Sub share: the greater of two lengths; a row of digits of the call's own.
-/
import Derived.Test.YtogdckajgkncdaaAddMath
import Derived.Test.YtogdckajgkncdaaCarry
import Derived.Test.YtogdckajgkncdaaTrim
namespace Go.Proofs.Ytogdckajgkncdaa
open Go.RowKit Go.Shelf

attribute [local go_sem] Oper.semAt_some

/-- The greater of two, behind a name. -/
def mx (a b : Nat) : Nat := max a b
theorem mx_run {P : Program} (w : World) (ts : Array TypeId) (t : TypeId) (x y : Nat) : (Builtin.max_ ts t #[.int .i64 (x : Int), .int .i64 (y : Int)]).run P w = .ok (.int .i64 (mx x y : Int)) w := by
  rw [run_max_int2]
  congr 2
  unfold mx
  split <;> omega
theorem info24 : (Try.prog.info? 38).map (fun i => (i.zero, i.size, i.bytes)) = some (some (.int .u64 0), 1, 8) := by kernel_rfl

/-- A digit as a value. -/
def encD (x : Nat) : Value := .int .u64 (x : Int)

theorem row_own {β : Type} (n₀ : Nat) (e : TypeId) (size : Nat) (v : β → Value) (k : β → Nat) (f : β → List Value) : Own (fun s W => W.ownsRow n₀ e size (v s) (k s) (f s)) := by
  rintro s X Y row hr hg hrow
  refine hr.kept hg ?_
  rcases hr.2 with ⟨h, _⟩ | ⟨g, cap, cur, h, _, hgb, _⟩
  · exact .inl (by rw [h]; rfl)
  · refine .inr fun e' => ?_
    obtain ⟨o, ho, hc⟩ := hrow g (by rw [← e', h]; rfl)
    rw [hgb] at ho; cases ho; cases hc

/-- An owned row of digits reads as these digits. -/
theorem Lim.of_own {w : World} {base : Nat} {e : TypeId} {A : Option Addr} {n c : Nat} {l : List Nat} (h : w.ownsRow base e 1 (.slice A n c) n (l.map encD)) (hd : Dig l) : Lim w.heap.size w A n c l := by
  have hl : n = l.length := by have := h.1; simp at this; omega
  refine ⟨hl, ?_, hd, fun hn => ?_⟩
  · rcases h.2 with ⟨e1, h0⟩ | ⟨g, cap, cur, e1, _, _, hnc, _⟩
    · omega
    · injection e1 with _ _ e2; omega
  · have hlt := h.lt
    rcases h.2 with ⟨e1, h0⟩ | ⟨g, cap, cur, e1, _, _, hnc, _⟩
    · omega
    · injection e1 with e2 _ e3
      subst e2; subst e3
      refine ⟨g, 0, rfl, (hlt g rfl).2, fun j hj => ?_⟩
      have := h.cellAt j (by omega)
      rw [Nat.zero_add, this, List.getElem?_map, List.getElem?_eq_getElem (by omega)]
      simp [encD]

end Go.Proofs.Ytogdckajgkncdaa
