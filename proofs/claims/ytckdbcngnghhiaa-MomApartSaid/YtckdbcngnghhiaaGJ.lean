/-
  An append of a row that may be empty, behind a guard that lets it through.
-/
import Derived.Test.YtckdbcngnghhiaaA8
namespace Go.Proofs.Ytckdbcngnghhiaa
open Go.RowKit
set_option linter.unusedVariables false
set_option linter.unusedSimpArgs false

/-- The same, behind a guard that lets it through. -/
theorem step_appW17 {P : Program} {w : World} {o : Oper} {a : Act} {K : Act → World → Prop} {Q : Exit → Act → World → Prop} {E : Prop} {Y : Bool} (hgd : Y = true) (s x : Operand) (t : TypeId)
    (ho : o.op = .call { callee := .builtin .append, args := #[s, x], argTypes := #[t, t] })
    (base : Nat) (e : TypeId) (i : TypeInfo) (z : Value) (size bytes : Nat) (ht : P.underlying t = some (.slice e)) (hi : P.info? e = some i) (hz : i.zero = some z)
    (hsize : i.size = size) (hby : i.bytes = bytes) (hzs : z.cells.size = size) (hsz : 0 < size)
    (g0 N cp : Nat) (xs : List Value) (hs : a.eval s = .slice (some ⟨g0, 0, none⟩) N cp) (hown : w.ownsRow base e size (.slice (some ⟨g0, 0, none⟩) N cp) N xs)
    (A : Option Addr) (m c : Nat) (news : List Value) (hx : a.eval x = .slice A m c) (hl : news.length = m * size) (hnews : 0 < m → ∃ ad, A = some ad ∧ ∀ j u, news[j]? = some u → w.cell? (ad.add j) = some u) (h1 : ∀ u ∈ news, u.oneCell' = true)
    (h63 : N + m ≤ maxLen) (hbytes : (N + m) * bytes ≤ 140737488355328) (hbase : base ≤ w.heap.size) (R : Nat) (hR : N + m = R)
    (h : ∀ g cap w', w'.ownsRow base e size (.slice (some ⟨g, 0, none⟩) R cap) R (xs ++ news) → w.grownBy w' (some g0) → (g = g0 ∨ g = w.heap.size) → g < w'.heap.size → K (a.put o.dst (.slice (some ⟨g, 0, none⟩) R cap)) w') :
    if Y = true then Oper.wp P o a w K Q else E := by
  rw [if_pos hgd]
  subst hR
  rcases Nat.eq_zero_or_pos m with hm | hm
  · subst hm
    have hn0 : news = [] := List.eq_nil_of_length_eq_zero (by omega)
    subst hn0
    have hcp : N ≤ cp := by
      rcases hown.2 with ⟨e1, h0⟩ | ⟨g, cap, cur, e1, _, _, hnc, _⟩
      · cases e1
      · injection e1 with _ _ e2; omega
    have hr := run_app_zero17 (P := P) w t o.type e i ht hi (some ⟨g0, 0, none⟩) A N cp c hcp
    have hk := h g0 cp w (by rw [List.append_nil]; exact hown) ⟨rfl, rfl, rfl, Nat.le_refl _, fun _ _ _ => rfl⟩ (.inl rfl) (hown.lt g0 rfl).2
    unfold Oper.wp execOp
    simp only [ho, resolve, invoke, builtin, Sem.run_bind, Sem.run_pure, Result.andThen_ok, List.map_toArray, List.map_cons, List.map_nil, hs, hx, hr]
    exact hk
  · obtain ⟨ad, rfl, hn⟩ := hnews hm
    refine wp_append_lies w s x t ho base e i z size bytes ht hi hz hsize hby hzs hsz _ N xs hs hown ad m c news hx hl hn h1 hm h63 hbytes hbase _ rfl (fun g cap w' a1 a2 a3 a4 => h g cap w' a1 a2 ?_ a4)
    rcases a3 with e1 | e1
    · left; injection e1 with e1; exact e1.symm
    · right; exact e1
end Go.Proofs.Ytckdbcngnghhiaa
