/-
  Rows of int64 that came in, with how they are read: the form's reach bounds their length.
-/
import Derived.Test.YtpidpebgeblenaaA4
namespace Go.Proofs.Ytpidpebgeblenaa
set_option maxRecDepth 100000
open Go.ChangeShapes Go.WideShapes Go.ChangeAt Go.RowKit Go.Joins
set_option linter.unusedVariables false

theorem open_i64r {H : Type} {enc : TypeId × Value → H} {W : World} {base b0 : Nat} {held : Bool} {r : Reach} {v : Value} {d : DataW H} {p : List MemPlace} (hv : Value.okWide Try.prog W r b0 24 v) (h : DataW.Trod enc Try.prog W base (fun _ => true) held 24 v d p) :
    ∃ (a : Option Addr) (len cap : Nat) (l : List Int), v = .slice a len cap ∧ IR W a len cap l ∧ len ≤ 9223372036854775807 ∧ (∀ x ∈ l, I64 x) ∧ Read cap d := by
  obtain ⟨a, len, cap, rfl⟩ := okWide_slice Try.underlying24 hv
  obtain ⟨fuel, hf⟩ := h
  obtain ⟨a', l', c', L, e, hI, hn, hi⟩ := trod_i64s hf
  injection e with e1 e2 e3
  subst e1 e2 e3
  refine ⟨_, _, _, L, rfl, hI, hn, hi, ?_⟩
  rcases open_ints Try.underlying24 Try.underlying2 (by kernel_rfl) hf with ⟨hcs, _⟩ | ⟨x, l, c, zs, hcs, _, hl, hm, hz, hy, hcell, hwz⟩
  · injection hcs with hcs _
    injection hcs with _ _ e3
    exact .inl e3
  · injection hcs with hcs _
    injection hcs with _ _ e3
    have hz2 : zs.length = c := by simpa using hz
    refine .inr ⟨_, _, congrArg Prod.fst hy, ?_⟩
    simp only [lits, List.length_map, List.length_take, List.length_drop]
    omega
/-- The form's own reach bounds a row of int64 that is read. -/
theorem read_reach8 {H : Type} {ts : List TypeId} {ds : List (DataW H)} (h : (DataW.weightsEach Try.prog ts ds).all (· ≤ reachBytes) = true) {j : Nat} {d : DataW H} {cap len : Nat} (ht : ts[j]? = some 24) (hd : ds[j]? = some d) (hr : Read cap d) (hl : len ≤ cap) : len ≤ 17592186044416 := by
  rcases hr with e | ⟨es, ss, rfl, e⟩
  · omega
  · have h1 := sized_slice h ht hd Try.underlying24
    have e1 : Try.prog.bytesOf 2 = 8 := by kernel_rfl
    rw [e1, e] at h1
    have h2 : reachBytes = 140737488351232 := by decide
    omega
end Go.Proofs.Ytpidpebgeblenaa
