/-
  A step without decay, place by place; numbers alone.
-/
import Derived.Test.YtckdbcngnghhiaaN17n
import Derived.Test.YtckdbcngnghhiaaA8
namespace Go.Proofs.Ytckdbcngnghhiaa
set_option linter.unusedVariables false
set_option linter.unusedSimpArgs false

theorem rn_nought (w : Int) (f : Nat) : rn (0 * w) (2 ^ f) = 0 := by
  have h := rn_self 0 (two_ne f)
  rwa [Int.zero_mul] at h ⊢
section
variable {lr mu f : Int} {ne : Bool} {LW LM LG : List Int}
/-- What stands at a place, where there is a step. -/
theorem place17 (h : stC17 lr mu 0 f ne LW LM LG = 0) {i : Nat} (hi : i < LW.length) :
    (stRV17 lr mu 0 f ne LW LM LG)[i]?.getD 0 = rn (mu * LM[i]?.getD 0) (2 ^ f.toNat) + LG[i]?.getD 0 ∧
    (ne = false → (stRW17 lr mu 0 f ne LW LM LG)[i]?.getD 0 = LW[i]?.getD 0 - rn (lr * (stRV17 lr mu 0 f ne LW LM LG)[i]?.getD 0) (2 ^ f.toNat)) ∧
    (ne = true → I64 (rn (mu * (stRV17 lr mu 0 f ne LW LM LG)[i]?.getD 0) (2 ^ f.toNat)) ∧ I64 (LG[i]?.getD 0 + rn (mu * (stRV17 lr mu 0 f ne LW LM LG)[i]?.getD 0) (2 ^ f.toNat)) ∧ (stRW17 lr mu 0 f ne LW LM LG)[i]?.getD 0 = LW[i]?.getD 0 - rn (lr * (LG[i]?.getD 0 + rn (mu * (stRV17 lr mu 0 f ne LW LM LG)[i]?.getD 0) (2 ^ f.toNat))) (2 ^ f.toNat)) := by
  obtain ⟨_, ⟨s1, s2⟩, ho, e1, e2⟩ := stC_zero h
  rw [e1, e2, rowV_eq _ _ _ s1 s2, rowW_eq _ _ _ _ _ s1 s2]
  have ho' := (rowOK_iff lr mu 0 ne f.toNat s1 s2).1 ho i hi
  rw [List.getElem?_map, List.getElem?_map, List.getElem?_range hi]
  show (sV mu 0 f.toNat LW LM LG i).1 = _ ∧ (ne = false → (sW lr mu 0 ne f.toNat LW LM LG i).1 = _ - rn (lr * (sV mu 0 f.toNat LW LM LG i).1) _) ∧ (ne = true → I64 (rn (mu * (sV mu 0 f.toNat LW LM LG i).1) _) ∧ I64 (_ + rn (mu * (sV mu 0 f.toNat LW LM LG i).1) _) ∧ (sW lr mu 0 ne f.toNat LW LM LG i).1 = _ - rn (lr * (_ + rn (mu * (sV mu 0 f.toNat LW LM LG i).1) _)) _)
  unfold sV sW at ho' ⊢
  generalize LW[i]?.getD 0 = w at *
  generalize LM[i]?.getD 0 = v at *
  generalize LG[i]?.getD 0 = g at *
  obtain ⟨h1, h2⟩ := ho'
  obtain ⟨v1, v2, v3, v4⟩ := stV_ex h2
  obtain ⟨w1, w2, w3⟩ := stW_ex h1
  obtain ⟨u1, u2, u3, u4⟩ := stU_ex w2
  have hd : exD 0 f.toNat w g = g := by unfold exD; rw [rn_nought]; omega
  have hv : exV mu 0 f.toNat w v g = rn (mu * v) (2 ^ f.toNat) + g := by unfold exV; rw [hd]
  rw [v1, w1]
  refine ⟨hv, fun e => ?_, fun e => ?_⟩
  · subst e; rfl
  · subst e
    have hu : exU mu 0 true f.toNat w v g = g + rn (mu * exV mu 0 f.toNat w v g) (2 ^ f.toNat) := by unfold exU; rw [if_pos rfl, hd]
    refine ⟨u4 rfl, by rw [← hu]; exact u2, ?_⟩
    show w - rn (lr * exU mu 0 true f.toNat w v g) _ = _
    rw [hu]
end
section
variable {lr mu wd f : Int} {ne : Bool} {LW LM LG : List Int}
theorem long17 (h : stC17 lr mu wd f ne LW LM LG = 0) : (stRW17 lr mu wd f ne LW LM LG).length = LW.length ∧ (stRV17 lr mu wd f ne LW LM LG).length = LW.length := by
  obtain ⟨_, ⟨s1, s2⟩, _, e1, e2⟩ := stC_zero h
  rw [e1, e2, rowV_eq _ _ _ s1 s2, rowW_eq _ _ _ _ _ s1 s2]
  simp
theorem none17 (h : ¬ stC17 lr mu wd f ne LW LM LG = 0) : stRW17 lr mu wd f ne LW LM LG = [] ∧ stRV17 lr mu wd f ne LW LM LG = [] := by
  unfold stRW17 stRV17
  rw [if_neg h, if_neg h]; exact ⟨rfl, rfl⟩
theorem all17 : (∀ z ∈ stRW17 lr mu wd f ne LW LM LG, I64 z) ∧ ∀ z ∈ stRV17 lr mu wd f ne LW LM LG, I64 z := by
  by_cases h : stC17 lr mu wd f ne LW LM LG = 0
  · obtain ⟨_, ⟨s1, s2⟩, _, e1, e2⟩ := stC_zero h
    rw [e1, e2, rowV_eq _ _ _ s1 s2, rowW_eq _ _ _ _ _ s1 s2]
    refine ⟨fun z hz => ?_, fun z hz => ?_⟩
    · obtain ⟨j, _, rfl⟩ := List.mem_map.1 hz; exact stW_i64 _ _ _ _ _ _ _ _
    · obtain ⟨j, _, rfl⟩ := List.mem_map.1 hz; exact stV_i64 _ _ _ _ _ _
  · rw [(none17 h).1, (none17 h).2]; exact ⟨fun z hz => (by cases hz), fun z hz => (by cases hz)⟩
end
theorem at17 {L : List Int} (h : ∀ z ∈ L, I64 z) (j : Nat) : I64 (L[j]?.getD 0) := by
  rcases Nat.lt_or_ge j L.length with q | q
  · rw [List.getElem?_eq_getElem q]; exact h _ (List.getElem_mem q)
  · rw [List.getElem?_eq_none q]; show I64 0; unfold I64; omega
end Go.Proofs.Ytckdbcngnghhiaa
