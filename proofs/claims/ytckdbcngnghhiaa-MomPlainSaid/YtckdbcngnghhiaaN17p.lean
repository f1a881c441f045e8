/-
  Steps without momentum, without a rate, without gradients; numbers alone.
-/
import Derived.Test.YtckdbcngnghhiaaN17m
namespace Go.Proofs.Ytckdbcngnghhiaa
set_option linter.unusedVariables false
set_option linter.unusedSimpArgs false

theorem rn_nought2 (a : Int) (f : Nat) : rn (a * 0) (2 ^ f) = 0 := by rw [Int.mul_comm]; exact rn_nought a f
theorem i64_0 : I64 0 := by unfold I64; omega
theorem nMul_z (f : Nat) (a : Int) : nMul f (nOf a) (0, true) = (0, true) := by
  unfold nMul nOf
  show (nI (rn (a * 0) (2 ^ f)), true && true && decide (I64 (rn (a * 0) (2 ^ f)))) = _
  rw [rn_nought2, (nI_yes i64_0).1, decide_eq_true i64_0]; rfl
theorem nMul_z2 (f : Nat) (a : Int) : nMul f (nOf 0) (nOf a) = (0, true) := by
  unfold nMul nOf
  show (nI (rn (0 * a) (2 ^ f)), true && true && decide (I64 (rn (0 * a) (2 ^ f)))) = _
  rw [rn_nought, (nI_yes i64_0).1, decide_eq_true i64_0]; rfl
theorem nAdd_z : nAdd (0, true) (0, true) = (0, true) := by decide
theorem stD_z (f : Nat) (w : Int) : stD 0 f w 0 = (0, true) := by unfold stD; rw [nMul_z2]; exact nAdd_z
theorem stV_z (mu : Int) (f : Nat) (w : Int) : stV mu 0 f w 0 0 = (0, true) := by unfold stV; rw [stD_z, show nOf (0 : Int) = (0, true) from rfl, nMul_z]; exact nAdd_z
theorem stU_z (mu : Int) (ne : Bool) (f : Nat) (w : Int) : stU mu 0 ne f w 0 0 = (0, true) := by
  unfold stU
  cases ne with
  | false => rw [if_neg (by simp)]; exact stV_z mu f w
  | true => rw [if_pos rfl, stV_z, stD_z, nMul_z]; exact nAdd_z
theorem stW_z (lr mu : Int) (ne : Bool) (f : Nat) {w : Int} (h : I64 w) : stW lr mu 0 ne f w 0 0 = (w, true) := by
  unfold stW
  rw [stU_z, nMul_z]
  unfold nSub nOf
  show (nI (w - 0), true && true && decide (I64 (w - 0))) = _
  rw [Int.sub_zero, (nI_yes h).1, decide_eq_true h]; rfl
theorem range_at17 : ∀ (L : List Int), (List.range L.length).map (fun j => L[j]?.getD 0) = L
  | [] => rfl
  | x :: L => by
    rw [List.length_cons, range_cons]
    show x :: (List.range L.length).map (fun j => (x :: L)[j + 1]?.getD 0) = _
    simp only [List.getElem?_cons_succ]
    rw [range_at17 L]
section
variable {lr mu f : Int} {ne : Bool} {LW LM LG : List Int}
theorem plain17 (h : stC17 lr 0 0 f false LW LM LG = 0) {i : Nat} (hi : i < LW.length) : (stRV17 lr 0 0 f false LW LM LG)[i]?.getD 0 = LG[i]?.getD 0 ∧ I64 (rn (lr * LG[i]?.getD 0) (2 ^ f.toNat)) ∧ (stRW17 lr 0 0 f false LW LM LG)[i]?.getD 0 = LW[i]?.getD 0 - rn (lr * LG[i]?.getD 0) (2 ^ f.toNat) := by
  obtain ⟨p1, p2, _⟩ := place17 h hi
  rw [rn_nought, Int.zero_add] at p1
  have p3 := p2 rfl
  rw [p1] at p3
  refine ⟨p1, ?_, p3⟩
  obtain ⟨_, ⟨s1, s2⟩, ho, _⟩ := stC_zero h
  have ho' := (rowOK_iff lr 0 0 false f.toNat s1 s2).1 ho i hi
  unfold sW sV at ho'
  obtain ⟨_, _, w3⟩ := stW_ex ho'.1
  have hu : exU 0 0 false f.toNat (LW[i]?.getD 0) (LM[i]?.getD 0) (LG[i]?.getD 0) = LG[i]?.getD 0 := by
    unfold exU exV exD
    rw [if_neg (by simp), rn_nought, rn_nought]; omega
  rwa [hu] at w3
theorem still17 (h : stC17 0 mu 0 f ne LW LM LG = 0) : stRW17 0 mu 0 f ne LW LM LG = LW := by
  obtain ⟨_, ⟨s1, s2⟩, ho, e1, _⟩ := stC_zero h
  have hok := (rowOK_iff 0 mu 0 ne f.toNat s1 s2).1 ho
  rw [e1, rowW_eq _ _ _ _ _ s1 s2]
  refine Eq.trans ?_ (range_at17 LW)
  refine List.map_congr_left fun j hj => ?_
  have hj' := List.mem_range.1 hj
  have h1 := (hok j hj').1
  unfold sW at h1 ⊢
  rw [(stW_ex h1).1]
  unfold exW
  rw [rn_nought]; omega
theorem zeros17 (hK : OkM17 lr mu 0 f) (eW : ∀ z ∈ LW, I64 z) : stC17 lr mu 0 f ne LW (List.replicate LW.length 0) (List.replicate LW.length 0) = 0 ∧ stRW17 lr mu 0 f ne LW (List.replicate LW.length 0) (List.replicate LW.length 0) = LW ∧ stRV17 lr mu 0 f ne LW (List.replicate LW.length 0) (List.replicate LW.length 0) = List.replicate LW.length 0 := by
  have s : (List.replicate LW.length (0 : Int)).length = LW.length := List.length_replicate
  have z : ∀ j : Nat, (List.replicate LW.length (0 : Int))[j]?.getD 0 = 0 := fun j => by
    rw [List.getElem?_replicate]; split <;> rfl
  have hw : ∀ j : Nat, sW lr mu 0 ne f.toNat LW (List.replicate LW.length 0) (List.replicate LW.length 0) j = (LW[j]?.getD 0, true) := fun j => by unfold sW; rw [z]; exact stW_z lr mu ne _ (at17 eW j)
  have hv : ∀ j : Nat, sV mu 0 f.toNat LW (List.replicate LW.length 0) (List.replicate LW.length 0) j = (0, true) := fun j => by unfold sV; rw [z]; exact stV_z mu _ _
  have hok : rowOK lr mu 0 ne f.toNat LW (List.replicate LW.length 0) (List.replicate LW.length 0) = true := (rowOK_iff lr mu 0 ne f.toNat s s).2 fun j _ => by rw [hw, hv]; exact ⟨rfl, rfl⟩
  have h0 : stC17 lr mu 0 f ne LW (List.replicate LW.length 0) (List.replicate LW.length 0) = 0 := by unfold stC17; rw [if_pos hK, if_pos ⟨s, s⟩, if_pos hok]
  refine ⟨h0, ?_, ?_⟩
  · unfold stRW17; rw [if_pos h0, rowW_eq _ _ _ _ _ s s]
    simp only [hw]
    exact range_at17 LW
  · unfold stRV17; rw [if_pos h0, rowV_eq _ _ _ s s]
    simp only [hv]
    exact List.eq_replicate_iff.2 ⟨by simp, fun b hb => by obtain ⟨_, _, e⟩ := List.mem_map.1 hb; exact e.symm⟩
theorem zeros_no17 (hK : ¬ OkM17 lr mu 0 f) {L : List Int} : stC17 lr mu 0 f ne LW L L = 1 := by unfold stC17; rw [if_neg hK]
end
end Go.Proofs.Ytckdbcngnghhiaa
