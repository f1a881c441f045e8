/-
  Rows of steps in two parts; numbers alone.
-/
import Derived.Test.YtckdbcngnghhiaaN17m
namespace Go.Proofs.Ytckdbcngnghhiaa
set_option linter.unusedVariables false
set_option linter.unusedSimpArgs false

section
variable {lr mu wd : Int} {ne : Bool} {f : Nat}
theorem rowOK_app : ∀ {W V G : List Int} {W2 V2 G2 : List Int}, V.length = W.length → G.length = W.length → rowOK lr mu wd ne f (W ++ W2) (V ++ V2) (G ++ G2) = (rowOK lr mu wd ne f W V G && rowOK lr mu wd ne f W2 V2 G2)
  | [], [], [], W2, V2, G2, _, _ => by simp [rowOK]
  | w :: W, v :: V, g :: G, W2, V2, G2, h1, h2 => by
    have ih := rowOK_app (W := W) (V := V) (G := G) (W2 := W2) (V2 := V2) (G2 := G2) (by simpa using h1) (by simpa using h2)
    show ((stW lr mu wd ne f w v g).2 && (stV mu wd f w v g).2 && rowOK lr mu wd ne f (W ++ W2) (V ++ V2) (G ++ G2)) = ((stW lr mu wd ne f w v g).2 && (stV mu wd f w v g).2 && rowOK lr mu wd ne f W V G && rowOK lr mu wd ne f W2 V2 G2)
    rw [ih, Bool.and_assoc, Bool.and_assoc, Bool.and_assoc]
  | [], v :: V, _, _, _, _, h, _ => by simp at h
  | [], [], g :: G, _, _, _, _, h => by simp at h
  | w :: W, [], _, _, _, _, h, _ => by simp at h
  | w :: W, v :: V, [], _, _, _, _, h => by simp at h
theorem rowW_app : ∀ {W V G : List Int} {W2 V2 G2 : List Int}, V.length = W.length → G.length = W.length → rowW lr mu wd ne f (W ++ W2) (V ++ V2) (G ++ G2) = rowW lr mu wd ne f W V G ++ rowW lr mu wd ne f W2 V2 G2
  | [], [], [], W2, V2, G2, _, _ => by simp [rowW]
  | w :: W, v :: V, g :: G, W2, V2, G2, h1, h2 => by
    have ih := rowW_app (W := W) (V := V) (G := G) (W2 := W2) (V2 := V2) (G2 := G2) (by simpa using h1) (by simpa using h2)
    show (stW lr mu wd ne f w v g).1 :: rowW lr mu wd ne f (W ++ W2) (V ++ V2) (G ++ G2) = (stW lr mu wd ne f w v g).1 :: (rowW lr mu wd ne f W V G ++ rowW lr mu wd ne f W2 V2 G2)
    rw [ih]
  | [], v :: V, _, _, _, _, h, _ => by simp at h
  | [], [], g :: G, _, _, _, _, h => by simp at h
  | w :: W, [], _, _, _, _, h, _ => by simp at h
  | w :: W, v :: V, [], _, _, _, _, h => by simp at h
theorem rowV_app : ∀ {W V G : List Int} {W2 V2 G2 : List Int}, V.length = W.length → G.length = W.length → rowV mu wd f (W ++ W2) (V ++ V2) (G ++ G2) = rowV mu wd f W V G ++ rowV mu wd f W2 V2 G2
  | [], [], [], W2, V2, G2, _, _ => by simp [rowV]
  | w :: W, v :: V, g :: G, W2, V2, G2, h1, h2 => by
    have ih := rowV_app (W := W) (V := V) (G := G) (W2 := W2) (V2 := V2) (G2 := G2) (by simpa using h1) (by simpa using h2)
    show (stV mu wd f w v g).1 :: rowV mu wd f (W ++ W2) (V ++ V2) (G ++ G2) = (stV mu wd f w v g).1 :: (rowV mu wd f W V G ++ rowV mu wd f W2 V2 G2)
    rw [ih]
  | [], v :: V, _, _, _, _, h, _ => by simp at h
  | [], [], g :: G, _, _, _, _, h => by simp at h
  | w :: W, [], _, _, _, _, h, _ => by simp at h
  | w :: W, v :: V, [], _, _, _, _, h => by simp at h
end
section
variable {lr mu wd f : Int} {ne : Bool} {W V G W2 V2 G2 : List Int}
/-- Where both parts are there, all is: what is new is that of both. -/
theorem apart_yes (h : stC17 lr mu wd f ne W V G = 0) (h2 : stC17 lr mu wd f ne W2 V2 G2 = 0) : stC17 lr mu wd f ne (W ++ W2) (V ++ V2) (G ++ G2) = 0 ∧ stRW17 lr mu wd f ne (W ++ W2) (V ++ V2) (G ++ G2) = stRW17 lr mu wd f ne W V G ++ stRW17 lr mu wd f ne W2 V2 G2 ∧ stRV17 lr mu wd f ne (W ++ W2) (V ++ V2) (G ++ G2) = stRV17 lr mu wd f ne W V G ++ stRV17 lr mu wd f ne W2 V2 G2 := by
  obtain ⟨hK, ⟨s1, s2⟩, ho, e1, e2⟩ := stC_zero h
  obtain ⟨_, ⟨t1, t2⟩, ho2, e3, e4⟩ := stC_zero h2
  have hs : (V ++ V2).length = (W ++ W2).length ∧ (G ++ G2).length = (W ++ W2).length := by simp only [List.length_append]; omega
  have h0 : stC17 lr mu wd f ne (W ++ W2) (V ++ V2) (G ++ G2) = 0 := by unfold stC17; rw [if_pos hK, if_pos hs, rowOK_app s1 s2, ho, ho2]; rfl
  obtain ⟨_, _, _, e5, e6⟩ := stC_zero h0
  exact ⟨h0, by rw [e5, e1, e3, rowW_app s1 s2], by rw [e6, e2, e4, rowV_app s1 s2]⟩
/-- Where one part is refused, not for its shape, all is. -/
theorem apart_no (h : stC17 lr mu wd f ne W V G ≠ 5) (h2 : stC17 lr mu wd f ne W2 V2 G2 ≠ 5) (h3 : ¬ (stC17 lr mu wd f ne W V G = 0 ∧ stC17 lr mu wd f ne W2 V2 G2 = 0)) : stC17 lr mu wd f ne (W ++ W2) (V ++ V2) (G ++ G2) ≠ 0 := by
  intro h0
  obtain ⟨hK, _, ho, _⟩ := stC_zero h0
  have len : ∀ {W V G : List Int}, stC17 lr mu wd f ne W V G ≠ 5 → V.length = W.length ∧ G.length = W.length := fun {W V G} h => by
    by_cases hs : V.length = W.length ∧ G.length = W.length
    · exact hs
    · exact absurd (by unfold stC17; rw [if_pos hK, if_neg hs]) h
  obtain ⟨s1, s2⟩ := len h
  have t := len h2
  rw [rowOK_app s1 s2, Bool.and_eq_true] at ho
  exact h3 ⟨by unfold stC17; rw [if_pos hK, if_pos ⟨s1, s2⟩, if_pos ho.1], by unfold stC17; rw [if_pos hK, if_pos t, if_pos ho.2]⟩
end
end Go.Proofs.Ytckdbcngnghhiaa
