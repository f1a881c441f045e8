/-
  The walk of TensJoined.
-/
import Derived.Test.YtpidpebgeblenaaWJq14
import Derived.Test.YtpidpebgeblenaaA12
namespace Go.Proofs.Ytpidpebgeblenaa
set_option maxRecDepth 100000
open Go.RowKit
set_option linter.unusedVariables false
set_option linter.unusedSimpArgs false

theorem TensJoined_walk {w : World} {kk ks km ko : Int} (hI : I64 kk ∧ I64 ks ∧ I64 km ∧ I64 ko) {A : Option Addr} {n c : Nat} {L : List Int} (hA : IR w A n c L) (hi6 : ∀ x ∈ L, I64 x) (bn : n ≤ 17592186044416) {B : Option Addr} {m d : Nat} {M : List Int} (hB : IR w B m d M) (hi7 : ∀ x ∈ M, I64 x) (bm : m ≤ 17592186044416) : Calls Try.prog 5 #[.agg #[.int .i64 kk, .int .i64 ks, .int .i64 km, .int .i64 ko], .slice A n c, .slice B m d] w fun e w' => e = .returned (.bool true) ∧ Below w.heap.size w w' := by
  by_cases h : 24 < n + m
  · exact TensJoined_few hA hB bn bm h
  by_cases hK : OkK kk ks km ko
  rotate_left
  · exact TensJoined_may hA hB bn bm (by omega) hK
  have hks : 1 ≤ ks ∧ ks ≤ 4096 := by unfold OkK at hK; omega
  obtain ⟨r, hr⟩ : ∃ r : Nat, (n : Int) % ks = (r : Int) := ⟨((n : Int) % ks).toNat, (Int.toNat_of_nonneg (Int.emod_nonneg _ (by omega))).symm⟩
  by_cases h2 : r = 0
  rotate_left
  · exact TensJoined_rem hA hB bn bm (by omega) hK hr (by omega)
  by_cases h3 : (n : Int) < km
  · exact TensJoined_shA hA hB bn bm (by omega) hK hr h2 h3
  by_cases h4 : (m : Int) < km
  · exact TensJoined_shB hA hB bn bm (by omega) hK hr h2 (by omega) h4
  subst h2
  have hl := hA.1
  have hm := hB.1
  have es : ((ks.toNat : Nat) : Int) = ks := by omega
  have hq : L.length = n / ks.toNat * ks.toNat := by
    have h5 : n % ks.toNat = 0 := by rw [← es] at hr; exact Int.ofNat.inj hr
    have h6 := Nat.div_add_mod n ks.toNat
    rw [h5, Nat.mul_comm] at h6
    omega
  obtain ⟨e1, e2⟩ := ofL_join (kk := kk) (km := km) (ko := ko) (s := ks.toNat) (a := L) (b := M) (by omega) hq (by omega) (by omega)
  have hJ : OkT kk ks km ko (L ++ M) ↔ OkT kk ks km ko L ∧ OkT kk ks km ko M := ⟨fun h => ⟨⟨h.1, (e2.1 h.2).1⟩, h.1, (e2.1 h.2).2⟩, fun h => ⟨h.1.1, e2.2 ⟨h.1.2, h.2.2⟩⟩⟩
  have eJ : ofT kk ks km ko (L ++ M) = ofT kk ks km ko L ++ ofT kk ks km ko M := e1
  have hi8 : ∀ x ∈ L ++ M, I64 x := fun x hx => by
    rcases List.mem_append.1 hx with e | e
    · exact hi6 x e
    · exact hi7 x e
  by_cases ho : OkT kk ks km ko L
  · by_cases hp : OkT kk ks km ko M
    · have s1 := (okT_size ho).1
      refine TensJoined_yy hA hB (by omega) hK hr (by omega) (by omega) (D := ofT kk ks km ko L) (E := ofT kk ks km ko M) (by rw [ofT_len]; have := nbk_le (n := L.length) s1; omega) (by rw [ofT_len]; have := nbk_le (n := M.length) s1; omega) (fun g => tnOfN_yes hI g hi6 (by omega) ho) (fun g => tnOfN_yes hI g hi7 (by omega) hp) (fun g => ?_)
      have e := tnOfN_yes hI g hi8 (by omega) (hJ.2 ⟨ho, hp⟩)
      rw [eJ] at e
      exact e
    · exact TensJoined_yn hA hB (by omega) hK hr (by omega) (by omega) (fun g => tnOfN_yes hI g hi6 (by omega) ho) (fun g => tnOf_no hI g hi7 (by omega) hp) (fun g => tnOf_no hI g hi8 (by omega) (fun e => hp (hJ.1 e).2))
  · by_cases hp : OkT kk ks km ko M
    · exact TensJoined_ny hA hB (by omega) hK hr (by omega) (by omega) (fun g => tnOf_no hI g hi6 (by omega) ho) (fun g => tnOfN_yes hI g hi7 (by omega) hp) (fun g => tnOf_no hI g hi8 (by omega) (fun e => ho (hJ.1 e).1))
    · exact TensJoined_nn hA hB (by omega) hK hr (by omega) (by omega) (fun g => tnOf_no hI g hi6 (by omega) ho) (fun g => tnOf_no hI g hi7 (by omega) hp) (fun g => tnOf_no hI g hi8 (by omega) (fun e => ho (hJ.1 e).1))

end Go.Proofs.Ytpidpebgeblenaa
