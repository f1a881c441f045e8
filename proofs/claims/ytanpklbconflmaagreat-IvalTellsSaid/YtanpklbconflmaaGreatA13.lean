/-
  Several texts in one: FS.
-/
import Derived.Test.YtanpklbconflmaaGreatA12
import Derived.Test.YtanpklbconflmaaGreatA3

/-
  Helps for the laws of ival.
-/
namespace Go.Proofs.YtanpklbconflmaaGreat
set_option maxRecDepth 100000
open Go.RowKit
set_option linter.unusedVariables false
set_option linter.unusedSimpArgs false

set_option maxHeartbeats 8000000 in
theorem stsame_none (w : World) :
    Calls Tryz.prog 14 #[.agg #[.bool false, .slice none 0 0, .slice none 0 0, .bool false, .slice none 0 0, .slice none 0 0], .agg #[.bool false, .slice none 0 0, .slice none 0 0, .bool false, .slice none 0 0, .slice none 0 0]] w (GotV w (.bool true)) := by
  have cc := Below.refl w.heap.size w
  go_enter Tryz.func14, Tryz.ntmps14
  go_wp2_with fail
  generalize hv_ : (w.alloc (.cells #[.bool false, .slice none 0 0, .slice none 0 0, .bool false, .slice none 0 0, .slice none 0 0] 29)).alloc (.cells #[.bool false, .slice none 0 0, .slice none 0 0, .bool false, .slice none 0 0, .slice none 0 0] 29) = v1
  have bA : Below w.heap.size w v1 := by rw [← hv_]; exact (((Below.refl _ w).alloc (by simp) _).alloc (by simp) _)
  replace cc := bK cc bA
  clear bA
  obtain ⟨ka0, ka1, ka2, ka3, ka4, ka5⟩ : Cs6 v1 w.heap.size (.bool false) (.slice none 0 0) (.slice none 0 0) (.bool false) (.slice none 0 0) (.slice none 0 0) := by simp [Cs6, ← hv_, go_sem]
  have kal : w.heap.size < v1.heap.size := by simp [← hv_] <;> omega
  obtain ⟨kb0, kb1, kb2, kb3, kb4, kb5⟩ : Cs6 v1 (w.heap.size + 1) (.bool false) (.slice none 0 0) (.slice none 0 0) (.bool false) (.slice none 0 0) (.slice none 0 0) := by simp [Cs6, ← hv_, go_sem]
  have kbl : w.heap.size + 1 < v1.heap.size := by simp [← hv_] <;> omega
  clear hv_
  refine (rtsame_none _).mono ?_
  rintro e w2 ⟨rfl, b⟩
  rewrite [cR b kal] at ka0 ka1 ka2 ka3 ka4 ka5
  replace kal := lK b kal
  rewrite [cR b kbl] at kb0 kb1 kb2 kb3 kb4 kb5
  replace kbl := lK b kbl
  replace cc := bK cc b
  clear b
  go_wp2_with fail
  refine (rtsame_none _).mono ?_
  rintro e w3 ⟨rfl, b⟩
  rewrite [cR b kal] at ka0 ka1 ka2 ka3 ka4 ka5
  replace kal := lK b kal
  rewrite [cR b kbl] at kb0 kb1 kb2 kb3 kb4 kb5
  replace kbl := lK b kbl
  replace cc := bK cc b
  clear b
  go_wp2_with fail
  go_ret
  exact ⟨rfl, cc⟩

theorem mlo_sz {a b c d : Rat} {k m : Nat} (ha : Sz a k) (hb : Sz b k) (hc : Sz c m) (hd : Sz d m) : Sz (mlo a b c d) (k + m) ∧ Sz (mhi a b c d) (k + m) :=
  ⟨lowR_sz (four_sz (ha.mul hc) (ha.mul hd) (hb.mul hc) (hb.mul hd)) (by omega) 4 (by omega), highR_sz (four_sz (ha.mul hc) (ha.mul hd) (hb.mul hc) (hb.mul hd)) (by omega) 4 (by omega)⟩
theorem sqr_bak_sz {x : Rat} {k : Nat} (h : Sz x 10) (hk : k ≤ 310) : Sz (bak (sqr x k : Int) k) 20 := bak_sz (by rw [Int.natAbs_natCast]; exact sqr_len h hk) (by omega) (by omega)
theorem sqh_sz {y : Rat} {k : Nat} (h : Sz y 10) (hk : k ≤ 310) : Sz (sqh y k) 21 := by
  unfold sqh
  split
  · exact bak_sz (by rw [Int.natAbs_natCast]; exact limbs_length_add (sqr_len h hk) (Nat.le_trans (len_one (by decide)) (by omega))) (by omega) (by omega)
  · exact (sqr_bak_sz h hk).le (by omega)
theorem two_eq {a b : Rat} : decide (a = a ∧ b = b) = true := decide_eq_true ⟨rfl, rfl⟩

end Go.Proofs.YtanpklbconflmaaGreat
