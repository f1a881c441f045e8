/-
  The contracts of package nat in one style, over numbers: each argument is a slice that holds a number's digits; each answer is one.
-/
import Derived.Test.YtogdckajgkncdaaAdd
import Derived.Test.YtogdckajgkncdaaSub
import Derived.Test.YtogdckajgkncdaaMul
import Derived.Test.YtogdckajgkncdaaBits
import Derived.Test.YtogdckajgkncdaaRCmp
import Derived.Test.YtogdckajgkncdaaGiven
namespace Go.Proofs.Ytogdckajgkncdaa
open Go.RowKit

/-- The slice holds the number's digits. -/
def Num (w : World) (A : Option Addr) (n c x : Nat) : Prop := Lim w.heap.size w A n c (limbs x)
theorem Num.on {w w' : World} {A : Option Addr} {n c x : Nat} (h : Num w A n c x) (hb : Below w.heap.size w w') : Num w' A n c x := (Lim.below h hb).more hb.size
theorem Num.len {w : World} {A : Option Addr} {n c x : Nat} (h : Num w A n c x) : n = (limbs x).length := h.1

/-- A call has answered a number, in new memory or old, and nothing that was there has changed. -/
def GotN (w : World) (x : Nat) (e : Ending) (w' : World) : Prop := ∃ A n c, e = .returned (.slice A n c) ∧ Num w' A n c x ∧ Below w.heap.size w w'
/-- A call has answered a value that is known, and nothing that was there has changed. -/
def GotV (w : World) (v : Value) (e : Ending) (w' : World) : Prop := e = .returned v ∧ Below w.heap.size w w'
/-- A call has answered a number and a code. -/
def GotP (w : World) (x : Nat) (r : Int) (e : Ending) (w' : World) : Prop := ∃ A n c, e = .returned (.tuple #[.slice A n c, .int .i64 r]) ∧ Num w' A n c x ∧ Below w.heap.size w w'

theorem gotN_of {w w' : World} {x : Nat} {e : Ending} (h : ∃ v, e = .returned v ∧ IsN w' v x ∧ Below w.heap.size w w') : GotN w x e w' := by
  obtain ⟨v, rfl, ⟨A, n, c, rfl, hl⟩, hb⟩ := h
  exact ⟨A, n, c, rfl, hl, hb⟩

section
variable {w : World} {A B : Option Addr} {n c m d x y : Nat}
theorem cmp_N (ha : Num w A n c x) (hb : Num w B m d y) (hx : (limbs x).length ≤ 2147483648) (hy : (limbs y).length ≤ 2147483648) : Calls Try.prog 37 #[.slice A n c, .slice B m d] w (GotV w (.int .i64 (cmpN x y))) :=
  (cmp_lists A B n c m d _ _ w ha hb (by rw [ha.len]; omega) (by rw [hb.len]; omega)).mono fun _ _ h => by rw [val_limbs, val_limbs] at h; exact h
theorem rcmp_N (ha : Num w A n c x) (hb : Num w B m d y) (hx : (limbs x).length ≤ 2147483648) (hy : (limbs y).length ≤ 2147483648) : Calls Try.prog 22 #[.slice A n c, .slice B m d] w (GotV w (.int .i64 (cmpN x y))) :=
  (rcmp_lim A B n c m d x y w ha hb (by rw [ha.len]; omega) (by rw [hb.len]; omega)).mono fun _ _ h => h
theorem same_N (ha : Num w A n c x) (hb : Num w B m d y) (hx : (limbs x).length ≤ 2147483648) (hy : (limbs y).length ≤ 2147483648) (h : x = y) : Calls Try.prog 16 #[.slice A n c, .slice B m d] w (GotV w (.bool true)) :=
  (same_lim A B n c m d x y true w ha hb (by rw [ha.len]; omega) (by rw [hb.len]; omega) (by simp [h])).mono fun _ _ h => h
theorem same_not_N (ha : Num w A n c x) (hb : Num w B m d y) (hx : (limbs x).length ≤ 2147483648) (hy : (limbs y).length ≤ 2147483648) (h : x ≠ y) : Calls Try.prog 16 #[.slice A n c, .slice B m d] w (GotV w (.bool false)) :=
  (same_lim A B n c m d x y false w ha hb (by rw [ha.len]; omega) (by rw [hb.len]; omega) (by simp [h])).mono fun _ _ h => h
theorem rright_N (ha : Num w A n c x) (hx : (limbs x).length ≤ 2147483648) : Calls Try.prog 21 #[.slice A n c] w (GotV w (.bool true)) :=
  (rright_any _ A n c _ true w ha (by rw [ha.len]; omega) (limbs_canon x)).mono fun _ _ ⟨he, hw⟩ => ⟨he, by rw [← hw]; exact Below.refl _ _⟩
theorem rbits_N (ha : Num w A n c x) (hx : (limbs x).length ≤ 2147483648) : Calls Try.prog 28 #[.slice A n c] w (GotV w (.int .i64 (blen x : Int))) :=
  (rbits_any A n c x w ha (by rw [ha.len]; omega)).mono fun _ _ ⟨he, hw⟩ => ⟨he, by rw [← hw]; exact Below.refl _ _⟩
end

theorem limbs_B64 : limbs B64 = [0, 1] := by
  rw [limbs_pos (by have := B64_pos; omega), Nat.mod_self, Nat.div_self B64_pos, limbs_one (by omega) B64_gt]
theorem limbs_B64_sq : limbs (B64 * B64) = [0, 0, 1] := by
  rw [limbs_pos (by have := Nat.mul_pos B64_pos B64_pos; omega), Nat.mul_mod_left, Nat.mul_div_cancel _ B64_pos, limbs_B64]
theorem blen_B64 : blen B64 = 65 := blen_eq (k := 64) (by rw [show (2 : Nat) ^ 64 = B64 from rfl]; exact Nat.le_refl _) (by rw [show (2 : Nat) ^ (64 + 1) = B64 * 2 from rfl]; have := B64_pos; omega)

end Go.Proofs.Ytogdckajgkncdaa
