/-
  The contracts of the small functions: Right, Few, Of, Small, Bits.
-/
import Derived.Maps.AppendAt
import Derived.Test.YtogdckajgkncdaaLen
import Derived.Test.YtogdckajgkncdaaMathB
namespace Go.Proofs.Ytogdckajgkncdaa
open Go.RowKit

theorem canon_nil : canon [] = true := rfl
theorem canon_at {l : List Nat} {j : Nat} (h : l.length = j + 1) : canon l = (l[j]?.getD 0 != 0) := by
  unfold canon
  have hl : l ≠ [] := fun e => by rw [e] at h; simp at h
  rw [List.getLastD_eq_getLast?, List.getLast?_eq_getElem?, h, Nat.add_sub_cancel, List.getElem?_eq_getElem (by omega)]
  rfl

theorem ret_bool {a b : Bool} (h : a = b) : Ending.returned (.bool a) = .returned (.bool b) := by rw [h]
theorem ret_i64 {a b : Int} (h : a = b) : Ending.returned (.int .i64 a) = .returned (.int .i64 b) := by rw [h]
theorem right_bool (j d : Nat) : ((j : Int) + 1 == 0 || (d : Int) != 0) = (d != 0) := by
  have h : ((j : Int) + 1 == 0) = false := by simp; omega
  rw [h, Bool.false_or]
  rw [Bool.eq_iff_iff]
  simp

set_option maxHeartbeats 1000000 in
theorem rright_any (B : Nat) (A : Option Addr) (n c : Nat) (l : List Nat) (r : Bool) (w : World) (h : Lim B w A n c l) (hn : n ≤ 9223372036854775807) (hr : canon l = r) :
    Calls Try.prog 21 #[.slice A n c] w fun e w' => e = .returned (.bool r) ∧ w = w' := by
  obtain ⟨hl, hcap, hdg, hc⟩ := h
  by_cases h0 : n = 0
  · subst h0
    have e : l = [] := List.eq_nil_of_length_eq_zero hl.symm
    subst e
    have HR := Lib.hid hr
    clear hr hc hl
    go_enter Try.func21, Try.ntmps21
    go_wp2
    go_ret
    exact ⟨by rw [← HR.out]; rfl, rfl⟩
  · obtain ⟨j, rfl⟩ : ∃ j, n = j + 1 := ⟨n - 1, by omega⟩
    obtain ⟨b, off, rfl, hb, hcell⟩ := hc (by omega)
    have h1 := hcell j (by omega)
    rw [canon_at hl.symm] at hr
    have HR := Lib.hid hr
    clear hr hc hl hcell h0
    go_enter Try.func21, Try.ntmps21
    go_wp2
    go_ret
    exact ⟨by rw [← HR.out]; exact ret_bool (right_bool j _), rfl⟩

set_option maxHeartbeats 400000 in
theorem few_any (A : Option Addr) (n c : Nat) (w : World) (hn : n ≤ 9223372036854775807) :
    Calls Try.prog 29 #[.slice A n c] w fun e w' => e = .returned (.bool (decide (n ≤ 20))) ∧ w = w' := by
  go_enter Try.func29, Try.ntmps29
  go_wp2
  go_ret
  exact ⟨ret_bool (by simp; omega), rfl⟩

theorem limbs_one {x : Nat} (h : x ≠ 0) (hx : x < B64) : limbs x = [x] := by
  rw [limbs_pos h, Nat.mod_eq_of_lt hx, Nat.div_eq_of_lt hx, limbs_zero]

/-- One digit in a new block. -/
theorem isN_new {x : Nat} (h : x ≠ 0) (hx : x < B64) (w : World) (t : TypeId) : IsN (w.alloc (.cells #[.int .u64 (x : Int)] t)) (.slice (some ⟨w.heap.size, 0, none⟩) 1 1) x := by
  refine ⟨_, _, _, rfl, ?_⟩
  rw [limbs_one h hx]
  refine ⟨rfl, Nat.le_refl _, Dig.cons hx Dig.nil, fun _ => ⟨_, _, rfl, by simp, fun j hj => ?_⟩⟩
  obtain rfl : j = 0 := by omega
  exact cell_one_new w _ t 0 _ rfl

theorem isN_small {w : World} {A : Option Addr} {n c x : Nat} (h : Lim w.heap.size w A n c (limbs x)) : (n ≤ 1 ↔ x < B64) := by
  rw [h.1, limbs_lt_iff, Nat.pow_one]

end Go.Proofs.Ytogdckajgkncdaa
