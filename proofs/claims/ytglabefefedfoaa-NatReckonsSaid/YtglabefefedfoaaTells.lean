/-
  The contracts of the small functions: Right, Few, Of, Small, Bits.
-/
import Derived.Maps.AppendAt
import Derived.Test.YtglabefefedfoaaLen
import Derived.Test.YtglabefefedfoaaMathB
namespace Go.Proofs.Ytglabefefedfoaa
open Go.RowKit

theorem canon_nil : canon [] = true := rfl
theorem canon_at {l : List Nat} {j : Nat} (h : l.length = j + 1) : canon l = (l[j]?.getD 0 != 0) := by
  unfold canon
  have hl : l ≠ [] := fun e => by rw [e] at h; simp at h
  rw [List.getLastD_eq_getLast?, List.getLast?_eq_getElem?, h, Nat.add_sub_cancel, List.getElem?_eq_getElem (by omega)]
  rfl

theorem ret_bool {a b : Bool} (h : a = b) : Ending.returned (.bool a) = .returned (.bool b) := by rw [h]
theorem ret_i64 {a b : Int} (h : a = b) : Ending.returned (.int .i64 a) = .returned (.int .i64 b) := by rw [h]
theorem right_bool (j d : Nat) : ((j : Int) + 1 == 0 || (d : Int) != 0) = (d != 0) := by
  have h : ((j : Int) + 1 == 0) = false := by simp; omega
  rw [h, Bool.false_or]
  rw [Bool.eq_iff_iff]
  simp

set_option maxHeartbeats 1000000 in
theorem right_any (B : Nat) (A : Option Addr) (n c : Nat) (l : List Nat) (r : Bool) (w : World) (h : Lim B w A n c l) (hn : n ≤ 9223372036854775807) (hr : canon l = r) :
    Calls Try.prog 11 #[.slice A n c] w fun e w' => e = .returned (.bool r) ∧ w = w' := by
  obtain ⟨hl, hcap, hdg, hc⟩ := h
  by_cases h0 : n = 0
  · subst h0
    have e : l = [] := List.eq_nil_of_length_eq_zero hl.symm
    subst e
    have HR := Lib.hid hr
    clear hr hc hl
    go_enter Try.func11, Try.ntmps11
    go_wp2
    go_ret
    exact ⟨by rw [← HR.out]; rfl, rfl⟩
  · obtain ⟨j, rfl⟩ : ∃ j, n = j + 1 := ⟨n - 1, by omega⟩
    obtain ⟨b, off, rfl, hb, hcell⟩ := hc (by omega)
    have h1 := hcell j (by omega)
    rw [canon_at hl.symm] at hr
    have HR := Lib.hid hr
    clear hr hc hl hcell h0
    go_enter Try.func11, Try.ntmps11
    go_wp2
    go_ret
    exact ⟨by rw [← HR.out]; exact ret_bool (right_bool j _), rfl⟩

set_option maxHeartbeats 1000000 in
theorem rright_any (B : Nat) (A : Option Addr) (n c : Nat) (l : List Nat) (r : Bool) (w : World) (h : Lim B w A n c l) (hn : n ≤ 9223372036854775807) (hr : canon l = r) :
    Calls Try.prog 12 #[.slice A n c] w fun e w' => e = .returned (.bool r) ∧ w = w' := by
  obtain ⟨hl, hcap, hdg, hc⟩ := h
  by_cases h0 : n = 0
  · subst h0
    have e : l = [] := List.eq_nil_of_length_eq_zero hl.symm
    subst e
    have HR := Lib.hid hr
    clear hr hc hl
    go_enter Try.func12, Try.ntmps12
    go_wp2
    go_ret
    exact ⟨by rw [← HR.out]; rfl, rfl⟩
  · obtain ⟨j, rfl⟩ : ∃ j, n = j + 1 := ⟨n - 1, by omega⟩
    obtain ⟨b, off, rfl, hb, hcell⟩ := hc (by omega)
    have h1 := hcell j (by omega)
    rw [canon_at hl.symm] at hr
    have HR := Lib.hid hr
    clear hr hc hl hcell h0
    go_enter Try.func12, Try.ntmps12
    go_wp2
    go_ret
    exact ⟨by rw [← HR.out]; exact ret_bool (right_bool j _), rfl⟩

set_option maxHeartbeats 400000 in
theorem few_any (A : Option Addr) (n c : Nat) (w : World) (hn : n ≤ 9223372036854775807) :
    Calls Try.prog 9 #[.slice A n c] w fun e w' => e = .returned (.bool (decide (n ≤ 20))) ∧ w = w' := by
  go_enter Try.func9, Try.ntmps9
  go_wp2
  go_ret
  exact ⟨ret_bool (by simp; omega), rfl⟩

theorem limbs_one {x : Nat} (h : x ≠ 0) (hx : x < B64) : limbs x = [x] := by
  rw [limbs_pos h, Nat.mod_eq_of_lt hx, Nat.div_eq_of_lt hx, limbs_zero]

/-- One digit in a new block. -/
theorem isN_new {x : Nat} (h : x ≠ 0) (hx : x < B64) (w : World) (t : TypeId) : IsN (w.alloc (.cells #[.int .u64 (x : Int)] t)) (.slice (some ⟨w.heap.size, 0, none⟩) 1 1) x := by
  refine ⟨_, _, _, rfl, ?_⟩
  rw [limbs_one h hx]
  refine ⟨rfl, Nat.le_refl _, Dig.cons hx Dig.nil, fun _ => ⟨_, _, rfl, by simp, fun j hj => ?_⟩⟩
  obtain rfl : j = 0 := by omega
  exact cell_one_new w _ t 0 _ rfl

set_option maxHeartbeats 400000 in
theorem of_any (x : Nat) (w : World) (hx : x < B64) :
    Calls Try.prog 14 #[.int .u64 (x : Int)] w fun e w' => ∃ v, e = .returned v ∧ IsN w' v x ∧ Below w.heap.size w w' := by
  by_cases h : x = 0
  · subst h
    go_enter Try.func14, Try.ntmps14
    go_wp2
    go_ret
    exact ⟨_, rfl, IsN.zero _, Below.refl _ _⟩
  · have hb : ((x : Int) == 0) = false := by simp [h]
    go_enter Try.func14, Try.ntmps14
    go_wp2
    go_ret
    exact ⟨_, rfl, isN_new h hx w _, (Below.refl _ w).alloc (Nat.le_refl _) _⟩

theorem isN_small {w : World} {A : Option Addr} {n c x : Nat} (h : Lim w.heap.size w A n c (limbs x)) : (n ≤ 1 ↔ x < B64) := by
  rw [h.1, limbs_lt_iff, Nat.pow_one]

set_option maxHeartbeats 400000 in
theorem small_any (A : Option Addr) (n c x : Nat) (w : World) (h : Lim w.heap.size w A n c (limbs x)) (hn : n ≤ 9223372036854775807) (hx : x < B64) :
    Calls Try.prog 17 #[.slice A n c] w fun e w' => e = .returned (.tuple #[.int .u64 (x : Int), .bool true]) ∧ w = w' := by
  have h1 := (isN_small h).2 hx
  have hv : ((limbs x)[0]?.getD 0) = x := by
    by_cases h0 : x = 0
    · subst h0; rw [limbs_zero]; rfl
    · rw [limbs_one h0 hx]; rfl
  have HV := Lib.hid hv
  clear hv
  go_enter Try.func17, Try.ntmps17
  go_wp2_with (go_at_call 30; refine (limb_any _ _ _ _ 0 _ _ h hn (by omega)).mono ?_; rintro e w' ⟨rfl, rfl⟩)
  go_ret2
  exact ⟨by rw [HV.out]; rfl, rfl⟩

set_option maxHeartbeats 400000 in
theorem small_great (A : Option Addr) (n c x : Nat) (w : World) (h : Lim w.heap.size w A n c (limbs x)) (hn : n ≤ 9223372036854775807) (hx : B64 ≤ x) :
    Calls Try.prog 17 #[.slice A n c] w fun e w' => e = .returned (.tuple #[.int .u64 0, .bool false]) ∧ w = w' := by
  have h1 : 1 < n := by
    rcases Nat.lt_or_ge 1 n with h2 | h2
    · exact h2
    · have := (isN_small h).1 h2; omega
  go_enter Try.func17, Try.ntmps17
  go_wp2
  go_ret2
  exact ⟨rfl, rfl⟩

set_option maxHeartbeats 400000 in
theorem rsmall_any (A : Option Addr) (n c x : Nat) (w : World) (h : Lim w.heap.size w A n c (limbs x)) (hn : n ≤ 9223372036854775807) (hx : x < B64) :
    Calls Try.prog 18 #[.slice A n c] w fun e w' => e = .returned (.tuple #[.int .u64 (x : Int), .bool true]) ∧ w = w' := by
  have h1 := (isN_small h).2 hx
  by_cases h0 : x = 0
  · subst h0
    have hn0 := h.1
    rw [limbs_zero] at hn0
    simp at hn0
    subst hn0
    go_enter Try.func18, Try.ntmps18
    go_wp2
    go_ret2
    exact ⟨rfl, rfl⟩
  · have hn0 := h.1
    rw [limbs_one h0 hx] at hn0 h
    simp at hn0
    subst hn0
    obtain ⟨b, off, rfl, _, hc⟩ := h.2.2.2 (by omega)
    have hc0 := hc 0 (by omega)
    simp at hc0
    clear hc h
    go_enter Try.func18, Try.ntmps18
    go_wp2
    go_ret2
    exact ⟨rfl, rfl⟩

set_option maxHeartbeats 400000 in
theorem rsmall_great (A : Option Addr) (n c x : Nat) (w : World) (h : Lim w.heap.size w A n c (limbs x)) (hn : n ≤ 9223372036854775807) (hx : B64 ≤ x) :
    Calls Try.prog 18 #[.slice A n c] w fun e w' => e = .returned (.tuple #[.int .u64 0, .bool false]) ∧ w = w' := by
  have h1 : 1 < n := by
    rcases Nat.lt_or_ge 1 n with h2 | h2
    · exact h2
    · have := (isN_small h).1 h2; omega
  have hb : ((n : Int) == 0) = false := by simp; omega
  go_enter Try.func18, Try.ntmps18
  go_wp2
  go_ret2
  exact ⟨rfl, rfl⟩

end Go.Proofs.Ytglabefefedfoaa
