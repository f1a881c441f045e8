/-
  A slice of integers that came in, as a list of digits; and what the laws' tests of what is given lead to.
-/
import Derived.OpenShut
import Derived.Laws.Rows
import Derived.Test.YtogdckajgkncdaaAlive
namespace Go.Proofs.Ytogdckajgkncdaa
open Go.RowKit

theorem block_lt {w : World} {b o : Nat} {v : Value} (h : w.cell? ⟨b, o, none⟩ = some v) : b < w.heap.size := by
  rcases Nat.lt_or_ge b w.heap.size with h1 | h1
  · exact h1
  · simp [World.cell?, Array.getElem?_eq_none h1] at h

theorem arg_of_row {w : World} {a : Option Addr} {len cap : Nat} {zs : List Int}
    (h : (a = none ∧ len = 0 ∧ cap = 0 ∧ zs = []) ∨ ∃ x, a = some x ∧ len ≤ cap ∧ cap ≤ maxLen ∧ zs.length = cap ∧ (∀ i, i < zs.length → w.cell? (x.add i) = some (.int .u64 (zs.getD i 0))) ∧ ∀ n ∈ zs, (Lit.int .u64 n).wf = true) :
    ∃ l, Lim w.heap.size w a len cap l ∧ len ≤ 9223372036854775807 := by
  rcases h with ⟨rfl, rfl, rfl, rfl⟩ | ⟨x, rfl, hl, hm, hz, hc, hw⟩
  · exact ⟨[], Lim.nil _ _ _ _, by omega⟩
  · refine ⟨(zs.take len).map Int.toNat, ⟨by simp; omega, hl, ?_, fun h0 => ?_⟩, by unfold maxLen at hm; omega⟩
    · intro y hy
      obtain ⟨z, hz1, rfl⟩ := List.mem_map.1 hy
      have := bounds_u64 (hw z (List.mem_of_mem_take hz1))
      unfold B64
      omega
    · obtain ⟨b, off, rfl, hcell⟩ := ints_at hc (by omega)
      refine ⟨b, off, rfl, block_lt (hcell 0 (by omega)), fun j hj => ?_⟩
      rw [hcell j (by omega)]
      have hb := bounds_u64 (hw (zs[j]'(by omega)) (List.getElem_mem _))
      have hj2 : j < zs.length := by omega
      rw [List.getElem?_map, List.getElem?_take_of_lt hj, List.getElem?_eq_getElem hj2]
      simp only [List.getD_eq_getElem?_getD, List.getElem?_eq_getElem hj2, Option.getD_some, Option.map_some]
      rw [Int.toNat_of_nonneg hb.1]

theorem num_zero (w : World) : Num w none 0 0 0 := by
  unfold Num
  rw [limbs_zero]
  exact Lim.nil _ _ _ _

section
variable {w : World} {A B : Option Addr} {n c m d x y : Nat}
theorem cmp_lt_N (ha : Num w A n c x) (hb : Num w B m d y) (hx : (limbs x).length ≤ 2147483648) (hy : (limbs y).length ≤ 2147483648) (h : x < y) : Calls Try.prog 37 #[.slice A n c, .slice B m d] w (GotV w (.int .i64 (-1))) := by
  have := cmp_N ha hb hx hy
  rwa [cmpN_lt h] at this
theorem cmp_gt_N (ha : Num w A n c x) (hb : Num w B m d y) (hx : (limbs x).length ≤ 2147483648) (hy : (limbs y).length ≤ 2147483648) (h : y < x) : Calls Try.prog 37 #[.slice A n c, .slice B m d] w (GotV w (.int .i64 1)) := by
  have := cmp_N ha hb hx hy
  rwa [cmpN_gt h] at this
theorem cmp_eq_N (ha : Num w A n c x) (hb : Num w B m d y) (hx : (limbs x).length ≤ 2147483648) (hy : (limbs y).length ≤ 2147483648) (h : x = y) : Calls Try.prog 37 #[.slice A n c, .slice B m d] w (GotV w (.int .i64 0)) := by
  have := cmp_N ha hb hx hy
  rwa [cmpN_zero.2 h] at this
end

/-- Digits that are right are a number's own. -/
theorem Lim.num {w : World} {A : Option Addr} {n c : Nat} {l : List Nat} (h : Lim w.heap.size w A n c l) (hc : canon l = true) : Num w A n c (val l) := by
  unfold Num
  rw [limbs_val h.2.2.1 hc]
  exact h

theorem ok_parts {a : Arg} (h : a.ok = true) : a.n ≤ 20 ∧ canon a.l = true := by
  unfold Arg.ok at h
  simpa using h

theorem Arg.isIn.on {a : Arg} {w w' : World} (h : a.isIn w) (hb : Below w.heap.size w w') : a.isIn w' := ⟨(h.1.below hb).more hb.size, h.2⟩

theorem given_two (a b : Arg) (r : Bool) (w : World) (ha : a.isIn w) (hb : b.isIn w) (hr : (a.ok && b.ok) = r) :
    Calls Try.prog 10 #[.slice (some ⟨w.heap.size, 0, none⟩) 2 2] (w.alloc (.cells #[a.v, b.v] 23)) (GotV (w.alloc (.cells #[a.v, b.v] 23)) (.bool r)) := by
  have hB : Below w.heap.size w (w.alloc (.cells #[a.v, b.v] 23)) := (Below.refl _ w).alloc (Nat.le_refl _) _
  refine (given_any w.heap.size 2 (fun j => if j = 0 then a else b) r _ (by omega) (fun j hj => ?_) ?_).mono fun _ _ ⟨he, hw⟩ => ⟨he, by rw [← hw]; exact Below.refl _ _⟩
  · have hc := cell_of_row (w.alloc (.cells #[a.v, b.v] 23)) w.heap.size j #[a.v, b.v] 23 (0, 0) (heap_alloc_new w _)
    rcases (by omega : j = 0 ∨ j = 1) with rfl | rfl
    · exact ⟨hc, ha.on hB⟩
    · exact ⟨hc, hb.on hB⟩
  · rw [← hr, Bool.and_eq_true]
    constructor
    · rintro ⟨h1, h2⟩ j hj
      rcases (by omega : j = 0 ∨ j = 1) with rfl | rfl
      · exact h1
      · exact h2
    · intro h
      exact ⟨h 0 (by omega), h 1 (by omega)⟩

theorem given_three (a b c : Arg) (r : Bool) (w : World) (ha : a.isIn w) (hb : b.isIn w) (hc : c.isIn w) (hr : (a.ok && b.ok && c.ok) = r) :
    Calls Try.prog 10 #[.slice (some ⟨w.heap.size, 0, none⟩) 3 3] (w.alloc (.cells #[a.v, b.v, c.v] 23)) (GotV (w.alloc (.cells #[a.v, b.v, c.v] 23)) (.bool r)) := by
  have hB : Below w.heap.size w (w.alloc (.cells #[a.v, b.v, c.v] 23)) := (Below.refl _ w).alloc (Nat.le_refl _) _
  refine (given_any w.heap.size 3 (fun j => if j = 0 then a else if j = 1 then b else c) r _ (by omega) (fun j hj => ?_) ?_).mono fun _ _ ⟨he, hw⟩ => ⟨he, by rw [← hw]; exact Below.refl _ _⟩
  · have hcl := cell_of_row (w.alloc (.cells #[a.v, b.v, c.v] 23)) w.heap.size j #[a.v, b.v, c.v] 23 (0, 0) (heap_alloc_new w _)
    rcases (by omega : j = 0 ∨ j = 1 ∨ j = 2) with rfl | rfl | rfl
    · exact ⟨hcl, ha.on hB⟩
    · exact ⟨hcl, hb.on hB⟩
    · exact ⟨hcl, hc.on hB⟩
  · rw [← hr, Bool.and_eq_true, Bool.and_eq_true]
    constructor
    · rintro ⟨⟨h1, h2⟩, h3⟩ j hj
      rcases (by omega : j = 0 ∨ j = 1 ∨ j = 2) with rfl | rfl | rfl
      · exact h1
      · exact h2
      · exact h3
    · intro h
      exact ⟨⟨h 0 (by omega), h 1 (by omega)⟩, h 2 (by omega)⟩

end Go.Proofs.Ytogdckajgkncdaa
