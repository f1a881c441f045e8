/-
  What the laws of div lean on: one slice that came in; 'alive'.
-/
import Derived.Test.YtogdckajgkncdaaD
import Derived.Test.YtogdckajgkncdaaRow
namespace Go.Proofs.Ytogdckajgkncdaa
open Go.RowKit

theorem given_one (a : Arg) (r : Bool) (w : World) (ha : a.isIn w) (hr : a.ok = r) :
    Calls Try.prog 10 #[.slice (some ⟨w.heap.size, 0, none⟩) 1 1] (w.alloc (.cells #[a.v] 23)) (GotV (w.alloc (.cells #[a.v] 23)) (.bool r)) := by
  have hB : Below w.heap.size w (w.alloc (.cells #[a.v] 23)) := (Below.refl _ w).alloc (Nat.le_refl _) _
  refine (given_any w.heap.size 1 (fun _ => a) r _ (by omega) (fun j hj => ?_) ?_).mono fun _ _ ⟨he, hw⟩ => ⟨he, by rw [← hw]; exact Below.refl _ _⟩
  · have hc := cell_of_row (w.alloc (.cells #[a.v] 23)) w.heap.size j #[a.v] 23 (0, 0) (heap_alloc_new w _)
    obtain rfl : j = 0 := by omega
    exact ⟨hc, ha.on hB⟩
  · rw [← hr]
    exact ⟨fun h _ _ => h, fun h => h 0 (by omega)⟩

theorem new_digit {x : Nat} (h0 : x ≠ 0) (hx : x < B64) (w : World) (t : TypeId) : Num (w.alloc (.cells #[.int .u64 (x : Int)] t)) (some ⟨w.heap.size, 0, none⟩) 1 1 x := by
  obtain ⟨A, n, c, e, hl⟩ := isN_new h0 hx w t
  injection e with e1 e2 e3
  subst e1; subst e2; subst e3
  exact hl
theorem limbs_small {x : Nat} (h0 : x ≠ 0) (hx : x < B64) : limbs x = [x] := limbs_one h0 hx
theorem limbs_up : limbs (1 * 2 ^ 65) = [0, 2] := by
  rw [show 1 * 2 ^ 65 = 2 * B64 from rfl, limbs_pos (by have := B64_pos; omega), Nat.mul_mod_left, Nat.mul_div_cancel _ B64_pos, limbs_one (by omega) (by unfold B64; omega)]

section
variable {w : World} {A B : Option Addr} {n c m d : Nat}
theorem len_one {x : Nat} (hx : x < B64) : (limbs x).length ≤ 1 := limbs_length_le (k := 1) (by rw [Nat.pow_one]; exact hx)
theorem div_given (ha : Num w A n c 17) (hb : Num w B m d 5) : Calls Try.prog 17 #[.slice A n c, .slice B m d] w (GotD w 3 2) :=
  ddiv_N ha hb (Nat.le_trans (len_one (by unfold B64; omega)) (by omega)) (Nat.le_trans (len_one (by unfold B64; omega)) (by omega)) (by omega)
theorem gcd_given (ha : Num w A n c 12) (hb : Num w B m d 18) : Calls Try.prog 19 #[.slice A n c, .slice B m d] w (GotN w 6) :=
  dgcd_N ha hb (Nat.le_trans (len_one (by unfold B64; omega)) (by omega)) (Nat.le_trans (len_one (by unfold B64; omega)) (by omega))
theorem shl_given (ha : Num w A n c 1) : Calls Try.prog 12 #[.slice A n c, .int .i64 65] w (GotP w (1 * 2 ^ 65) 0) :=
  dshl_N (k := 65) ha (Nat.le_trans (len_one B64_gt) (by omega)) (by omega)
theorem shr_given (ha : Num w A n c (1 * 2 ^ 65)) : Calls Try.prog 14 #[.slice A n c, .int .i64 64] w (GotP w 2 0) :=
  dshr_N (k := 64) ha (by rw [limbs_up]; simp) (by omega)
/-- The only digit of a small number. -/
theorem Num.cell {x : Nat} (h : Num w A n c x) (h0 : x ≠ 0) (hx : x < B64) : n = 1 ∧ ∃ b off, A = some ⟨b, off, none⟩ ∧ w.cell? ⟨b, off, none⟩ = some (.int .u64 (x : Int)) := by
  have hn := h.len
  rw [limbs_one h0 hx] at hn
  obtain ⟨b, off, e, _, hc⟩ := h.2.2.2 (by simp at hn; omega)
  have := hc 0 (by simp at hn; omega)
  rw [limbs_one h0 hx] at this
  exact ⟨hn, b, off, e, this⟩
theorem Num.cell_up (h : Num w A n c (1 * 2 ^ 65)) : n = 2 ∧ ∃ b off, A = some ⟨b, off, none⟩ ∧ w.cell? ⟨b, off + 1, none⟩ = some (.int .u64 2) := by
  have hn := h.len
  rw [limbs_up] at hn
  obtain ⟨b, off, e, _, hc⟩ := h.2.2.2 (by simp at hn; omega)
  have := hc 1 (by simp at hn; omega)
  rw [limbs_up] at this
  exact ⟨hn, b, off, e, this⟩
end

theorem new_first {x : Nat} {v : Int} (h0 : x ≠ 0) (hx : x < B64) (hv : v = (x : Int)) (w : World) (t : TypeId) : Num (w.alloc (.cells #[.int .u64 v] t)) (some ⟨w.heap.size, 0, none⟩) 1 1 x := by
  rw [hv]
  exact new_digit h0 hx w t
theorem new_pair {x y : Nat} {u v : Int} (x0 : x ≠ 0) (hx : x < B64) (hu : u = (x : Int)) (y0 : y ≠ 0) (hy : y < B64) (hv : v = (y : Int)) (w : World) (t : TypeId) :
    Num ((w.alloc (.cells #[.int .u64 u] t)).alloc (.cells #[.int .u64 v] t)) (some ⟨w.heap.size, 0, none⟩) 1 1 x ∧ Num ((w.alloc (.cells #[.int .u64 u] t)).alloc (.cells #[.int .u64 v] t)) (some ⟨w.heap.size + 1, 0, none⟩) 1 1 y ∧ Below w.heap.size w ((w.alloc (.cells #[.int .u64 u] t)).alloc (.cells #[.int .u64 v] t)) := by
  have h1 := (new_first x0 hx hu w t).on ((Below.refl _ (w.alloc (.cells #[.int .u64 u] t))).alloc (Nat.le_refl _) (.cells #[.int .u64 v] t))
  have h2 := new_first y0 hy hv (w.alloc (.cells #[.int .u64 u] t)) t
  rw [show (w.alloc (.cells #[.int .u64 u] t)).heap.size = w.heap.size + 1 by simp] at h2
  exact ⟨h1, h2, ((Below.refl _ w).alloc (Nat.le_refl _) _).alloc (by simp) _⟩

set_option maxRecDepth 100000 in
set_option maxHeartbeats 4000000 in
theorem alive_any (w : World) : Calls Try.prog 11 #[] w (GotV w (.bool true)) := by
  have t1 := Lib.hid fun w : World => new_pair (x := 17) (y := 5) (u := 17) (v := 5) (by omega) (by unfold B64; omega) rfl (by omega) (by unfold B64; omega) rfl w 38
  have t3 := Lib.hid fun w : World => new_first (x := 1) (v := 1) (by omega) B64_gt rfl w 38
  have t4 := Lib.hid fun w : World => new_pair (x := 12) (y := 18) (u := 12) (v := 18) (by omega) (by unfold B64; omega) rfl (by omega) (by unfold B64; omega) rfl w 38
  go_enter Try.func11, Try.ntmps11
  go_wp2_with fail
  have cc := (t1.out w).2.2
  refine (div_given (t1.out w).1 (t1.out w).2.1).mono ?_
  rintro e w1 ⟨A1, n1, c1, A2, n2, c2, rfl, hq, hr, b⟩
  replace cc := cc.trans (b.mono cc.size)
  clear b t1
  go_wp2_with fail
  refine (shl_given (t3.out w1)).mono ?_
  rintro e w2 ⟨A3, n3, c3, rfl, hx, b⟩
  replace b : Below w1.heap.size w1 w2 := ((Below.refl _ w1).alloc (Nat.le_refl _) _).trans (b.mono (by simp))
  replace hq := hq.on b
  replace hr := hr.on b
  replace cc := cc.trans (b.mono cc.size)
  clear b t3
  go_wp2_with fail
  refine (shr_given hx).mono ?_
  rintro e w3 ⟨A4, n4, c4, rfl, hy, b⟩
  replace hq := hq.on b
  replace hr := hr.on b
  replace hx := hx.on b
  replace cc := cc.trans (b.mono cc.size)
  clear b
  go_wp2_with fail
  have b0 := (t4.out w3).2.2
  refine (gcd_given (t4.out w3).1 (t4.out w3).2.1).mono ?_
  rintro e w4 ⟨A5, n5, c5, rfl, hg, b⟩
  replace b := b0.trans (b.mono b0.size)
  replace hq := hq.on b
  replace hr := hr.on b
  replace hx := hx.on b
  replace hy := hy.on b
  replace cc := cc.trans (b.mono cc.size)
  clear b b0 t4
  obtain ⟨rfl, d1, o1, rfl, f1⟩ := hq.cell (by omega) (by unfold B64; omega)
  obtain ⟨rfl, d2, o2, rfl, f2⟩ := hr.cell (by omega) (by unfold B64; omega)
  obtain ⟨rfl, d3, o3, rfl, f3⟩ := hx.cell_up
  obtain ⟨rfl, d4, o4, rfl, f4⟩ := hy.cell (by omega) (by unfold B64; omega)
  obtain ⟨rfl, d5, o5, rfl, f5⟩ := hg.cell (by omega) (by unfold B64; omega)
  clear hq hr hx hy hg
  go_wp2_with fail
  go_ret
  exact ⟨rfl, cc⟩

end Go.Proofs.Ytogdckajgkncdaa
