/-
  Several texts in one: Row, Fr, FrR, FrA, FrI, MathH, MathD, MathQ, Bare, Halves, Whole, RAdd, RSub, RMul, RShift.
-/
import Derived.OpenShut
import Derived.Laws.Rows
import Derived.Test.YtccigpnebejbiaaA1
import Derived.WalkKit
import Derived.ProofKit
import Derived.ShutString
import Derived.ChangeOld
import Derived.Below
import Derived.Lib.SmallJoins
import Derived.Deep.RegionLaw
import Derived.Deep.AppendLies
import Derived.WalkSmall
import Derived.Deep.QuietTactic
import Derived.BigQuiet

/-
  A slice of integers that came in, as a list of digits; and what the laws' tests of what is given lead to.
-/
namespace Go.Proofs.Ytccigpnebejbiaa
set_option maxRecDepth 100000
open Go.RowKit

theorem block_lt {w : World} {b o : Nat} {v : Value} (h : w.cell? ⟨b, o, none⟩ = some v) : b < w.heap.size := by
  rcases Nat.lt_or_ge b w.heap.size with h1 | h1
  · exact h1
  · simp [World.cell?, Array.getElem?_eq_none h1] at h

theorem arg_of_row {w : World} {a : Option Addr} {len cap : Nat} {zs : List Int}
    (h : (a = none ∧ len = 0 ∧ cap = 0 ∧ zs = []) ∨ ∃ x, a = some x ∧ len ≤ cap ∧ cap ≤ maxLen ∧ zs.length = cap ∧ (∀ i, i < zs.length → w.cell? (x.add i) = some (.int .u64 (zs.getD i 0))) ∧ ∀ n ∈ zs, (Lit.int .u64 n).wf = true) :
    ∃ l, Lim w.heap.size w a len cap l ∧ len ≤ 9223372036854775807 := by
  rcases h with ⟨rfl, rfl, rfl, rfl⟩ | ⟨x, rfl, hl, hm, hz, hc, hw⟩
  · exact ⟨[], Lim.nil _ _ _ _, by omega⟩
  · refine ⟨(zs.take len).map Int.toNat, ⟨by simp; omega, hl, ?_, fun h0 => ?_⟩, by unfold maxLen at hm; omega⟩
    · intro y hy
      obtain ⟨z, hz1, rfl⟩ := List.mem_map.1 hy
      have := bounds_u64 (hw z (List.mem_of_mem_take hz1))
      unfold B64
      omega
    · obtain ⟨b, off, rfl, hcell⟩ := ints_at hc (by omega)
      refine ⟨b, off, rfl, block_lt (hcell 0 (by omega)), fun j hj => ?_⟩
      rw [hcell j (by omega)]
      have hb := bounds_u64 (hw (zs[j]'(by omega)) (List.getElem_mem _))
      have hj2 : j < zs.length := by omega
      rw [List.getElem?_map, List.getElem?_take_of_lt hj, List.getElem?_eq_getElem hj2]
      simp only [List.getD_eq_getElem?_getD, List.getElem?_eq_getElem hj2, Option.getD_some, Option.map_some]
      rw [Int.toNat_of_nonneg hb.1]

theorem num_zero (w : World) : Num w none 0 0 0 := by
  unfold Num
  rw [limbs_zero]
  exact Lim.nil _ _ _ _

section
variable {w : World} {A B : Option Addr} {n c m d x y : Nat}
theorem cmp_lt_N (ha : Num w A n c x) (hb : Num w B m d y) (hx : (limbs x).length ≤ 2147483648) (hy : (limbs y).length ≤ 2147483648) (h : x < y) : Calls Try.prog 97 #[.slice A n c, .slice B m d] w (GotV w (.int .i64 (-1))) := by
  have := cmp_N ha hb hx hy
  rwa [cmpN_lt h] at this
theorem cmp_gt_N (ha : Num w A n c x) (hb : Num w B m d y) (hx : (limbs x).length ≤ 2147483648) (hy : (limbs y).length ≤ 2147483648) (h : y < x) : Calls Try.prog 97 #[.slice A n c, .slice B m d] w (GotV w (.int .i64 1)) := by
  have := cmp_N ha hb hx hy
  rwa [cmpN_gt h] at this
theorem cmp_eq_N (ha : Num w A n c x) (hb : Num w B m d y) (hx : (limbs x).length ≤ 2147483648) (hy : (limbs y).length ≤ 2147483648) (h : x = y) : Calls Try.prog 97 #[.slice A n c, .slice B m d] w (GotV w (.int .i64 0)) := by
  have := cmp_N ha hb hx hy
  rwa [cmpN_zero.2 h] at this
end

/-- Digits that are right are a number's own. -/
theorem Lim.num {w : World} {A : Option Addr} {n c : Nat} {l : List Nat} (h : Lim w.heap.size w A n c l) (hc : canon l = true) : Num w A n c (val l) := by
  unfold Num
  rw [limbs_val h.2.2.1 hc]
  exact h

theorem ok_parts {a : Arg} (h : a.ok = true) : a.n ≤ 20 ∧ canon a.l = true := by
  unfold Arg.ok at h
  simpa using h

theorem Arg.isIn.on {a : Arg} {w w' : World} (h : a.isIn w) (hb : Below w.heap.size w w') : a.isIn w' := ⟨(h.1.below hb).more hb.size, h.2⟩

end Go.Proofs.Ytccigpnebejbiaa

/-
  An integer that came in: its side, and its digits.
-/
namespace Go.Proofs.Ytccigpnebejbiaa
set_option maxRecDepth 100000
open Go.ChangeShapes Go.WideShapes Go.ChangeAt Go.RowKit Go.Joins

set_option maxRecDepth 100000 in
theorem open_zed {H : Type} {enc : TypeId × Value → H} {W : World} {base b0 : Nat} {held : Bool} {r : Reach} {v : Value} {d : DataW H} {p : List MemPlace} (hv : Value.okWide Try.prog W r b0 33 v) (h : DataW.Trod enc Try.prog W base (fun _ => true) held 33 v d p) :
    ∃ (b : Bool) (a : Option Addr) (len cap : Nat) (l : List Nat), v = .agg #[.bool b, .slice a len cap] ∧ Lim W.heap.size W a len cap l ∧ len ≤ 9223372036854775807 := by
  obtain ⟨v0, v1, y0, y1, n, rfl, _, _, h0, h1⟩ := open_agg2 Try.underlying33 (by kernel_rfl) (by kernel_rfl) hv h
  obtain ⟨b, hb, _⟩ := DataW.trod_bool Try.underlying4 h0
  injection hb with hb _
  subst hb
  rcases open_ints Try.underlying31 Try.underlying48 (by kernel_rfl) h1 with ⟨hcs, _⟩ | ⟨x, l, c, zs, hcs, _, hl, hm, hz, _, hcell, hwz⟩
  · injection hcs with hcs _
    subst hcs
    obtain ⟨l, hl, hs⟩ := arg_of_row (w := W) (a := none) (len := 0) (cap := 0) (zs := []) (.inl ⟨rfl, rfl, rfl, rfl⟩)
    exact ⟨b, none, 0, 0, l, rfl, hl, hs⟩
  · injection hcs with hcs _
    subst hcs
    obtain ⟨l', hl', hs⟩ := arg_of_row (w := W) (a := some x) (len := l) (cap := c) (zs := zs) (.inr ⟨x, rfl, hl, hm, by simpa using hz, hcell, hwz⟩)
    exact ⟨b, some x, l, c, l', rfl, hl', hs⟩

end Go.Proofs.Ytccigpnebejbiaa

/-
  A rational that came in: its side, and the digits of both its numbers.
-/
namespace Go.Proofs.Ytccigpnebejbiaa
set_option maxRecDepth 100000
open Go.ChangeShapes Go.WideShapes Go.ChangeAt Go.RowKit Go.Joins

theorem open_nat {H : Type} {enc : TypeId × Value → H} {W : World} {base : Nat} {held : Bool} {v : Value} {y : DataW H × List MemPlace} {n : Nat} (h : DataW.trod enc Try.prog W base (fun _ => true) held n 31 [v] = some y) :
    ∃ (a : Option Addr) (len cap : Nat) (l : List Nat), v = .slice a len cap ∧ Lim W.heap.size W a len cap l ∧ len ≤ 9223372036854775807 := by
  rcases open_ints Try.underlying31 Try.underlying48 (by kernel_rfl) h with ⟨hcs, _⟩ | ⟨x, l, c, zs, hcs, _, hl, hm, hz, _, hcell, hwz⟩
  · injection hcs with hcs _
    subst hcs
    obtain ⟨l, hl, hs⟩ := arg_of_row (w := W) (a := none) (len := 0) (cap := 0) (zs := []) (.inl ⟨rfl, rfl, rfl, rfl⟩)
    exact ⟨none, 0, 0, l, rfl, hl, hs⟩
  · injection hcs with hcs _
    subst hcs
    obtain ⟨l', hl', hs⟩ := arg_of_row (w := W) (a := some x) (len := l) (cap := c) (zs := zs) (.inr ⟨x, rfl, hl, hm, by simpa using hz, hcell, hwz⟩)
    exact ⟨some x, l, c, l', rfl, hl', hs⟩

set_option maxRecDepth 100000 in
theorem open_rat {H : Type} {enc : TypeId × Value → H} {W : World} {base b0 : Nat} {held : Bool} {r : Reach} {v : Value} {d : DataW H} {p : List MemPlace} (hv : Value.okWide Try.prog W r b0 35 v) (h : DataW.Trod enc Try.prog W base (fun _ => true) held 35 v d p) :
    ∃ (b : Bool) (a : Option Addr) (len cap : Nat) (l : List Nat) (a2 : Option Addr) (len2 cap2 : Nat) (l2 : List Nat), v = .agg #[.bool b, .slice a len cap, .slice a2 len2 cap2] ∧ Lim W.heap.size W a len cap l ∧ len ≤ 9223372036854775807 ∧ Lim W.heap.size W a2 len2 cap2 l2 ∧ len2 ≤ 9223372036854775807 := by
  obtain ⟨cs, rfl, hsz⟩ := okWide_struct Try.underlying35 hv
  obtain ⟨c0, c1, c2, rfl⟩ := array3 (hsz.trans (by kernel_rfl))
  obtain ⟨fuel, hf⟩ := h
  obtain ⟨y0, y1, n, _, _, h0, h1⟩ := trod_struct2 Try.underlying35 hf
  have k0 : Try.prog.cellsOf 33 = 2 := by kernel_rfl
  have k1 : Try.prog.cellsOf 31 = 1 := by kernel_rfl
  have k2 : Try.prog.cellsOf 4 = 1 := by kernel_rfl
  simp only [Value.cells, k0, k1] at h0 h1
  obtain ⟨z0, z1, m, _, _, g0, g1⟩ := trod_struct2 Try.underlying33 h0
  simp only [k1, k2] at g0 g1
  obtain ⟨b, hb, _⟩ := DataW.trod_bool Try.underlying4 g0
  obtain ⟨a, len, cap, l, e1, hl, hs⟩ := open_nat (v := c1) g1
  obtain ⟨a2, len2, cap2, l2, e2, hl2, hs2⟩ := open_nat (v := c2) h1
  injection hb with hb _
  subst hb e1 e2
  exact ⟨b, a, len, cap, l, a2, len2, cap2, l2, rfl, hl, hs, hl2, hs2⟩

end Go.Proofs.Ytccigpnebejbiaa

/-
  A number, two integers, two numbers that came in.
-/
namespace Go.Proofs.Ytccigpnebejbiaa
set_option maxRecDepth 100000
open Go.ChangeShapes Go.WideShapes Go.ChangeAt Go.RowKit Go.Joins

theorem open_natT {H : Type} {enc : TypeId × Value → H} {W : World} {base b0 : Nat} {held : Bool} {r : Reach} {v : Value} {d : DataW H} {p : List MemPlace} (hv : Value.okWide Try.prog W r b0 31 v) (h : DataW.Trod enc Try.prog W base (fun _ => true) held 31 v d p) :
    ∃ (a : Option Addr) (len cap : Nat) (l : List Nat), v = .slice a len cap ∧ Lim W.heap.size W a len cap l ∧ len ≤ 9223372036854775807 := by
  obtain ⟨a, len, cap, rfl⟩ := okWide_slice Try.underlying31 hv
  obtain ⟨fuel, hf⟩ := h
  exact open_nat hf



end Go.Proofs.Ytccigpnebejbiaa

/-
  What a [2]int64 that is handed over is.
-/
namespace Go.Proofs.Ytccigpnebejbiaa
set_option maxRecDepth 100000
open Go.ChangeShapes Go.WideShapes Go.ChangeAt Go.RowKit Go.Joins

theorem array_two {α : Type} {cs : Array α} (h : cs.size = 2) : ∃ a b, cs = #[a, b] := by
  obtain ⟨l⟩ := cs
  have h2 : l.length = 2 := h
  match l, h2 with
  | [a, b], _ => exact ⟨a, b, rfl⟩

set_option maxRecDepth 100000 in
theorem open_i64x2 {H : Type} {enc : TypeId × Value → H} {W : World} {base b0 : Nat} {held : Bool} {r : Reach} {v : Value} {d : DataW H} {p : List MemPlace} (hv : Value.okWide Try.prog W r b0 22 v) (h : DataW.Trod enc Try.prog W base (fun _ => true) held 22 v d p) :
    ∃ a b : Int, v = .agg #[.int .i64 a, .int .i64 b] ∧ (Lit.int .i64 a).wf = true ∧ (Lit.int .i64 b).wf = true := by
  have hu : Try.prog.underlying 22 = some (.array 2 2) := Try.underlying22
  have e1 : Try.prog.cellsOf 2 = 1 := by kernel_rfl
  have e2 : Try.prog.cellsOf 22 = 2 := by kernel_rfl
  simp only [Value.okWide, hu] at hv
  obtain ⟨cs, rfl, hsz, _⟩ := hv
  obtain ⟨c0, c1, rfl⟩ := array_two (hsz.trans e2)
  obtain ⟨fuel, hf⟩ := h
  obtain ⟨xs, m, rfl, _, _, hxl, hel⟩ := DataW.trod_array hu hf
  obtain ⟨x0, x1, rfl⟩ : ∃ x0 x1, xs = [x0, x1] := by
    match xs, hxl with
    | [a, b], _ => exact ⟨a, b, rfl⟩
  have h0 := hel 0 (by omega)
  have h1 := hel 1 (by omega)
  rw [e1] at h0 h1
  obtain ⟨a, ha, _, wa⟩ := DataW.trod_int Try.underlying2 h0
  obtain ⟨b, hb, _, wb⟩ := DataW.trod_int Try.underlying2 h1
  injection ha with ha _
  injection hb with hb _
  subst ha hb
  exact ⟨a, b, rfl, wa, wb⟩
end Go.Proofs.Ytccigpnebejbiaa

/-
  Plain arithmetic: digits to the base 2 to the power of 32, as the reference reckons.
-/
namespace Go.Proofs.Ytccigpnebejbiaa

/-- 2 to the power of 32, behind a name. -/
def H32 : Nat := 4294967296
theorem H32_pos : 0 < H32 := by unfold H32; omega
theorem H32_gt : 1 < H32 := by unfold H32; omega
theorem H32_sq : H32 * H32 = B64 := rfl
theorem H32_lt : H32 < B64 := by unfold H32 B64; omega

/-- The number of figures of 32 bits, the lowest first. -/
def valH : List Nat → Nat
  | [] => 0
  | x :: xs => x + H32 * valH xs
def DigH (l : List Nat) : Prop := ∀ x ∈ l, x < H32

theorem valH_nil : valH [] = 0 := rfl
theorem valH_cons (x : Nat) (xs : List Nat) : valH (x :: xs) = x + H32 * valH xs := rfl
theorem DigH.nil : DigH [] := fun _ h => by cases h
theorem DigH.dig {l : List Nat} (h : DigH l) : Dig l := fun x hx => Nat.lt_trans (h x hx) H32_lt
theorem DigH.snoc {x : Nat} {xs : List Nat} (h : DigH xs) (hx : x < H32) : DigH (xs ++ [x]) := fun y hy => by
  rcases List.mem_append.1 hy with hy | hy
  · exact h y hy
  · simp at hy; subst hy; exact hx
theorem DigH.get {l : List Nat} (h : DigH l) (j : Nat) : l[j]?.getD 0 < H32 := by
  by_cases hj : j < l.length
  · simp [hj]; exact h _ (List.getElem_mem hj)
  · rw [List.getElem?_eq_none (by omega)]; exact H32_pos
theorem DigH.set {l : List Nat} (h : DigH l) (k : Nat) {d : Nat} (hd : d < H32) : DigH (l.set k d) := fun x hx => by
  rcases List.mem_or_eq_of_mem_set hx with h1 | h1
  · exact h x h1
  · rw [h1]; exact hd

theorem valH_lt {l : List Nat} (hd : DigH l) : valH l < H32 ^ l.length := by
  induction l with
  | nil => simp [valH_nil]
  | cons x xs ih =>
    rw [valH_cons, List.length_cons, Nat.pow_succ, Nat.mul_comm (H32 ^ xs.length)]
    have h1 := ih fun y hy => hd y (List.mem_cons_of_mem _ hy)
    have h2 := hd x List.mem_cons_self
    have h3 : H32 * (valH xs + 1) ≤ H32 * H32 ^ xs.length := Nat.mul_le_mul_left _ h1
    rw [Nat.mul_add, Nat.mul_one] at h3
    omega

theorem valH_snoc (l : List Nat) (x : Nat) : valH (l ++ [x]) = valH l + H32 ^ l.length * x := by
  induction l with
  | nil => simp [valH_cons, valH_nil]
  | cons y ys ih =>
    rw [List.cons_append, valH_cons, ih, valH_cons, List.length_cons, Nat.pow_succ, Nat.mul_add]
    rw [← Nat.mul_assoc, Nat.mul_comm H32 (H32 ^ ys.length)]
    omega

theorem valH_take_succ (l : List Nat) (k : Nat) : valH (l.take (k + 1)) = valH (l.take k) + H32 ^ k * l[k]?.getD 0 := by
  by_cases hk : k < l.length
  · rw [List.take_succ_eq_append_getElem hk, valH_snoc, List.length_take, Nat.min_eq_left (by omega)]
    simp [hk]
  · rw [List.take_of_length_le (by omega), List.take_of_length_le (by omega), List.getElem?_eq_none (by omega)]
    simp

theorem valH_take_lt {l : List Nat} (h : DigH l) (k : Nat) : valH (l.take k) < H32 ^ k :=
  Nat.lt_of_lt_of_le (valH_lt fun x hx => h x (List.mem_of_mem_take hx)) (Nat.pow_le_pow_right H32_pos (List.length_take_le _ _))

theorem valH_set {l : List Nat} {k : Nat} (hk : k < l.length) (d : Nat) : valH (l.set k d) + H32 ^ k * l[k]?.getD 0 = valH l + H32 ^ k * d := by
  induction l generalizing k with
  | nil => simp at hk
  | cons x xs ih =>
    cases k with
    | zero => simp [valH_cons]; omega
    | succ k =>
      have h := ih (k := k) (by simpa using hk)
      rw [List.set_cons_succ, valH_cons, valH_cons, List.getElem?_cons_succ, Nat.pow_succ, Nat.mul_comm (H32 ^ k) H32, Nat.mul_assoc, Nat.mul_assoc]
      have h2 : H32 * (valH (xs.set k d) + H32 ^ k * xs[k]?.getD 0) = H32 * (valH xs + H32 ^ k * d) := by rw [h]
      rw [Nat.mul_add, Nat.mul_add] at h2
      omega

theorem valH_zeros (n : Nat) : valH (List.replicate n 0) = 0 := by
  induction n with
  | zero => rfl
  | succ n ih => rw [List.replicate_succ, valH_cons, ih]; simp
theorem digH_zeros (n : Nat) : DigH (List.replicate n 0) := fun x hx => by rw [(List.mem_replicate.1 hx).2]; exact H32_pos

/-- The lower and the upper half of a digit. -/
def loH (x : Nat) : Nat := x % H32
def hiH (x : Nat) : Nat := x / H32
theorem loH_lt (x : Nat) : loH x < H32 := Nat.mod_lt _ H32_pos
theorem hiH_lt {x : Nat} (h : x < B64) : hiH x < H32 := by unfold hiH; rw [Nat.div_lt_iff_lt_mul H32_pos, H32_sq]; exact h
theorem half_split (x : Nat) : loH x + H32 * hiH x = x := Nat.mod_add_div _ _

/-- A number's figures. -/
def halvesL : List Nat → List Nat
  | [] => []
  | x :: xs => loH x :: hiH x :: halvesL xs
theorem halvesL_length (l : List Nat) : (halvesL l).length = 2 * l.length := by
  induction l with
  | nil => rfl
  | cons x xs ih => simp only [halvesL, List.length_cons, ih]; omega
theorem halvesL_snoc (l : List Nat) (x : Nat) : halvesL (l ++ [x]) = halvesL l ++ [loH x, hiH x] := by
  induction l with
  | nil => rfl
  | cons y ys ih => simp only [List.cons_append, halvesL, ih]
theorem halvesL_dig {l : List Nat} (h : Dig l) : DigH (halvesL l) := by
  induction l with
  | nil => exact DigH.nil
  | cons x xs ih =>
    intro y hy
    simp only [halvesL, List.mem_cons] at hy
    rcases hy with rfl | rfl | hy
    · exact loH_lt _
    · exact hiH_lt h.head
    · exact ih h.tail y hy
theorem halvesL_val (l : List Nat) : valH (halvesL l) = val l := by
  induction l with
  | nil => rfl
  | cons x xs ih =>
    simp only [halvesL, valH_cons, val_cons, ih]
    have := half_split x
    have e : H32 * (hiH x + H32 * val xs) = H32 * hiH x + B64 * val xs := by rw [Nat.mul_add, ← Nat.mul_assoc, H32_sq]
    omega

/-- Two figures as a digit. -/
def join (a b : Nat) : Nat := a + b * H32
theorem join_lt {a b : Nat} (ha : a < H32) (hb : b < H32) : join a b < B64 := by
  unfold join
  have : (b + 1) * H32 ≤ H32 * H32 := Nat.mul_le_mul_right _ hb
  rw [H32_sq, Nat.add_mul, Nat.one_mul] at this
  omega

/-- Digits of the first 2k figures. -/
def joinL (l : List Nat) (k : Nat) : List Nat := (List.range k).map fun j => join (l[2 * j]?.getD 0) (l[2 * j + 1]?.getD 0)
theorem joinL_length (l : List Nat) (k : Nat) : (joinL l k).length = k := by simp [joinL]
theorem joinL_succ (l : List Nat) (k : Nat) : joinL l (k + 1) = joinL l k ++ [join (l[2 * k]?.getD 0) (l[2 * k + 1]?.getD 0)] := by simp [joinL, List.range_succ]
theorem joinL_dig {l : List Nat} (h : DigH l) (k : Nat) : Dig (joinL l k) := fun x hx => by
  obtain ⟨j, _, rfl⟩ := List.mem_map.1 hx
  exact join_lt (h.get _) (h.get _)
theorem joinL_val (l : List Nat) (k : Nat) : val (joinL l k) = valH (l.take (2 * k)) := by
  induction k with
  | zero => simp [joinL, val_nil, valH_nil]
  | succ k ih =>
    rw [joinL_succ, val_snoc, joinL_length, ih, show 2 * (k + 1) = 2 * k + 1 + 1 by omega, valH_take_succ, valH_take_succ]
    have e : B64 ^ k = H32 ^ (2 * k) := by rw [← H32_sq, Nat.pow_mul, Nat.pow_two]
    rw [e, join, Nat.mul_add, Nat.pow_succ]
    have : H32 ^ (2 * k) * (l[2 * k + 1]?.getD 0 * H32) = H32 ^ (2 * k) * H32 * l[2 * k + 1]?.getD 0 := by ac_rfl
    omega

/-- Three figures' sum, in two parts. -/
theorem div_le_one {x y c : Nat} (hx : x < H32) (hy : y < H32) (hc : c ≤ 1) : hiH (x + y + c) ≤ 1 := by
  unfold hiH
  have : (x + y + c) / H32 < 2 := (Nat.div_lt_iff_lt_mul H32_pos).2 (by omega)
  omega

end Go.Proofs.Ytccigpnebejbiaa

/-
  Plain arithmetic: digits by division, powers of 2, binary figures.
-/
namespace Go.Proofs.Ytccigpnebejbiaa

/-- A number's digit at a place, by division. -/
def dig (y j : Nat) : Nat := y / B64 ^ j % B64
theorem dig_lt (y j : Nat) : dig y j < B64 := Nat.mod_lt _ B64_pos
theorem limbs_get (x j : Nat) : (limbs x)[j]?.getD 0 = dig x j := by
  induction j generalizing x with
  | zero =>
    unfold dig
    rw [Nat.pow_zero, Nat.div_one]
    by_cases h : x = 0
    · subst h; rw [limbs_zero]; simp
    · rw [limbs_pos h]; simp
  | succ j ih =>
    by_cases h : x = 0
    · subst h; rw [limbs_zero]; simp [dig]
    · rw [limbs_pos h, List.getElem?_cons_succ, ih]
      unfold dig
      rw [Nat.div_div_eq_div_mul, Nat.pow_succ, Nat.mul_comm B64]
/-- The first k digits. -/
def digs (y k : Nat) : List Nat := (List.range k).map (dig y)
theorem digs_length (y k : Nat) : (digs y k).length = k := by simp [digs]
theorem digs_succ (y k : Nat) : digs y (k + 1) = digs y k ++ [dig y k] := by simp [digs, List.range_succ]
theorem digs_dig (y k : Nat) : Dig (digs y k) := fun x hx => by
  obtain ⟨j, _, rfl⟩ := List.mem_map.1 hx
  exact dig_lt _ _
theorem digs_get {y k j : Nat} (h : j < k) : (digs y k)[j]?.getD 0 = dig y j := by simp [digs, h]
theorem digs_val (y k : Nat) : val (digs y k) = y % B64 ^ k := by
  induction k with
  | zero => simp [digs, val_nil, Nat.mod_one]
  | succ k ih =>
    rw [digs_succ, val_snoc, digs_length, ih, dig, Nat.pow_succ, Nat.mod_mul]
theorem digs_all {y k : Nat} (h : y < B64 ^ k) : val (digs y k) = y := by rw [digs_val, Nat.mod_eq_of_lt h]

theorem B64_two : B64 = 2 ^ 64 := rfl
theorem B64_pow2 (j : Nat) : B64 ^ j = 2 ^ (64 * j) := by rw [B64_two, Nat.pow_mul]

/-- 2 to a power, behind a name. -/
def pw (k : Nat) : Nat := 2 ^ k
theorem pw_zero : pw 0 = 1 := rfl
theorem pw_succ (k : Nat) : pw (k + 1) = pw k * 2 := Nat.pow_succ ..
theorem pw_pos (k : Nat) : 0 < pw k := Nat.pow_pos (by omega)
theorem pw_lt {k : Nat} (h : k < 64) : pw k < B64 := by rw [B64_two]; exact (Nat.pow_lt_pow_iff_right (by omega)).2 h
theorem pw_limbs (n : Nat) : (List.replicate (n / 64 + 1) 0).set (n / 64) (pw (n % 64)) = limbs (2 ^ n) := by
  have hz : ∀ m, val (List.replicate m 0) = 0 := fun m => by
    induction m with
    | zero => rfl
    | succ m ih => rw [List.replicate_succ, val_cons, ih]; simp
  have h1 := val_set (l := List.replicate (n / 64 + 1) 0) (k := n / 64) (by simp) (pw (n % 64))
  have h0 : (List.replicate (n / 64 + 1) 0)[n / 64]?.getD 0 = 0 := by simp
  rw [h0, hz, Nat.mul_zero, Nat.add_zero, Nat.zero_add] at h1
  have h2 : B64 ^ (n / 64) * pw (n % 64) = 2 ^ n := by
    rw [B64_pow2, pw, ← Nat.pow_add]
    congr 1
    omega
  rw [h2] at h1
  rw [← h1]
  refine eq_limbs (Dig.set (fun x hx => by rw [(List.mem_replicate.1 hx).2]; exact B64_pos) _ (pw_lt (Nat.mod_lt _ (by omega)))) fun _ => ?_
  rw [List.length_set, List.length_replicate, Nat.add_sub_cancel, h1, ← h2]
  exact Nat.le_mul_of_pos_right _ (pw_pos _)

/-- A binary figure. -/
def bitN (x i : Nat) : Nat := x / 2 ^ i % 2
theorem bitN_lt (x i : Nat) : bitN x i < 2 := Nat.mod_lt _ (by omega)
theorem bitN_dig (x i : Nat) : dig x (i / 64) / 2 ^ (i % 64) % 2 = bitN x i := by
  have h : ∀ y s : Nat, s < 64 → y % B64 / 2 ^ s % 2 = y / 2 ^ s % 2 := fun y s hs => by
    have e : B64 = 2 ^ s * 2 ^ (64 - s) := by rw [B64_two, ← Nat.pow_add]; congr 1; omega
    rw [e, Nat.mod_mul_right_div_self]
    obtain ⟨r, hr⟩ : ∃ r, 64 - s = r + 1 := ⟨64 - s - 1, by omega⟩
    rw [hr, Nat.pow_succ, Nat.mul_comm]
    exact Nat.mod_mul_right_mod _ _ _
  unfold dig bitN
  rw [h _ _ (Nat.mod_lt _ (by omega)), B64_pow2, Nat.div_div_eq_div_mul, ← Nat.pow_add]
  congr 3
  omega

/-- Two digits, shifted down by k places, the lower digit. -/
def sh2 (x y k : Nat) : Nat := (x + B64 * y) / 2 ^ k % B64
theorem sh2_lt (x y k : Nat) : sh2 x y k < B64 := Nat.mod_lt _ B64_pos
theorem sh2_zero {x : Nat} (hx : x < B64) (y : Nat) : sh2 x y 0 = x := by
  unfold sh2
  rw [Nat.pow_zero, Nat.div_one, Nat.add_mul_mod_self_left, Nat.mod_eq_of_lt hx]
theorem sh2_succ {x : Nat} (hx : x < B64) (y k : Nat) : sh2 x y k / 2 + y / 2 ^ k % 2 * 9223372036854775808 = sh2 x y (k + 1) := by
  have h1 : (x + B64 * y) / 2 ^ k / B64 = y / 2 ^ k := by
    rw [Nat.div_div_eq_div_mul, Nat.mul_comm (2 ^ k) B64, ← Nat.div_div_eq_div_mul, Nat.add_mul_div_left _ _ B64_pos, Nat.div_eq_of_lt hx, Nat.zero_add]
  have h2 : sh2 x y (k + 1) = (x + B64 * y) / 2 ^ k / 2 % B64 := by unfold sh2; rw [Nat.pow_succ, ← Nat.div_div_eq_div_mul]
  rw [h2]
  unfold sh2
  rw [← h1]
  generalize (x + B64 * y) / 2 ^ k = u
  unfold B64
  omega

theorem sh2_dig (x i s : Nat) (hs : s < 64) : sh2 (dig x i) (dig x (i + 1)) s = x / B64 ^ i / 2 ^ s % B64 := by
  have h1 : dig x i + B64 * dig x (i + 1) = x / B64 ^ i % (B64 * B64) := by
    unfold dig
    rw [Nat.mod_mul, Nat.pow_succ, Nat.div_div_eq_div_mul]
  unfold sh2
  rw [h1]
  generalize x / B64 ^ i = m
  have e : B64 * B64 = 2 ^ s * (B64 * 2 ^ (64 - s)) := by
    have e2 : 2 ^ s * 2 ^ (64 - s) = B64 := by rw [B64_two, ← Nat.pow_add]; congr 1; omega
    calc B64 * B64 = B64 * (2 ^ s * 2 ^ (64 - s)) := by rw [e2]
      _ = 2 ^ s * (B64 * 2 ^ (64 - s)) := by ac_rfl
  rw [e, Nat.mod_mul_right_div_self]
  exact Nat.mod_mul_right_mod _ _ _

/-- A digit of what is shifted down. -/
theorem shr_dig (x n j : Nat) : sh2 (dig x (n / 64 + j)) (dig x (n / 64 + j + 1)) (n % 64) = dig (x / 2 ^ n) j := by
  rw [sh2_dig _ _ _ (Nat.mod_lt _ (by omega))]
  unfold dig
  congr 1
  rw [B64_pow2, B64_pow2, Nat.div_div_eq_div_mul, Nat.div_div_eq_div_mul, ← Nat.pow_add, ← Nat.pow_add]
  congr 2
  omega

theorem shr_lt {x n k : Nat} (h : x < B64 ^ k) : x / 2 ^ n < B64 ^ (k - n / 64) := by
  rcases Nat.lt_or_ge (n / 64) k with h1 | h1
  · rw [Nat.div_lt_iff_lt_mul (Nat.pow_pos (by omega))]
    refine Nat.lt_of_lt_of_le h ?_
    have e : B64 ^ k = B64 ^ (k - n / 64) * B64 ^ (n / 64) := by rw [← Nat.pow_add]; congr 1; omega
    rw [e]
    refine Nat.mul_le_mul_left _ ?_
    rw [B64_pow2]
    exact Nat.pow_le_pow_right (by omega) (by omega)
  · have h2 : x < 2 ^ n := by
      refine Nat.lt_of_lt_of_le h ?_
      rw [B64_pow2]
      exact Nat.pow_le_pow_right (by omega) (by omega)
    rw [Nat.div_eq_of_lt h2]
    exact Nat.pow_pos B64_pos

end Go.Proofs.Ytccigpnebejbiaa

/-
  Plain arithmetic: a division bit by bit.
-/
namespace Go.Proofs.Ytccigpnebejbiaa

/-- Of a quotient F: what digit t holds when all binary figures from m on are known. -/
def qd (F m t : Nat) : Nat := F / 2 ^ (max m (64 * t)) % 2 ^ (64 * (t + 1) - max m (64 * t))
theorem qd_lt (F m t : Nat) : qd F m t < B64 := by
  unfold qd
  refine Nat.lt_of_lt_of_le (Nat.mod_lt _ (Nat.pow_pos (by omega))) ?_
  rw [B64_two]
  exact Nat.pow_le_pow_right (by omega) (by omega)
theorem qd_none {F m : Nat} (h : F < 2 ^ m) (t : Nat) : qd F m t = 0 := by
  unfold qd
  have : F < 2 ^ (max m (64 * t)) := Nat.lt_of_lt_of_le h (Nat.pow_le_pow_right (by omega) (by omega))
  rw [Nat.div_eq_of_lt this, Nat.zero_mod]
theorem qd_done (F t : Nat) : qd F 0 t = dig F t := by
  unfold qd dig
  have e1 : max 0 (64 * t) = 64 * t := by omega
  have e2 : 64 * (t + 1) - 64 * t = 64 := by omega
  rw [e1, e2, B64_pow2]
  rfl
theorem qd_other {F i t : Nat} (h : t ≠ i / 64) : qd F i t = qd F (i + 1) t := by
  unfold qd
  rcases Nat.lt_or_ge t (i / 64) with h1 | h1
  · have e1 : 64 * (t + 1) - max i (64 * t) = 0 := by omega
    have e2 : 64 * (t + 1) - max (i + 1) (64 * t) = 0 := by omega
    rw [e1, e2, Nat.pow_zero, Nat.mod_one, Nat.mod_one]
  · have e1 : max i (64 * t) = 64 * t := by omega
    have e2 : max (i + 1) (64 * t) = 64 * t := by omega
    rw [e1, e2]
theorem qd_same (F i : Nat) : qd F i (i / 64) = 2 * qd F (i + 1) (i / 64) + bitN F i := by
  unfold qd bitN
  have e1 : max i (64 * (i / 64)) = i := by omega
  have e2 : max (i + 1) (64 * (i / 64)) = i + 1 := by omega
  obtain ⟨e, he⟩ : ∃ e, 64 * (i / 64 + 1) - i = e + 1 := ⟨64 * (i / 64 + 1) - i - 1, by omega⟩
  have he2 : 64 * (i / 64 + 1) - (i + 1) = e := by omega
  rw [e1, e2, he, he2, Nat.pow_succ 2 i, ← Nat.div_div_eq_div_mul, Nat.pow_succ, Nat.mul_comm (2 ^ e) 2, Nat.mod_mul]
  omega
theorem qd_room (F i : Nat) : 2 * qd F (i + 1) (i / 64) + 1 < B64 := by
  have h : qd F (i + 1) (i / 64) < 2 ^ 63 := by
    unfold qd
    refine Nat.lt_of_lt_of_le (Nat.mod_lt _ (Nat.pow_pos (by omega))) ?_
    exact Nat.pow_le_pow_right (by omega) (by omega)
  unfold B64
  omega

/-- The digits of a quotient when all binary figures from m on are known. -/
def qlist (F m n : Nat) : List Nat := (List.range n).map (qd F m)
theorem qlist_length (F m n : Nat) : (qlist F m n).length = n := by simp [qlist]
theorem qlist_dig (F m n : Nat) : Dig (qlist F m n) := fun x hx => by
  obtain ⟨j, _, rfl⟩ := List.mem_map.1 hx
  exact qd_lt _ _ _
theorem qlist_get {F m n t : Nat} (h : t < n) : (qlist F m n)[t]?.getD 0 = qd F m t := by simp [qlist, h]
theorem qlist_none {F m : Nat} (h : F < 2 ^ m) (n : Nat) : qlist F m n = List.replicate n 0 := by
  apply List.ext_getElem
  · simp [qlist]
  · intro i h1 h2
    simp [qlist, qd_none h]
theorem qlist_done (F n : Nat) : qlist F 0 n = digs F n := by
  unfold qlist digs
  congr 1
  funext t
  exact qd_done F t
theorem qlist_set (F i n : Nat) : (qlist F (i + 1) n).set (i / 64) (qd F i (i / 64)) = qlist F i n := by
  apply List.ext_getElem
  · simp [qlist]
  · intro j h1 h2
    rw [List.getElem_set]
    by_cases h : i / 64 = j
    · simp [h, qlist]
    · rw [if_neg h]
      simp only [qlist, List.getElem_map, List.getElem_range]
      exact (qd_other (fun e => h e.symm)).symm

/-- One binary figure of a division. -/
theorem div_step {x y : Nat} (hy : 0 < y) (i : Nat) :
    (x / 2 ^ i) % y = (if y ≤ 2 * (x / 2 ^ (i + 1) % y) + bitN x i then 2 * (x / 2 ^ (i + 1) % y) + bitN x i - y else 2 * (x / 2 ^ (i + 1) % y) + bitN x i) ∧
    bitN (x / y) i = (if y ≤ 2 * (x / 2 ^ (i + 1) % y) + bitN x i then 1 else 0) := by
  have h1 : x / 2 ^ i = 2 * (x / 2 ^ (i + 1)) + bitN x i := by
    unfold bitN
    rw [Nat.pow_succ, ← Nat.div_div_eq_div_mul]
    omega
  have hb := bitN_lt x i
  have h2 := Nat.div_add_mod (x / 2 ^ (i + 1)) y
  have hr := Nat.mod_lt (x / 2 ^ (i + 1)) hy
  have h3 : x / y / 2 ^ i = x / 2 ^ i / y := by rw [Nat.div_div_eq_div_mul, Nat.div_div_eq_div_mul, Nat.mul_comm]
  have h4 : bitN (x / y) i = x / 2 ^ i / y % 2 := by unfold bitN; rw [h3]
  rw [h4, h1]
  generalize x / 2 ^ (i + 1) % y = r at *
  generalize x / 2 ^ (i + 1) / y = q at *
  generalize x / 2 ^ (i + 1) = u at *
  generalize bitN x i = b at *
  subst h2
  have e : 2 * (y * q + r) + b = (2 * r + b) + y * (2 * q) := by
    have : y * (2 * q) = 2 * (y * q) := by ac_rfl
    omega
  rw [e, Nat.add_mul_mod_self_left, Nat.add_mul_div_left _ _ hy]
  split
  · rename_i h
    have e1 : (2 * r + b) % y = 2 * r + b - y := by rw [Nat.mod_eq_sub_mod h, Nat.mod_eq_of_lt (by omega)]
    have e2 : (2 * r + b) / y = 1 := by
      rw [Nat.div_eq_sub_div hy h, Nat.div_eq_of_lt (by omega)]
    rw [e1, e2]
    exact ⟨rfl, by omega⟩
  · rename_i h
    have e1 : (2 * r + b) % y = 2 * r + b := Nat.mod_eq_of_lt (by omega)
    have e2 : (2 * r + b) / y = 0 := Nat.div_eq_of_lt (by omega)
    rw [e1, e2]
    exact ⟨rfl, by omega⟩

end Go.Proofs.Ytccigpnebejbiaa

/-
  The contracts of the reference's Bare and Of.
-/
namespace Go.Proofs.Ytccigpnebejbiaa
set_option maxRecDepth 100000
open Go.RowKit

theorem isL_of_own {w : World} {base : Nat} {e : TypeId} {v : Value} {n : Nat} {l : List Nat} (h : w.ownsRow base e 1 v n (l.map encD)) (hd : Dig l) : ∃ A c, v = .slice A n c ∧ Lim w.heap.size w A n c l := by
  rcases h.2 with ⟨rfl, rfl⟩ | ⟨g, cap, cur, rfl, _⟩
  · exact ⟨none, 0, rfl, Lim.of_own h hd⟩
  · exact ⟨_, _, rfl, Lim.of_own h hd⟩

/-- A slice lies in new memory: in a block from B on, if it has anything. -/
def Fresh (B : Nat) (A : Option Addr) (n : Nat) : Prop := 0 < n → ∃ b off, A = some ⟨b, off, none⟩ ∧ B ≤ b
theorem Fresh.mono {B B' : Nat} {A : Option Addr} {n : Nat} (h : Fresh B A n) (hB : B' ≤ B) : Fresh B' A n := fun h0 => by
  obtain ⟨b, off, e, hb⟩ := h h0
  exact ⟨b, off, e, Nat.le_trans hB hb⟩
theorem fresh_of_own {w : World} {base : Nat} {e : TypeId} {A : Option Addr} {n c : Nat} {xs : List Value} (h : w.ownsRow base e 1 (.slice A n c) n xs) : Fresh base A n := fun h0 => by
  rcases h.2 with ⟨_, h1⟩ | ⟨g, cap, cur, e1, hb, _⟩
  · omega
  · injection e1 with e2
    exact ⟨g, 0, e2, hb⟩
/-- A call has answered a number in new memory, and nothing that was there has changed. -/
def GotNF (w : World) (x : Nat) (e : Ending) (w' : World) : Prop := ∃ A n c, e = .returned (.slice A n c) ∧ Num w' A n c x ∧ Below w.heap.size w w' ∧ Fresh w.heap.size A n
theorem GotNF.weak {w w' : World} {x : Nat} {e : Ending} (h : GotNF w x e w') : GotN w x e w' := by
  obtain ⟨A, n, c, he, hl, hb, _⟩ := h
  exact ⟨A, n, c, he, hl, hb⟩
/-- Likewise, with a code. -/
def GotPF (w : World) (x : Nat) (r : Int) (e : Ending) (w' : World) : Prop := ∃ A n c, e = .returned (.tuple #[.slice A n c, .int .i64 r]) ∧ Num w' A n c x ∧ Below w.heap.size w w' ∧ Fresh w.heap.size A n
theorem GotPF.weak {w w' : World} {x : Nat} {r : Int} {e : Ending} (h : GotPF w x r e w') : GotP w x r e w' := by
  obtain ⟨A, n, c, he, hl, hb, _⟩ := h
  exact ⟨A, n, c, he, hl, hb⟩

theorem own_empty (w : World) (base : Nat) (h : base ≤ w.heap.size) : (w.alloc (.cells #[] 48)).ownsRow base 48 1 (.slice (some ⟨w.heap.size, 0, none⟩) 0 0) 0 [] :=
  ⟨rfl, .inr ⟨w.heap.size, 0, #[], rfl, h, heap_alloc_new w _, Nat.le_refl _, by unfold maxLen; omega, rfl, rfl⟩⟩

theorem encD_one (l : List Nat) : ∀ u ∈ l.map encD, u.oneCell' = true := fun u hu => by
  obtain ⟨x, _, rfl⟩ := List.mem_map.1 hu
  rfl

set_option maxHeartbeats 2000000 in
theorem bare_F (b off n c : Nat) (l : List Nat) (w : World) (h : Lim w.heap.size w (some ⟨b, off, none⟩) n c l) (hn : n ≤ 4294967296) (hc : ∀ j, j < n → w.cell? ⟨b, off + j, none⟩ = some (.int .u64 ((l[j]?.getD 0 : Nat) : Int))) (hb : 0 < n → b < w.heap.size) :
    Calls Try.prog 63 #[.slice (some ⟨b, off, none⟩) n c] w (GotNF w (val l)) := by
  obtain ⟨i0, hi, hz0, hz1, hz2⟩ := info_parts info24
  obtain ⟨hl, hcap, hdg, _⟩ := h
  have HL := Lib.hid hl
  clear hl
  go_enter Try.func63, Try.ntmps63
  go_wp2
  go_loop [3] (fun v => ∃ k : Nat, k ≤ n ∧ v = .int .i64 (k : Int) ∧ Hid (val (l.take k) = val l)) (fun v => (intOf v).toNat)
  case atStart => exact ⟨n, Nat.le_refl _, rfl, by rw [List.take_of_length_le (by have := HL.out; omega)]; exact Lib.hid rfl⟩
  case round =>
    obtain ⟨k, hk, rfl, hv⟩ := hrel
    by_cases hz : 0 < k ∧ l[k - 1]?.getD 0 = 0
    · obtain ⟨hk0, hz⟩ := hz
      obtain ⟨j, hj⟩ : ∃ j, k = j + 1 := ⟨k - 1, by omega⟩
      subst hj
      rw [Nat.add_sub_cancel] at hz
      have h1 := hc j (by omega)
      have hzb : (((l[j]?.getD 0 : Nat) : Int) == 0) = true := by simp [hz]
      have HZ := Lib.hid hz
      have HC := Lib.hid hc
      clear hz hc
      go_wp2
      go_round
      case rel => exact ⟨j, by omega, by go_num, Lib.hid (val_take_zero HZ.out hv.out)⟩
      case measure => simp [intOf]
    · have hne : 0 < k → l[k - 1]?.getD 0 ≠ 0 := fun h0 h1 => hz ⟨h0, h1⟩
      have ht := take_limbs hdg (by have := HL.out; omega) hv.out hne
      have HT := Lib.hid ht
      have hcells : ∀ (j : Nat) u, ((l.take k).map encD)[j]? = some u → (w.alloc (.cells #[] 48)).cell? ((⟨b, off, none⟩ : Addr).add j) = some u := by
        intro j u hu
        have hj : j < k := by
          have := (List.getElem?_eq_some_iff.1 hu).1
          simp at this; omega
        have hlj : j < l.length := by have := HL.out; omega
        have e1 : ((⟨b, off, none⟩ : Addr).add j) = ⟨b, off + j, none⟩ := by unfold Addr.add; split <;> simp_all
        rw [e1, World.cell?_alloc_lt w _ _ (hb (by omega)), hc j (by omega)]
        rw [List.getElem?_map, List.getElem?_take_of_lt hj, List.getElem?_eq_getElem hlj] at hu
        simp only [List.getElem?_eq_getElem hlj, Option.getD_some]
        exact hu
      have HCE := Lib.hid hcells
      have htest : (k = 0) ∨ (∃ j, k = j + 1 ∧ (((l[j]?.getD 0 : Nat) : Int) == 0) = false ∧ w.cell? ⟨b, off + j, none⟩ = some (.int .u64 ((l[j]?.getD 0 : Nat) : Int))) := by
        rcases Nat.eq_zero_or_pos k with h0 | h0
        · exact .inl h0
        · refine .inr ⟨k - 1, by omega, ?_, hc _ (by omega)⟩
          have := hne h0
          simp; omega
      have hlk : (l.take k).length = k := by rw [List.length_take, Nat.min_eq_left (by have := HL.out; omega)]
      have HLK := Lib.hid hlk
      clear hz hne ht hcells hc hlk
      rcases htest with rfl | ⟨j, rfl, hzb, h1⟩
      · go_wp2_with (at_builtin; go_must (refine wpList_append_own _ rfl _ _ 31 rfl w.heap.size 48 i0 (.int .u64 0) 1 8 Try.underlying31 hi hz0 hz1 hz2 rfl (by decide) _ _ _ rfl (own_empty w w.heap.size (Nat.le_refl _)) ⟨b, off, none⟩ (0) _ ((l.take (0)).map encD) rfl (by have := HLK.out; simp only [List.length_map]; omega) HCE.out (encD_one _) (by unfold maxLen; omega) (by omega) (by simp) ?_); intro v' w1 hown1 hgrow1 _)
        go_ret
        rw [List.nil_append] at hown1
        obtain ⟨A', c', rfl, hl'⟩ := isL_of_own hown1 (hdg.take _)
        have hfr := fresh_of_own hown1
        rw [HT.out] at hl'
        exact ⟨_, _, _, rfl, hl', ((Below.refl _ w).alloc (Nat.le_refl _) _).grown hgrow1 (by simp) (fun q e => by injection (show some w.heap.size = some q from e) with e1; omega), hfr⟩
      · go_wp2_with (at_builtin; go_must (refine wpList_append_own _ rfl _ _ 31 rfl w.heap.size 48 i0 (.int .u64 0) 1 8 Try.underlying31 hi hz0 hz1 hz2 rfl (by decide) _ _ _ rfl (own_empty w w.heap.size (Nat.le_refl _)) ⟨b, off, none⟩ (j + 1) _ ((l.take (j + 1)).map encD) rfl (by have := HLK.out; simp only [List.length_map]; omega) HCE.out (encD_one _) (by unfold maxLen; omega) (by omega) (by simp) ?_); intro v' w1 hown1 hgrow1 _)
        go_ret
        rw [List.nil_append] at hown1
        obtain ⟨A', c', rfl, hl'⟩ := isL_of_own hown1 (hdg.take _)
        have hfr := fresh_of_own hown1
        rw [HT.out] at hl'
        exact ⟨_, _, _, rfl, hl', ((Below.refl _ w).alloc (Nat.le_refl _) _).grown hgrow1 (by simp) (fun q e => by injection (show some w.heap.size = some q from e) with e1; omega), hfr⟩

theorem bare_any (b off n c : Nat) (l : List Nat) (w : World) (h : Lim w.heap.size w (some ⟨b, off, none⟩) n c l) (hn : n ≤ 4294967296) (hc : ∀ j, j < n → w.cell? ⟨b, off + j, none⟩ = some (.int .u64 ((l[j]?.getD 0 : Nat) : Int))) (hb : 0 < n → b < w.heap.size) :
    Calls Try.prog 63 #[.slice (some ⟨b, off, none⟩) n c] w (GotN w (val l)) := (bare_F b off n c l w h hn hc hb).mono fun _ _ h => h.weak

theorem lim_one {x : Nat} (hx : x < B64) (w : World) : Lim (w.alloc (.cells #[.int .u64 (x : Int)] 48)).heap.size (w.alloc (.cells #[.int .u64 (x : Int)] 48)) (some ⟨w.heap.size, 0, none⟩) 1 1 [x] := by
  refine ⟨rfl, Nat.le_refl _, Dig.cons hx Dig.nil, fun _ => ⟨_, _, rfl, by simp, fun j hj => ?_⟩⟩
  obtain rfl : j = 0 := by omega
  exact cell_one_new w _ 48 0 _ rfl

theorem GotN.from {w w1 : World} {x : Nat} {e : Ending} {w' : World} (h : GotN w1 x e w') (hb : Below w.heap.size w w1) : GotN w x e w' := by
  obtain ⟨A, n, c, he, hl, hb'⟩ := h
  exact ⟨A, n, c, he, hl, hb.trans (hb'.mono hb.size)⟩

set_option maxHeartbeats 1000000 in
theorem rof_N (w : World) (x : Nat) (hx : x < B64) : Calls Try.prog 38 #[.int .u64 (x : Int)] w (GotN w x) := by
  have hl := lim_one hx w
  have hv : val [x] = x := by simp [val_cons, val_nil]
  have hB := bare_any w.heap.size 0 1 1 [x] _ hl (by omega) (fun j hj => by
    obtain rfl : j = 0 := by omega
    exact cell_one_new w _ 48 0 _ rfl) (fun _ => by simp)
  rw [hv] at hB
  have HB := Lib.hid hB
  clear hB hl hv
  go_enter Try.func38, Try.ntmps38
  go_wp2_with fail
  refine HB.out.mono ?_
  rintro e w' h
  obtain ⟨A, n, c, rfl, hl, hb⟩ := h.from ((Below.refl _ w).alloc (Nat.le_refl _) _)
  go_wp2_with fail
  go_ret
  exact ⟨A, n, c, rfl, hl, hb⟩

end Go.Proofs.Ytccigpnebejbiaa

/-
  The contracts of the reference's at, halves and whole.
-/
namespace Go.Proofs.Ytccigpnebejbiaa
set_option maxRecDepth 100000
open Go.RowKit

set_option maxHeartbeats 400000 in
theorem at_any (B : Nat) (A : Option Addr) (n c k : Nat) (l : List Nat) (w : World) (h : Lim B w A n c l) (hn : n ≤ 9223372036854775807) (hk : k ≤ 9223372036854775807) :
    Calls Try.prog 85 #[.slice A n c, .int .i64 k] w fun e w' => e = .returned (.int .u64 ((l[k]?.getD 0 : Nat) : Int)) ∧ w = w' := by
  obtain ⟨hl, hcap, hdg, hc⟩ := h
  by_cases hlt : k < n
  · obtain ⟨b, off, rfl, hb, hcell⟩ := hc (by omega)
    have h1 := hcell k hlt
    clear hcell hc hdg
    have HL := Lib.hid hl
    clear hl
    go_enter Try.func85, Try.ntmps85
    go_wp2
    go_ret
    exact ⟨rfl, rfl⟩
  · have hz : l[k]?.getD 0 = 0 := by rw [List.getElem?_eq_none (by omega)]; rfl
    have HZ := Lib.hid hz
    clear hc hdg hl hz
    go_enter Try.func85, Try.ntmps85
    go_wp2
    go_ret
    exact ⟨by rw [HZ.out]; rfl, rfl⟩

theorem tmod_lo (x : Nat) : ((x : Int)).tmod 4294967296 = (loH x : Int) := by
  unfold loH H32
  rw [Int.tmod_eq_emod_of_nonneg (by omega)]
  omega
theorem wrap_hi {x : Nat} (h : x < B64) : IntKind.u64.wrap ((x : Int) / 4294967296) = (hiH x : Int) := by
  rw [IntKind.wrap_u64]
  unfold hiH H32
  unfold B64 at h
  omega

set_option maxRecDepth 100000 in
set_option maxHeartbeats 2000000 in
theorem halves_any (A : Option Addr) (n c : Nat) (l : List Nat) (w : World) (h : Lim w.heap.size w A n c l) (hn : n ≤ 2147483648) :
    Calls Try.prog 68 #[.slice A n c] w fun e w' => ∃ A' c', e = .returned (.slice A' (2 * n) c') ∧ Lim w'.heap.size w' A' (2 * n) c' (halvesL l) ∧ Below w.heap.size w w' := by
  obtain ⟨i0, hi, hz0, hz1, hz2⟩ := info_parts info24
  have HL := Lib.hid h.1
  go_enter Try.func68, Try.ntmps68
  go_wp2
  go_loopw [3, 4] (fun ov iv wr => ∃ k : Nat, k ≤ n ∧ iv = .int .i64 (k : Int) ∧ wr.ownsRow w.heap.size 48 1 ov (2 * k) ((halvesL (l.take k)).map encD) ∧ Below w.heap.size w wr) (fun _ iv _ => n - (intOf iv).toNat)
  case atStart => exact ⟨0, Nat.zero_le _, rfl, own_empty w _ (Nat.le_refl _), (Below.refl _ w).alloc (Nat.le_refl _) _⟩
  case round =>
    obtain ⟨k, hk, rfl, hown, hbl⟩ := hrel
    by_cases hlt : k < n
    · obtain ⟨b, off, rfl, hb, hcell⟩ := (h.below hbl).2.2.2 (by omega)
      have h1 := hcell k hlt
      have hdk : l[k]?.getD 0 < B64 := h.2.2.1.get k
      clear hcell
      have HO := Lib.hid hown
      clear hown
      have hk0 : (0 : Int) ≤ (k : Int) := by omega
      have hkn : (k : Int) < (n : Int) := by omega
      go_wp2
      go_region_law ((refine step_append_lies _ rfl _ _ 30 rfl w.heap.size 48 i0 (.int .u64 0) 1 8 Try.underlying30 hi hz0 hz1 hz2 rfl (by decide) _ _ _ rfl ((HO.out.alloc _).drew) ⟨wr.heap.size, 0, none⟩ 2 2 [.int .u64 (((l[k]?.getD 0 : Nat) : Int).tmod 4294967296), .int .u64 (IntKind.u64.wrap (((l[k]?.getD 0 : Nat) : Int) / 4294967296))] rfl rfl (fun j u h => cell_two_new wr _ _ 48 j u h) (by simp [Value.oneCell']) (by omega) (by unfold maxLen; omega) (by omega) (by simp; have := hbl.size; omega) _ rfl ?_; intro g cap w1 hown1 hgrow1 hat hlt1))
      all_goals
        go_wp2
        go_roundw
        case rel =>
          refine ⟨k + 1, by omega, by go_num, ?_, ?_⟩
          · have e : halvesL (l.take (k + 1)) = halvesL (l.take k) ++ [loH (l[k]?.getD 0), hiH (l[k]?.getD 0)] := by
              have hkl : k < l.length := by have := HL.out; omega
              rw [List.take_succ_eq_append_getElem hkl, halvesL_snoc]
              simp [hkl]
            rw [e, List.map_append]
            rw [tmod_lo, wrap_hi hdk] at hown1
            exact hown1
          · exact (below_drewN (hbl.alloc hbl.size _) 1).grown hgrow1 (by simp; have := hbl.size; omega) (fun q e => (HO.out.lt q e).1)
        case measure => simp [intOf]; omega
    · obtain rfl : k = n := by omega
      go_wp2
      go_ret
      rw [List.take_of_length_le (by have := HL.out; omega)] at hown
      obtain ⟨A', c', rfl, hl'⟩ := isL_of_own hown (halvesL_dig h.2.2.1).dig
      exact ⟨A', c', rfl, hl', hbl⟩

end Go.Proofs.Ytccigpnebejbiaa

/-
  The contract of the reference's whole: figures of 32 bits as a number.
-/
namespace Go.Proofs.Ytccigpnebejbiaa
set_option maxRecDepth 100000
open Go.RowKit

theorem bare_limF {g off n c : Nat} {l : List Nat} {w : World} (h : Lim w.heap.size w (some ⟨g, off, none⟩) n c l) (hn : n ≤ 4294967296) : Calls Try.prog 63 #[.slice (some ⟨g, off, none⟩) n c] w (GotNF w (val l)) := by
  refine bare_F g off n c l w h hn (fun j hj => ?_) (fun h0 => ?_)
  · obtain ⟨b, o, e, _, hc⟩ := h.2.2.2 (by omega)
    injection e with e
    injection e with e1 e2
    subst e1; subst e2
    exact hc j hj
  · obtain ⟨b, o, e, hb, _⟩ := h.2.2.2 h0
    injection e with e
    injection e with e1 e2
    omega

theorem bare_lim {g off n c : Nat} {l : List Nat} {w : World} (h : Lim w.heap.size w (some ⟨g, off, none⟩) n c l) (hn : n ≤ 4294967296) : Calls Try.prog 63 #[.slice (some ⟨g, off, none⟩) n c] w (GotN w (val l)) := (bare_limF h hn).mono fun _ _ h => h.weak

theorem wrap_join {a b : Nat} (ha : a < H32) (hb : b < H32) : IntKind.u64.wrap ((a : Int) + IntKind.u64.wrap ((b : Int) * 4294967296)) = (join a b : Int) := by
  have := join_lt ha hb
  simp only [IntKind.wrap_u64]
  unfold join H32 at *
  unfold B64 at this
  omega

set_option maxRecDepth 100000 in
set_option maxHeartbeats 2000000 in
theorem whole_F (A : Option Addr) (n c : Nat) (l : List Nat) (w : World) (h : Lim w.heap.size w A n c l) (hd : DigH l) (hn : n ≤ 4294967296) :
    Calls Try.prog 69 #[.slice A n c] w (GotNF w (valH l)) := by
  obtain ⟨i0, hi, hz0, hz1, hz2⟩ := info_parts info24
  have HL := Lib.hid h.1
  go_enter Try.func69, Try.ntmps69
  go_wp2
  go_loopw [3, 4] (fun ov iv wr => ∃ k g cap : Nat, 2 * k ≤ n + 1 ∧ iv = .int .i64 ((2 * k : Nat) : Int) ∧ ov = .slice (some ⟨g, 0, none⟩) k cap ∧ wr.ownsRow w.heap.size 48 1 (.slice (some ⟨g, 0, none⟩) k cap) k ((joinL l k).map encD) ∧ Below w.heap.size w wr) (fun _ iv _ => n - (intOf iv).toNat)
  case atStart => exact ⟨0, w.heap.size, 0, by omega, rfl, rfl, own_empty w _ (Nat.le_refl _), (Below.refl _ w).alloc (Nat.le_refl _) _⟩
  case round =>
    obtain ⟨k, g, cap, hk, rfl, rfl, hown, hbl⟩ := hrel
    by_cases hlt : 2 * k < n
    · obtain ⟨b, off, rfl, hb, hcell⟩ := (h.below hbl).2.2.2 (by omega)
      have h1 := hcell (2 * k) hlt
      have hda : l[2 * k]?.getD 0 < H32 := hd.get _
      have hdb : l[2 * k + 1]?.getD 0 < H32 := hd.get _
      have hgl := hown.lt g rfl
      have HO := Lib.hid hown
      clear hown
      by_cases hlt2 : 2 * k + 1 < n
      · have h2 := hcell (2 * k + 1) hlt2
        clear hcell
        go_wp2_with (at_builtin; refine wpList_append_lies _ rfl _ _ 31 rfl w.heap.size 48 i0 (.int .u64 0) 1 8 Try.underlying31 hi hz0 hz1 hz2 rfl (by decide) _ _ _ rfl (HO.out.alloc _) ⟨wr.heap.size, 0, none⟩ 1 1 [.int .u64 (IntKind.u64.wrap (((l[2 * k]?.getD 0 : Nat) : Int) + IntKind.u64.wrap (((l[2 * k + 1]?.getD 0 : Nat) : Int) * 4294967296)))] rfl rfl (cell_one_new _ _ _) (by simp [Value.oneCell']) (by omega) (by unfold maxLen; omega) (by omega) (by simp; have := hbl.size; omega) _ rfl ?_; intro g1 cap1 w1 hown1 hgrow1 hat hlt1)
        go_roundw
        case rel =>
          refine ⟨k + 1, g1, cap1, by omega, by go_num, rfl, ?_, ?_⟩
          · rw [joinL_succ, List.map_append]
            rw [wrap_join hda hdb] at hown1
            exact hown1
          · exact (hbl.alloc hbl.size _).grown hgrow1 (by simp; have := hbl.size; omega) (fun q e => by injection (show some g = some q from e) with e1; omega)
        case measure => simp [intOf]; omega
      · clear hcell
        have hz1' : l[2 * k + 1]?.getD 0 = 0 := by rw [List.getElem?_eq_none (by have := HL.out; omega)]; rfl
        have HZ := Lib.hid hz1'
        clear hz1'
        go_wp2_with (at_builtin; refine wpList_append_lies _ rfl _ _ 31 rfl w.heap.size 48 i0 (.int .u64 0) 1 8 Try.underlying31 hi hz0 hz1 hz2 rfl (by decide) _ _ _ rfl (HO.out.alloc _) ⟨wr.heap.size, 0, none⟩ 1 1 [.int .u64 ((l[2 * k]?.getD 0 : Nat) : Int)] rfl rfl (cell_one_new _ _ _) (by simp [Value.oneCell']) (by omega) (by unfold maxLen; omega) (by omega) (by simp; have := hbl.size; omega) _ rfl ?_; intro g1 cap1 w1 hown1 hgrow1 hat hlt1)
        go_roundw
        case rel =>
          refine ⟨k + 1, g1, cap1, by omega, by go_num, rfl, ?_, ?_⟩
          · rw [joinL_succ, List.map_append]
            rw [show join (l[2 * k]?.getD 0) (l[2 * k + 1]?.getD 0) = l[2 * k]?.getD 0 from by rw [HZ.out]; simp [join]]
            exact hown1
          · exact (hbl.alloc hbl.size _).grown hgrow1 (by simp; have := hbl.size; omega) (fun q e => by injection (show some g = some q from e) with e1; omega)
        case measure => simp [intOf]; omega
    · have hlim := Lim.of_own hown (joinL_dig hd k)
      have hv : val (joinL l k) = valH l := by rw [joinL_val, List.take_of_length_le (by have := HL.out; omega)]
      have HV := Lib.hid hv
      clear hv hown
      go_wp2_with fail
      refine (bare_limF hlim (by omega)).mono ?_
      rintro e w1 ⟨A1, n1, c1, rfl, hl1, b1, f1⟩
      go_wp2_with fail
      go_ret
      rw [HV.out] at hl1
      exact ⟨A1, n1, c1, rfl, hl1, hbl.trans (b1.mono hbl.size), f1.mono hbl.size⟩

theorem whole_any (A : Option Addr) (n c : Nat) (l : List Nat) (w : World) (h : Lim w.heap.size w A n c l) (hd : DigH l) (hn : n ≤ 4294967296) :
    Calls Try.prog 69 #[.slice A n c] w (GotN w (valH l)) := (whole_F A n c l w h hd hn).mono fun _ _ h => h.weak

end Go.Proofs.Ytccigpnebejbiaa

/-
  The contract of the reference's Add.
-/
namespace Go.Proofs.Ytccigpnebejbiaa
set_option maxRecDepth 100000
open Go.RowKit

attribute [local go_sem ↓] mx_run

/-- A call has answered a slice of figures, and nothing that was there has changed. -/
def GotF (w : World) (l : List Nat) (e : Ending) (w' : World) : Prop := ∃ A n c, e = .returned (.slice A n c) ∧ Lim w'.heap.size w' A n c l ∧ Below w.heap.size w w'
theorem halves_F {w : World} {A : Option Addr} {n c x : Nat} (h : Num w A n c x) (hx : (limbs x).length ≤ 2147483648) : Calls Try.prog 68 #[.slice A n c] w (GotF w (halvesL (limbs x))) :=
  (halves_any A n c _ w h (by rw [h.len]; exact hx)).mono fun _ _ ⟨A', c', he, hl, hb⟩ => ⟨A', _, c', he, hl, hb⟩
theorem Lim.on {w w' : World} {A : Option Addr} {n c : Nat} {l : List Nat} (h : Lim w.heap.size w A n c l) (hb : Below w.heap.size w w') : Lim w'.heap.size w' A n c l := (h.below hb).more hb.size

theorem radd_lo (a b c : Nat) : (IntKind.u64.wrap (IntKind.u64.wrap ((a : Int) + (b : Int)) + (c : Int))).tmod 4294967296 = (loH (a + b + c) : Int) := by
  simp only [IntKind.wrap_u64]
  rw [Int.tmod_eq_emod_of_nonneg (by omega)]
  unfold loH H32
  omega
theorem radd_hi {a b c : Nat} (ha : a < H32) (hb : b < H32) (hc : c ≤ 1) : IntKind.u64.wrap ((IntKind.u64.wrap (IntKind.u64.wrap ((a : Int) + (b : Int)) + (c : Int))).tdiv 4294967296) = (hiH (a + b + c) : Int) := by
  simp only [IntKind.wrap_u64]
  rw [Int.tdiv_eq_ediv_of_nonneg (by omega)]
  unfold hiH
  unfold H32 at *
  omega

/-- What has been reckoned when k figures are done: the figures D and the carry c. -/
def AddAt (la lb D : List Nat) (k c : Nat) : Prop := DigH D ∧ D.length = k ∧ c ≤ 1 ∧ valH D + H32 ^ k * c = valH (la.take k) + valH (lb.take k)
theorem AddAt.start (la lb : List Nat) : AddAt la lb [] 0 0 := ⟨DigH.nil, rfl, by omega, by simp [valH_nil]⟩
theorem AddAt.step {la lb D : List Nat} {k c : Nat} (ha : DigH la) (hb : DigH lb) (h : AddAt la lb D k c) :
    AddAt la lb (D ++ [loH (la[k]?.getD 0 + lb[k]?.getD 0 + c)]) (k + 1) (hiH (la[k]?.getD 0 + lb[k]?.getD 0 + c)) := by
  obtain ⟨h1, h2, h3, h4⟩ := h
  refine ⟨h1.snoc (loH_lt _), by simp [h2], div_le_one (ha.get k) (hb.get k) h3, ?_⟩
  rw [valH_snoc, h2, valH_take_succ, valH_take_succ, Nat.pow_succ, Nat.mul_assoc]
  have hs := half_split (la[k]?.getD 0 + lb[k]?.getD 0 + c)
  generalize loH (la[k]?.getD 0 + lb[k]?.getD 0 + c) = lo at *
  generalize hiH (la[k]?.getD 0 + lb[k]?.getD 0 + c) = hi at *
  have h5 : H32 ^ k * lo + H32 ^ k * (H32 * hi) = H32 ^ k * la[k]?.getD 0 + H32 ^ k * lb[k]?.getD 0 + H32 ^ k * c := by
    rw [← Nat.mul_add, hs, Nat.mul_add, Nat.mul_add]
  omega
theorem AddAt.done {la lb D : List Nat} {c N : Nat} (ha : DigH la) (hb : DigH lb) (hN : max la.length lb.length ≤ N) (h : AddAt la lb D (N + 1) c) : valH D = valH la + valH lb := by
  obtain ⟨h1, h2, h3, h4⟩ := h
  rw [List.take_of_length_le (by omega), List.take_of_length_le (by omega)] at h4
  have h5 := Nat.lt_of_lt_of_le (valH_lt ha) (Nat.pow_le_pow_right (n := H32) H32_pos (show la.length ≤ N by omega))
  have h6 := Nat.lt_of_lt_of_le (valH_lt hb) (Nat.pow_le_pow_right (n := H32) H32_pos (show lb.length ≤ N by omega))
  have hc : c = 0 ∨ c = 1 := by omega
  have hg : 2 ≤ H32 := by have := H32_gt; omega
  rw [Nat.pow_succ] at h4
  generalize H32 ^ N = P at *
  generalize H32 = Q at *
  have h8 : P * 2 ≤ P * Q := Nat.mul_le_mul_left _ hg
  rcases hc with rfl | rfl
  · rw [Nat.mul_zero, Nat.add_zero] at h4; exact h4
  · rw [Nat.mul_one] at h4; omega

set_option maxRecDepth 100000 in
set_option maxHeartbeats 4000000 in
theorem radd_F {w : World} {A B : Option Addr} {n c m d x y : Nat} (ha : Num w A n c x) (hb : Num w B m d y) (hx : (limbs x).length ≤ 1000000) (hy : (limbs y).length ≤ 1000000) : Calls Try.prog 59 #[.slice A n c, .slice B m d] w (GotNF w (x + y)) := by
  obtain ⟨i0, hi, hz0, hz1, hz2⟩ := info_parts info24
  go_enter Try.func59, Try.ntmps59
  go_wp2_with fail
  refine (halves_F ha (by omega)).mono ?_
  rintro e w1 ⟨A1, n1, c1, rfl, h1, b1⟩
  go_wp2_with fail
  refine (halves_F (hb.on b1) (by omega)).mono ?_
  rintro e w2 ⟨A2, n2, c2, rfl, h2, b2⟩
  replace h1 := h1.on b2
  have cc := b1.trans (b2.mono b1.size)
  clear b1 b2 ha hb
  have hv1 : valH (halvesL (limbs x)) = x := by rw [halvesL_val, val_limbs]
  have hv2 : valH (halvesL (limbs y)) = y := by rw [halvesL_val, val_limbs]
  have hd1 := halvesL_dig (limbs_dig x)
  have hd2 := halvesL_dig (limbs_dig y)
  have hn1 : n1 ≤ 2000000 := by have := h1.1; rw [halvesL_length] at this; omega
  have hn2 : n2 ≤ 2000000 := by have := h2.1; rw [halvesL_length] at this; omega
  have hE : valH (halvesL (limbs x)) + valH (halvesL (limbs y)) = x + y := by rw [hv1, hv2]
  have HE := Lib.hid hE
  clear hv1 hv2 hx hy hE
  generalize halvesL (limbs x) = la at *
  generalize halvesL (limbs y) = lb at *
  have hmx : mx n1 n2 ≤ 2000000 := by unfold mx; omega
  have hmm : max la.length lb.length ≤ mx n1 n2 := by have := h1.1; have := h2.1; unfold mx; omega
  have HM := Lib.hid hmm
  clear hmm
  go_wp2_with fail
  go_loopw [7, 8, 9] (fun ov cv iv wr => ∃ (k : Nat) (v : Nat) (D : List Nat) (g cap : Nat), k ≤ mx n1 n2 + 1 ∧ iv = .int .i64 (k : Int) ∧ cv = .int .u64 (v : Int) ∧ ov = .slice (some ⟨g, 0, none⟩) k cap ∧ AddAt la lb D k v ∧ wr.ownsRow w2.heap.size 48 1 (.slice (some ⟨g, 0, none⟩) k cap) k (D.map encD) ∧ Below w2.heap.size w2 wr) (fun _ _ iv _ => mx n1 n2 + 1 - (intOf iv).toNat)
  case atStart => exact ⟨0, 0, [], w2.heap.size, 0, by omega, rfl, rfl, rfl, AddAt.start _ _, own_empty w2 _ (Nat.le_refl _), (Below.refl _ w2).alloc (Nat.le_refl _) _⟩
  case round =>
    obtain ⟨k, v, D, g, cap, hk, rfl, rfl, rfl, hA, hown, hbl⟩ := hrel
    by_cases hlt : k < mx n1 n2 + 1
    · have hp := hd1.get k
      have hq := hd2.get k
      have hv1 : v ≤ 1 := hA.2.2.1
      have hgl := hown.lt g rfl
      have HA := Lib.hid hA
      have HO := Lib.hid hown
      clear hA hown
      go_wp2_with fail
      refine (at_any _ _ _ _ _ _ _ (h1.on hbl) (by omega) (by omega)).mono ?_
      rintro e w3 ⟨rfl, rfl⟩
      go_wp2_with fail
      refine (at_any _ _ _ _ _ _ _ (h2.on hbl) (by omega) (by omega)).mono ?_
      rintro e w3 ⟨rfl, rfl⟩
      go_wp2_with (at_builtin; refine wpList_append_lies _ rfl _ _ 30 rfl w2.heap.size 48 i0 (.int .u64 0) 1 8 Try.underlying30 hi hz0 hz1 hz2 rfl (by decide) _ _ _ rfl (HO.out.alloc _) ⟨wr.heap.size, 0, none⟩ 1 1 [.int .u64 ((IntKind.u64.wrap (IntKind.u64.wrap (((la[k]?.getD 0 : Nat) : Int) + ((lb[k]?.getD 0 : Nat) : Int)) + (v : Int))).tmod 4294967296)] rfl rfl (cell_one_new _ _ _) (by simp [Value.oneCell']) (by omega) (by unfold maxLen; omega) (by omega) (by simp; have := hbl.size; omega) _ rfl ?_; intro g1 cap1 w4 hown1 hgrow1 hat hlt1)
      go_roundw
      case rel =>
        refine ⟨k + 1, hiH (la[k]?.getD 0 + lb[k]?.getD 0 + v), _, g1, cap1, by omega, by go_num, by rw [radd_hi hp hq hv1], rfl, HA.out.step hd1 hd2, ?_, ?_⟩
        · rw [radd_lo] at hown1
          rw [List.map_append]
          exact hown1
        · exact (hbl.alloc hbl.size _).grown hgrow1 (by simp; have := hbl.size; omega) (fun q e => by injection (show some g = some q from e) with e1; omega)
      case measure => simp [intOf]; omega
    · obtain rfl : k = mx n1 n2 + 1 := by omega
      have hlim := Lim.of_own hown hA.1.dig
      have hD := hA.1
      have hval := hA.done hd1 hd2 HM.out
      rw [HE.out] at hval
      have HV := Lib.hid hval
      clear hval hA hown
      go_wp2_with fail
      refine (whole_F _ _ _ _ _ hlim hD (by omega)).mono ?_
      rintro e w3 ⟨A3, n3, c3, rfl, h3, b3, f3⟩
      go_wp2_with fail
      go_ret
      rw [HV.out] at h3
      exact ⟨A3, n3, c3, rfl, h3, cc.trans ((hbl.trans (b3.mono hbl.size)).mono cc.size), f3.mono (Nat.le_trans cc.size hbl.size)⟩

theorem radd_N {w : World} {A B : Option Addr} {n c m d x y : Nat} (ha : Num w A n c x) (hb : Num w B m d y) (hx : (limbs x).length ≤ 1000000) (hy : (limbs y).length ≤ 1000000) : Calls Try.prog 59 #[.slice A n c, .slice B m d] w (GotN w (x + y)) := (radd_F ha hb hx hy).mono fun _ _ h => h.weak

end Go.Proofs.Ytccigpnebejbiaa

/-
  The contract of the reference's Sub.
-/
namespace Go.Proofs.Ytccigpnebejbiaa
set_option maxRecDepth 100000
open Go.RowKit

/-- A figure of a difference, and the borrow. -/
def dLo (a b c : Nat) : Nat := (H32 + a - b - c) % H32
def dHi (a b c : Nat) : Nat := 1 - (H32 + a - b - c) / H32
theorem dLo_lt (a b c : Nat) : dLo a b c < H32 := Nat.mod_lt _ H32_pos
theorem dHi_le (a b c : Nat) : dHi a b c ≤ 1 := Nat.sub_le _ _
theorem d_split {a b c : Nat} (ha : a < H32) (hb : b < H32) (hc : c ≤ 1) : dLo a b c + b + c = a + H32 * dHi a b c := by
  unfold dLo dHi
  unfold H32 at *
  omega
theorem rsub_lo {a b c : Nat} (hb : b < H32) (hc : c ≤ 1) : (IntKind.u64.wrap (IntKind.u64.wrap (IntKind.u64.wrap (4294967296 + (a : Int)) - (b : Int)) - (c : Int))).tmod 4294967296 = (dLo a b c : Int) := by
  simp only [IntKind.wrap_u64]
  rw [Int.tmod_eq_emod_of_nonneg (by omega)]
  unfold dLo
  unfold H32 at *
  omega
theorem rsub_hi {a b c : Nat} (ha : a < H32) (hb : b < H32) (hc : c ≤ 1) : IntKind.u64.wrap (1 - IntKind.u64.wrap ((IntKind.u64.wrap (IntKind.u64.wrap (IntKind.u64.wrap (4294967296 + (a : Int)) - (b : Int)) - (c : Int))).tdiv 4294967296)) = (dHi a b c : Int) := by
  simp only [IntKind.wrap_u64]
  rw [Int.tdiv_eq_ediv_of_nonneg (by omega)]
  unfold dHi
  unfold H32 at *
  omega

def SubAt (la lb D : List Nat) (k c : Nat) : Prop := DigH D ∧ D.length = k ∧ c ≤ 1 ∧ valH D + valH (lb.take k) = valH (la.take k) + H32 ^ k * c
theorem SubAt.start (la lb : List Nat) : SubAt la lb [] 0 0 := ⟨DigH.nil, rfl, by omega, by simp [valH_nil]⟩
theorem SubAt.step {la lb D : List Nat} {k c : Nat} (ha : DigH la) (hb : DigH lb) (h : SubAt la lb D k c) :
    SubAt la lb (D ++ [dLo (la[k]?.getD 0) (lb[k]?.getD 0) c]) (k + 1) (dHi (la[k]?.getD 0) (lb[k]?.getD 0) c) := by
  obtain ⟨h1, h2, h3, h4⟩ := h
  refine ⟨h1.snoc (dLo_lt _ _ _), by simp [h2], dHi_le _ _ _, ?_⟩
  rw [valH_snoc, h2, valH_take_succ, valH_take_succ, Nat.pow_succ, Nat.mul_assoc]
  have hs := d_split (ha.get k) (hb.get k) h3
  generalize dLo (la[k]?.getD 0) (lb[k]?.getD 0) c = lo at *
  generalize dHi (la[k]?.getD 0) (lb[k]?.getD 0) c = hi at *
  have h5 : H32 ^ k * lo + H32 ^ k * lb[k]?.getD 0 + H32 ^ k * c = H32 ^ k * la[k]?.getD 0 + H32 ^ k * (H32 * hi) := by
    rw [← Nat.mul_add, ← Nat.mul_add, hs, Nat.mul_add]
  omega
theorem SubAt.done {la lb D : List Nat} {c : Nat} (hl : lb.length ≤ la.length) (hle : valH lb ≤ valH la) (h : SubAt la lb D la.length c) : valH D = valH la - valH lb := by
  obtain ⟨h1, h2, h3, h4⟩ := h
  rw [List.take_of_length_le (by omega), List.take_of_length_le (by omega)] at h4
  have h5 := valH_lt h1
  rw [h2] at h5
  generalize H32 ^ la.length = P at *
  rcases (by omega : c = 0 ∨ c = 1) with rfl | rfl
  · rw [Nat.mul_zero, Nat.add_zero] at h4; omega
  · rw [Nat.mul_one] at h4; omega

theorem at_same (B : Nat) (A : Option Addr) (n c k : Nat) (l : List Nat) (w : World) (h : Lim B w A n c l) (hn : n ≤ 9223372036854775807) (hk : k ≤ 9223372036854775807) :
    Calls Try.prog 85 #[.slice A n c, .int .i64 k] w fun e w' => e = .returned (.int .u64 ((l[k]?.getD 0 : Nat) : Int)) ∧ w' = w :=
  (at_any B A n c k l w h hn hk).mono fun _ _ ⟨he, hw⟩ => ⟨he, hw.symm⟩

set_option maxRecDepth 100000 in
set_option maxHeartbeats 4000000 in
theorem rsub_F {w : World} {A B : Option Addr} {n c m d x y : Nat} (ha : Num w A n c x) (hb : Num w B m d y) (hx : (limbs x).length ≤ 1000000) (hy : (limbs y).length ≤ 1000000) (hle : y ≤ x) : Calls Try.prog 88 #[.slice A n c, .slice B m d] w (GotPF w (x - y) 0) := by
  obtain ⟨i0, hi, hz0, hz1, hz2⟩ := info_parts info24
  have hcm : ¬ cmpN x y < 0 := by
    rcases Nat.lt_or_ge y x with h | h
    · rw [cmpN_gt h]; omega
    · rw [cmpN_zero.2 (by omega)]; omega
  have hll : (halvesL (limbs y)).length ≤ (halvesL (limbs x)).length := by rw [halvesL_length, halvesL_length]; have := limbs_length_mono hle; omega
  go_enter Try.func88, Try.ntmps88
  go_wp2_with fail
  refine (rcmp_N ha hb (by omega) (by omega)).mono ?_
  rintro e w0 ⟨rfl, b0⟩
  replace ha := ha.on b0
  replace hb := hb.on b0
  go_wp2_with fail
  refine (halves_F ha (by omega)).mono ?_
  rintro e w1 ⟨A1, n1, c1, rfl, h1, b1⟩
  go_wp2_with fail
  refine (halves_F (hb.on b1) (by omega)).mono ?_
  rintro e w2 ⟨A2, n2, c2, rfl, h2, b2⟩
  replace h1 := h1.on b2
  have cc := b0.trans ((b1.trans (b2.mono b1.size)).mono b0.size)
  clear b0 b1 b2 ha hb
  have hv1 : valH (halvesL (limbs x)) = x := by rw [halvesL_val, val_limbs]
  have hv2 : valH (halvesL (limbs y)) = y := by rw [halvesL_val, val_limbs]
  have hd1 := halvesL_dig (limbs_dig x)
  have hd2 := halvesL_dig (limbs_dig y)
  have hn1 : n1 ≤ 2000000 := by have := h1.1; rw [halvesL_length] at this; omega
  have hn2 : n2 ≤ 2000000 := by have := h2.1; rw [halvesL_length] at this; omega
  have hle' : valH (halvesL (limbs y)) ≤ valH (halvesL (limbs x)) := by rw [hv1, hv2]; exact hle
  have hE : valH (halvesL (limbs x)) - valH (halvesL (limbs y)) = x - y := by rw [hv1, hv2]
  have HE := Lib.hid hE
  have HLE := Lib.hid hle'
  have HLL := Lib.hid hll
  have HN1 := Lib.hid h1.1
  clear hv1 hv2 hx hy hE hle' hll hle hcm
  generalize halvesL (limbs x) = la at *
  generalize halvesL (limbs y) = lb at *
  go_wp2_with fail
  go_loopw [8, 9, 10] (fun ov cv iv wr => ∃ (k : Nat) (v : Nat) (D : List Nat) (g cap : Nat), k ≤ n1 ∧ iv = .int .i64 (k : Int) ∧ cv = .int .u64 (v : Int) ∧ ov = .slice (some ⟨g, 0, none⟩) k cap ∧ SubAt la lb D k v ∧ wr.ownsRow w2.heap.size 48 1 (.slice (some ⟨g, 0, none⟩) k cap) k (D.map encD) ∧ Below w2.heap.size w2 wr) (fun _ _ iv _ => n1 - (intOf iv).toNat)
  case atStart => exact ⟨0, 0, [], w2.heap.size, 0, by omega, rfl, rfl, rfl, SubAt.start _ _, own_empty w2 _ (Nat.le_refl _), (Below.refl _ w2).alloc (Nat.le_refl _) _⟩
  case round =>
    obtain ⟨k, v, D, g, cap, hk, rfl, rfl, rfl, hA, hown, hbl⟩ := hrel
    by_cases hlt : k < n1
    · have hp := hd1.get k
      have hq := hd2.get k
      have hv1 : v ≤ 1 := hA.2.2.1
      have hgl := hown.lt g rfl
      obtain ⟨b, off, rfl, hbb, hcell⟩ := (h1.on hbl).2.2.2 (by omega)
      have hck := hcell k hlt
      have HA := Lib.hid hA
      have HO := Lib.hid hown
      have h2' := h2.on hbl
      have hk0 : (0 : Int) ≤ (k : Int) := by omega
      have hkn : (k : Int) < (n1 : Int) := by omega
      clear hA hown hcell
      go_wp2_with fail
      go_quiet ((go_at_call 85; exact Calls.quiet_of_same (at_same _ _ _ _ _ _ _ h2' (by omega) (by omega))))
      go_wp2_with (at_builtin; go_must (refine wpList_append_lies _ rfl _ _ 30 rfl w2.heap.size 48 i0 (.int .u64 0) 1 8 Try.underlying30 hi hz0 hz1 hz2 rfl (by decide) _ _ _ rfl (by exact HO.out.alloc _) ⟨wr.heap.size, 0, none⟩ 1 1 [.int .u64 ((IntKind.u64.wrap (IntKind.u64.wrap (IntKind.u64.wrap (4294967296 + ((la[k]?.getD 0 : Nat) : Int)) - ((lb[k]?.getD 0 : Nat) : Int)) - (v : Int))).tmod 4294967296)] rfl rfl (fun j u h => cell_one_new wr _ 48 j u h) (by simp [Value.oneCell']) (by omega) (by unfold maxLen; omega) (by omega) (by simp; have := hbl.size; omega) _ rfl ?_); intro g1 cap1 w4 hown1 hgrow1 hat hlt1)
      go_roundw
      case rel =>
        refine ⟨k + 1, dHi (la[k]?.getD 0) (lb[k]?.getD 0) v, _, g1, cap1, by omega, by go_num, by rw [rsub_hi hp hq hv1], rfl, HA.out.step hd1 hd2, ?_, ?_⟩
        · rw [rsub_lo hq hv1] at hown1
          rw [List.map_append]
          exact hown1
        · exact (below_drewN (hbl.alloc hbl.size _) nq).grown hgrow1 (by simp; have := hbl.size; omega) (fun q e => by injection (show some g = some q from e) with e1; omega)
      case measure => simp [intOf]; omega
    · obtain rfl : k = n1 := by omega
      have hlim := Lim.of_own hown hA.1.dig
      have hD := hA.1
      have hA' := hA
      rw [HN1.out] at hA'
      have hval := hA'.done HLL.out HLE.out
      rw [HE.out] at hval
      have HV := Lib.hid hval
      clear hval hA hown hA'
      go_wp2_with fail
      refine (whole_F _ _ _ _ _ hlim hD (by omega)).mono ?_
      rintro e w3 ⟨A3, n3, c3, rfl, h3, b3, f3⟩
      go_wp2_with fail
      go_ret2
      rw [HV.out] at h3
      exact ⟨A3, n3, c3, rfl, h3, cc.trans ((hbl.trans (b3.mono hbl.size)).mono cc.size), f3.mono (Nat.le_trans cc.size hbl.size)⟩

theorem rsub_N {w : World} {A B : Option Addr} {n c m d x y : Nat} (ha : Num w A n c x) (hb : Num w B m d y) (hx : (limbs x).length ≤ 1000000) (hy : (limbs y).length ≤ 1000000) (hle : y ≤ x) : Calls Try.prog 88 #[.slice A n c, .slice B m d] w (GotP w (x - y) 0) := (rsub_F ha hb hx hy hle).mono fun _ _ h => h.weak

set_option maxHeartbeats 1000000 in
theorem rsub_less_N {w : World} {A B : Option Addr} {n c m d x y : Nat} (ha : Num w A n c x) (hb : Num w B m d y) (hx : (limbs x).length ≤ 1000000) (hy : (limbs y).length ≤ 1000000) (hlt : x < y) : Calls Try.prog 88 #[.slice A n c, .slice B m d] w (GotV w (.tuple #[.slice none 0 0, .int .i64 2])) := by
  have hcm : cmpN x y < 0 := by rw [cmpN_lt hlt]; omega
  go_enter Try.func88, Try.ntmps88
  go_wp2_with fail
  refine (rcmp_N ha hb (by omega) (by omega)).mono ?_
  rintro e w0 ⟨rfl, b0⟩
  go_wp2_with fail
  go_ret2
  exact ⟨rfl, b0⟩

end Go.Proofs.Ytccigpnebejbiaa

/-
  The contract of the reference's Mul.
-/
namespace Go.Proofs.Ytccigpnebejbiaa
set_option maxRecDepth 100000
open Go.RowKit

/-- A product of figures, a figure and a carry, in two parts. -/
def pLo (x y q c : Nat) : Nat := (q + x * y + c) % H32
def pHi (x y q c : Nat) : Nat := (q + x * y + c) / H32
theorem pLo_lt (x y q c : Nat) : pLo x y q c < H32 := Nat.mod_lt _ H32_pos
theorem p_split (x y q c : Nat) : pLo x y q c + H32 * pHi x y q c = q + x * y + c := Nat.mod_add_div _ _
theorem p_bound {x y q c : Nat} (hx : x < H32) (hy : y < H32) (hq : q < H32) (hc : c < H32) : q + x * y + c < B64 := by
  have h1 : x * y ≤ (H32 - 1) * (H32 - 1) := Nat.mul_le_mul (by omega) (by omega)
  have h2 : (H32 - 1) * (H32 - 1) + (H32 - 1) + (H32 - 1) < B64 := by unfold H32 B64; omega
  omega
theorem pHi_lt {x y q c : Nat} (hx : x < H32) (hy : y < H32) (hq : q < H32) (hc : c < H32) : pHi x y q c < H32 := by
  unfold pHi
  rw [Nat.div_lt_iff_lt_mul H32_pos, H32_sq]
  exact p_bound hx hy hq hc
theorem p_wrap {x y q c : Nat} (hx : x < H32) (hy : y < H32) (hq : q < H32) (hc : c < H32) :
    IntKind.u64.wrap (IntKind.u64.wrap ((q : Int) + IntKind.u64.wrap ((x : Int) * (y : Int))) + (c : Int)) = ((q + x * y + c : Nat) : Int) := by
  have h := p_bound hx hy hq hc
  simp only [IntKind.wrap_u64]
  have e : (x : Int) * (y : Int) = ((x * y : Nat) : Int) := by simp
  rw [e]
  generalize x * y = p at *
  unfold B64 at h
  omega
theorem rmul_lo {x y q c : Nat} (hx : x < H32) (hy : y < H32) (hq : q < H32) (hc : c < H32) :
    (IntKind.u64.wrap (IntKind.u64.wrap ((q : Int) + IntKind.u64.wrap ((x : Int) * (y : Int))) + (c : Int))).tmod 4294967296 = (pLo x y q c : Int) := by
  rw [p_wrap hx hy hq hc, tmod_lo]
  rfl
theorem rmul_hi {x y q c : Nat} (hx : x < H32) (hy : y < H32) (hq : q < H32) (hc : c < H32) :
    IntKind.u64.wrap ((IntKind.u64.wrap (IntKind.u64.wrap ((q : Int) + IntKind.u64.wrap ((x : Int) * (y : Int))) + (c : Int))).tdiv 4294967296) = (pHi x y q c : Int) := by
  rw [p_wrap hx hy hq hc, Int.tdiv_eq_ediv_of_nonneg (by omega), wrap_hi (p_bound hx hy hq hc)]
  rfl

/-- What has been reckoned when k figures of one line are done: the row Q and the carry c. -/
def LineAt (P Q : List Nat) (i k x : Nat) (l : List Nat) (c : Nat) : Prop :=
  DigH Q ∧ Q.length = P.length ∧ c < H32 ∧ (∀ j, i + k ≤ j → Q[j]?.getD 0 = P[j]?.getD 0) ∧ valH Q + H32 ^ (i + k) * c = valH P + H32 ^ i * (x * valH (l.take k))
theorem LineAt.start {P : List Nat} (h : DigH P) (i x : Nat) (l : List Nat) : LineAt P P i 0 x l 0 := ⟨h, rfl, H32_pos, fun _ _ => rfl, by simp [valH_nil]⟩
theorem LineAt.step {P Q l : List Nat} {i k x c : Nat} (h : LineAt P Q i k x l c) (hx : x < H32) (hl : DigH l) (hk : i + k < P.length) :
    LineAt P (Q.set (i + k) (pLo x (l[k]?.getD 0) (Q[i + k]?.getD 0) c)) i (k + 1) x l (pHi x (l[k]?.getD 0) (Q[i + k]?.getD 0) c) := by
  obtain ⟨hd, hlen, hc, hsame, hv⟩ := h
  refine ⟨hd.set _ (pLo_lt _ _ _ _), by rw [List.length_set, hlen], pHi_lt hx (hl.get k) (hd.get _) hc, fun j hj => ?_, ?_⟩
  · rw [List.getElem?_set_ne (by omega)]; exact hsame j (by omega)
  · have hs := valH_set (l := Q) (k := i + k) (by omega) (pLo x (l[k]?.getD 0) (Q[i + k]?.getD 0) c)
    have hm := p_split x (l[k]?.getD 0) (Q[i + k]?.getD 0) c
    rw [valH_take_succ, ← Nat.add_assoc, Nat.pow_succ, Nat.mul_assoc]
    generalize pLo x (l[k]?.getD 0) (Q[i + k]?.getD 0) c = lo at *
    generalize pHi x (l[k]?.getD 0) (Q[i + k]?.getD 0) c = hi at *
    generalize Q[i + k]?.getD 0 = q at *
    generalize l[k]?.getD 0 = y at *
    have h1 : H32 ^ (i + k) * lo + H32 ^ (i + k) * (H32 * hi) = H32 ^ (i + k) * q + H32 ^ (i + k) * (x * y) + H32 ^ (i + k) * c := by
      rw [← Nat.mul_add, hm, Nat.mul_add, Nat.mul_add]
    have h2 : H32 ^ i * (x * (valH (l.take k) + H32 ^ k * y)) = H32 ^ i * (x * valH (l.take k)) + H32 ^ (i + k) * (x * y) := by
      rw [Nat.mul_add, Nat.mul_add, Nat.pow_add]
      have : H32 ^ i * (x * (H32 ^ k * y)) = H32 ^ i * H32 ^ k * (x * y) := by ac_rfl
      rw [this]
    rw [h2]
    omega
theorem LineAt.done {P Q l : List Nat} {i x c m : Nat} (hml : m = l.length) (h : LineAt P Q i m x l c) (hk : i + m < P.length) (hz : P[i + m]?.getD 0 = 0) :
    DigH (Q.set (i + m) c) ∧ (Q.set (i + m) c).length = P.length ∧ (∀ j, i + m < j → (Q.set (i + m) c)[j]?.getD 0 = P[j]?.getD 0) ∧ valH (Q.set (i + m) c) = valH P + H32 ^ i * (x * valH l) := by
  obtain ⟨hd, hlen, hc, hsame, hv⟩ := h
  refine ⟨hd.set _ hc, by rw [List.length_set, hlen], fun j hj => ?_, ?_⟩
  · rw [List.getElem?_set_ne (by omega)]; exact hsame j (by omega)
  · have hs := valH_set (l := Q) (k := i + m) (by omega) c
    rw [hsame _ (Nat.le_refl _), hz, Nat.mul_zero, Nat.add_zero] at hs
    rw [List.take_of_length_le (by omega)] at hv
    omega

set_option maxRecDepth 100000 in
set_option maxHeartbeats 4000000 in
theorem rmul_N {w : World} {A B : Option Addr} {n c m d x y : Nat} (ha : Num w A n c x) (hb : Num w B m d y) (hx : (limbs x).length ≤ 1000000) (hy : (limbs y).length ≤ 1000000) : Calls Try.prog 43 #[.slice A n c, .slice B m d] w (GotN w (x * y)) := by
  obtain ⟨i0, hi, hz0, hz1, hz2⟩ := info_parts info24
  go_enter Try.func43, Try.ntmps43
  go_wp2_with fail
  refine (halves_F ha (by omega)).mono ?_
  rintro e w1 ⟨A1, n1, c1, rfl, h1, b1⟩
  go_wp2_with fail
  refine (halves_F (hb.on b1) (by omega)).mono ?_
  rintro e w2 ⟨A2, n2, c2, rfl, h2, b2⟩
  replace h1 := h1.on b2
  have cc := b1.trans (b2.mono b1.size)
  clear b1 b2 ha hb
  have hv1 : valH (halvesL (limbs x)) = x := by rw [halvesL_val, val_limbs]
  have hv2 : valH (halvesL (limbs y)) = y := by rw [halvesL_val, val_limbs]
  have hd1 := halvesL_dig (limbs_dig x)
  have hd2 := halvesL_dig (limbs_dig y)
  have hn1 : n1 ≤ 2000000 := by have := h1.1; rw [halvesL_length] at this; omega
  have hn2 : n2 ≤ 2000000 := by have := h2.1; rw [halvesL_length] at this; omega
  have hE : valH (halvesL (limbs x)) * valH (halvesL (limbs y)) = x * y := by rw [hv1, hv2]
  have HE := Lib.hid hE
  have HN1 := Lib.hid h1.1
  have HN2 := Lib.hid h2.1
  clear hv1 hv2 hx hy hE
  generalize halvesL (limbs x) = la at *
  generalize halvesL (limbs y) = lb at *
  obtain ⟨s, hs⟩ : ∃ s, w2.heap.size = s := ⟨_, rfl⟩
  rw [hs] at h1 h2
  have HS := Lib.hid hs
  clear hs
  go_wp2_with (at_make; refine wpList_make_full _ rfl _ _ 30 rfl s 48 i0 (.int .u64 0) 1 Try.underlying30 hi hz0 hz1 .i64 .i64 _ _ (n1 + n2 + 1) rfl rfl (by omega) (by omega) (by rw [hz2]; omega) (by unfold maxLen; omega) (by rw [HS.out]; omega) ?_; intro w3 hown3 hgrow3; rw [made_zero] at hown3)
  rw [HS.out] at hown3 ⊢
  have hb3 : Below s w2 w3 := (Below.refl s w2).grown hgrow3 (by have := HS.out; omega) (fun k h => by cases h)
  clear hgrow3
  go_loopw [8] (fun iv wr => ∃ (k : Nat) (P : List Nat), k ≤ n1 ∧ iv = .int .i64 (k : Int) ∧ DigH P ∧ Hid (valH P = valH (la.take k) * valH lb) ∧ (∀ j, k + n2 ≤ j → Hid (P[j]?.getD 0 = 0)) ∧ wr.ownsRow s 48 1 (.slice (some ⟨s, 0, none⟩) (n1 + n2 + 1) (n1 + n2 + 1)) (n1 + n2 + 1) (P.map encD) ∧ Below s w2 wr)
    (fun iv _ => n1 - (intOf iv).toNat)
  case atStart => exact ⟨0, List.replicate (n1 + n2 + 1) 0, Nat.zero_le _, rfl, digH_zeros _, by rw [valH_zeros]; simp [valH_nil, Hid], fun j _ => get_zeros _ _, hown3, hb3⟩
  case round =>
    obtain ⟨k, P, hk, rfl, hP, hv, hzs, hown, hbl⟩ := hrel
    by_cases hlt : k < n1
    · obtain ⟨b, off, rfl, hbb, hcell⟩ := (h1.below hbl).2.2.2 (by omega)
      have hxl : la[k]?.getD 0 < H32 := hd1.get k
      have hPl : P.length = n1 + n2 + 1 := by have := hown.1; simpa using this
      have HPL := Lib.hid hPl
      have HV := Lib.hid hv
      have HZS := Lib.hid hzs
      clear hPl hv hzs
      obtain ⟨wo, hwo⟩ : ∃ wo : World, wo = wr := ⟨_, rfl⟩
      subst hwo
      go_wp2_with fail
      go_loopw [9, 10] (fun cv jv wi => ∃ (j : Nat) (v : Nat) (Q : List Nat), j ≤ n2 ∧ jv = .int .i64 (j : Int) ∧ cv = .int .u64 (v : Int) ∧ LineAt P Q k j (la[k]?.getD 0) lb v ∧ wi.ownsRow s 48 1 (.slice (some ⟨s, 0, none⟩) (n1 + n2 + 1) (n1 + n2 + 1)) (n1 + n2 + 1) (Q.map encD) ∧ Below s w2 wi)
        (fun _ jv _ => n2 - (intOf jv).toNat)
      case atStart => exact ⟨0, 0, P, Nat.zero_le _, rfl, rfl, LineAt.start hP _ _ _, hown, hbl⟩
      case round =>
        obtain ⟨j, v, Q, hj, rfl, rfl, hL, hown2, hbl2⟩ := hrel
        by_cases hlt2 : j < n2
        · have g1 := hcell k hlt
          have hc1 : wr.cell? ⟨b, off + k, none⟩ = some (.int .u64 ((la[k]?.getD 0 : Nat) : Int)) := by
            obtain ⟨b', off', e, _, hc'⟩ := (h1.below hbl2).2.2.2 (by omega)
            injection e with e
            injection e with e1 e2
            subst e1; subst e2
            exact hc' k hlt
          obtain ⟨b3, off3, rfl, hb3', hcell3⟩ := (h2.below hbl2).2.2.2 (by omega)
          have hc2 := hcell3 j hlt2
          have hQl : Q.length = n1 + n2 + 1 := by rw [hL.2.1]; exact HPL.out
          have hc3 : wr.cell? ⟨s, k + j, none⟩ = some (.int .u64 ((Q[k + j]?.getD 0 : Nat) : Int)) := by
            rw [hown2.cellAt (k + j) (by omega), List.getElem?_map, List.getElem?_eq_getElem (by omega)]
            simp [encD]
          have hf3 := hown2.frozenAt (k + j)
          have hyl : lb[j]?.getD 0 < H32 := hd2.get j
          have hql : Q[k + j]?.getD 0 < H32 := hL.1.get _
          have hvl : v < H32 := hL.2.2.1
          have HL := Lib.hid hL
          have HO2 := Lib.hid hown2
          clear hL hown2 hcell3 hQl g1
          have t1 : (0 : Int) ≤ (k : Int) := by omega
          have t2 : (k : Int) < (n1 : Int) := by omega
          have t3 : (0 : Int) ≤ (j : Int) := by omega
          have t4 : (j : Int) < (n2 : Int) := by omega
          have t5 : (0 : Int) ≤ (k : Int) + (j : Int) := by omega
          have t6 : (k : Int) + (j : Int) < (n1 : Int) + (n2 : Int) + 1 := by omega
          have t7 : IntKind.i64.wrap ((k : Int) + (j : Int)) = (k : Int) + (j : Int) := IntWalk.i64_in _ (by omega)
          have t8 : ((k : Int) + (j : Int)).toNat = k + j := by omega
          go_wp2_with fail
          go_quiet (fail)
          clear t7 t8
          go_wp2_with fail
          have hst := World.ownsRow.stored (w := wr.drewN nq) HO2.out (k + j) (.int .u64 ((IntKind.u64.wrap (IntKind.u64.wrap (((Q[k + j]?.getD 0 : Nat) : Int) + IntKind.u64.wrap (((la[k]?.getD 0 : Nat) : Int) * ((lb[j]?.getD 0 : Nat) : Int))) + (v : Int))).tmod 4294967296))
          refine ⟨⟨j + 1, pHi (la[k]?.getD 0) (lb[j]?.getD 0) (Q[k + j]?.getD 0) v, Q.set (k + j) (pLo (la[k]?.getD 0) (lb[j]?.getD 0) (Q[k + j]?.getD 0) v), by omega, by go_num, ?_, HL.out.step hxl hd2 (by have := HPL.out; omega), ?_, ?_⟩, by simp [intOf]; omega⟩
          · rw [rmul_hi hxl hyl hql hvl]
          · have h5 := hst.1
            rw [List.map_set]
            rw [rmul_lo hxl hyl hql hvl] at h5 ⊢
            exact h5
          · exact (below_drewN hbl2 nq).grown hst.2 (by have := hbl2.size; have := HS.out; simp; omega) (fun q e => by cases e; exact Nat.le_refl _)
        · obtain rfl : j = n2 := by omega
          have hQl : Q.length = n1 + j + 1 := by rw [hL.2.1]; exact HPL.out
          have hc3 : wr.cell? ⟨s, k + j, none⟩ = some (.int .u64 ((Q[k + j]?.getD 0 : Nat) : Int)) := by
            rw [hown2.cellAt (k + j) (by omega), List.getElem?_map, List.getElem?_eq_getElem (by omega)]
            simp [encD]
          have hf3 := hown2.frozenAt (k + j)
          obtain ⟨q1, q2, q3, q4⟩ := hL.done HN2.out (by have := HPL.out; omega) (HZS.out _ (Nat.le_refl _)).out
          have hst := hown2.stored (k + j) (.int .u64 (v : Int))
          have Q4 := Lib.hid q4
          have HST := Lib.hid hst
          have Q3 := Lib.hid q3
          clear hL hown2 hQl q2 q3 q4 hst
          go_wp2_with fail
          go_roundw
          case rel =>
            refine ⟨k + 1, Q.set (k + j) v, by omega, by go_num, q1, ?_, fun i hi => ?_, ?_, ?_⟩
            · have e1 := Q4.out
              rw [HV.out] at e1
              rw [e1, valH_take_succ, Nat.add_mul, Nat.mul_assoc]
              exact Lib.hid rfl
            · rw [Q3.out i (by omega)]
              exact HZS.out i (by omega)
            · rw [List.map_set]
              exact HST.out.1
            · exact hbl2.grown HST.out.2 (by have := hbl2.size; have := HS.out; omega) (fun q e => by cases e; exact Nat.le_refl _)
          case measure => simp [intOf]; omega
    · obtain rfl : k = n1 := by omega
      have hlim := Lim.of_own hown hP.dig
      have hval := hv.out
      rw [List.take_of_length_le (by have := HN1.out; omega), HE.out] at hval
      have HV := Lib.hid hval
      clear hval hv hown
      go_wp2_with fail
      refine (whole_any _ _ _ _ _ hlim hP (by omega)).mono ?_
      rintro e w4 ⟨A4, n4, c4, rfl, h4, b4⟩
      go_wp2_with fail
      go_ret
      rw [HV.out] at h4
      refine ⟨A4, n4, c4, rfl, h4, cc.trans (Below.mono (B := s) ?_ (by have := cc.size; have := HS.out; omega))⟩
      exact hbl.trans (b4.mono (by have := hbl.size; have := HS.out; omega))

end Go.Proofs.Ytccigpnebejbiaa

/-
  The contracts of the second reference's power, bit, Shl and Shr.
-/
namespace Go.Proofs.Ytccigpnebejbiaa
set_option maxRecDepth 100000
open Go.RowKit

theorem made_zeros (n : Nat) : (madeCells (Value.int .u64 0).cells (n * 1)).toList = (List.replicate n 0).map encD := by
  rw [Nat.mul_one, show (Value.int .u64 0).cells = #[Value.int .u64 0] from rfl, toList_madeCells_one, List.map_replicate]
  rfl

theorem wrap_pw {k : Nat} (h : k + 1 < 64) : IntKind.u64.wrap ((pw k : Int) * 2) = (pw (k + 1) : Int) := by
  have h1 := pw_lt h
  rw [pw_succ] at h1 ⊢
  rw [IntKind.wrap_u64]
  unfold B64 at h1
  omega

set_option maxRecDepth 100000 in
set_option maxHeartbeats 2000000 in
theorem power_N (w : World) (n : Nat) (hn : n ≤ 20000) : Calls Try.prog 57 #[.int .i64 (n : Int)] w (GotN w (2 ^ n)) := by
  obtain ⟨i0, hi, hz0, hz1, hz2⟩ := info_parts info24
  obtain ⟨s, hs⟩ : ∃ s, w.heap.size = s := ⟨_, rfl⟩
  have HS := Lib.hid hs
  clear hs
  go_enter Try.func57, Try.ntmps57
  go_wp2_with (at_make; refine wpList_make_full _ rfl _ _ 31 rfl s 48 i0 (.int .u64 0) 1 Try.underlying31 hi hz0 hz1 .i64 .i64 _ _ (n / 64 + 1) rfl rfl (by omega) (by omega) (by rw [hz2]; omega) (by unfold maxLen; omega) (by rw [HS.out]; omega) ?_; intro w1 hown1 hgrow1; rw [made_zeros] at hown1)
  rw [HS.out] at hown1 ⊢
  go_loop [4, 5] (fun ov iv => ∃ k : Nat, k ≤ n % 64 ∧ iv = .int .i64 (k : Int) ∧ ov = .int .u64 (pw k : Int)) (fun _ iv => n % 64 - (intOf iv).toNat)
  case atStart => exact ⟨0, Nat.zero_le _, rfl, rfl⟩
  case round =>
    obtain ⟨k, hk, rfl, rfl⟩ := hrel
    by_cases hlt : k < n % 64
    · go_wp2
      go_round
      case rel => exact ⟨k + 1, by omega, by go_num, congrArg (Value.int .u64) (wrap_pw (by omega))⟩
      case measure => simp [intOf]; omega
    · have hk' : k = n % 64 := by omega
      have hf := hown1.frozenAt (n / 64)
      have hc : w1.cell? ⟨s, n / 64, none⟩ = some (.int .u64 0) := by
        rw [hown1.cellAt (n / 64) (by omega)]
        simp [encD]
      have hst := hown1.stored (n / 64) (.int .u64 (pw k : Int))
      have HK := Lib.hid hk'
      have HST := Lib.hid hst
      have HO := Lib.hid hown1
      clear hk' hst hown1
      go_wp2
      go_ret
      have hl : (List.replicate (n / 64 + 1) 0).set (n / 64) (pw k) = limbs (2 ^ n) := by rw [HK.out]; exact pw_limbs n
      have hrow := HST.out.1
      rw [show (Value.int IntKind.u64 (pw k : Int)) = encD (pw k) from rfl, ← List.map_set, hl] at hrow
      refine ⟨_, _, _, rfl, Lim.of_own hrow (limbs_dig _), ?_⟩
      rw [HS.out]
      exact ((Below.refl s w).grown hgrow1 (by have := HS.out; omega) (fun k h => by cases h)).grown HST.out.2 (by have := hgrow1.size; have := HS.out; omega) (fun q e => by cases e; exact Nat.le_refl _)

theorem wrap_sh {g k : Nat} (h : g < B64) : IntKind.u64.wrap (((g / 2 ^ k : Nat) : Int) / 2) = ((g / 2 ^ (k + 1) : Nat) : Int) := by
  have h1 : g / 2 ^ k < B64 := Nat.lt_of_le_of_lt (Nat.div_le_self _ _) h
  rw [Nat.pow_succ, ← Nat.div_div_eq_div_mul]
  generalize g / 2 ^ k = t at *
  rw [IntKind.wrap_u64]
  unfold B64 at h1
  omega
/-- Shifted down by k places, behind a name. -/
def sd (g k : Nat) : Nat := g / 2 ^ k
theorem sd_step {g k : Nat} (h : g < B64) : IntKind.u64.wrap ((sd g k : Int) / 2) = (sd g (k + 1) : Int) := wrap_sh h
theorem sd_zero (g : Nat) : sd g 0 = g := Nat.div_one g

set_option maxRecDepth 100000 in
set_option maxHeartbeats 2000000 in
theorem bit_N {w : World} {A : Option Addr} {n c x i : Nat} (ha : Num w A n c x) (hn : n ≤ 1000000) (hin : i < 64 * n) : Calls Try.prog 87 #[.slice A n c, .int .i64 (i : Int)] w fun e w' => e = .returned (.int .u64 (bitN x i : Int)) ∧ w = w' := by
  obtain ⟨b, off, rfl, hb, hcell⟩ := ha.2.2.2 (by omega)
  have hc := hcell (i / 64) (by omega)
  rw [limbs_get] at hc
  have hd := dig_lt x (i / 64)
  have hbd := bitN_dig x i
  have HB := Lib.hid hbd
  clear hcell hbd
  generalize dig x (i / 64) = g at *
  go_enter Try.func87, Try.ntmps87
  go_wp2
  go_loop [5, 6] (fun ov iv => ∃ k : Nat, k ≤ i % 64 ∧ iv = .int .i64 (k : Int) ∧ ov = .int .u64 (sd g k : Int)) (fun _ iv => i % 64 - (intOf iv).toNat)
  case atStart => exact ⟨0, Nat.zero_le _, rfl, by rw [sd_zero]⟩
  case round =>
    obtain ⟨k, hk, rfl, rfl⟩ := hrel
    by_cases hlt : k < i % 64
    · go_wp2
      go_round
      case rel => exact ⟨k + 1, by omega, by go_num, congrArg (Value.int .u64) (sd_step hd)⟩
      case measure => simp [intOf]; omega
    · have hk' : k = i % 64 := by omega
      have HK := Lib.hid hk'
      clear hk'
      go_wp2
      go_ret
      refine ⟨?_, rfl⟩
      rw [← HB.out, ← HK.out]
      refine congrArg Ending.returned (congrArg (Value.int .u64) ?_)
      show ((sd g k : Int)).tmod 2 = ((sd g k % 2 : Nat) : Int)
      rw [Int.tmod_eq_emod_of_nonneg (by omega)]
      omega

set_option maxHeartbeats 2000000 in
theorem rshl_N {w : World} {A : Option Addr} {m c x n : Nat} (ha : Num w A m c x) (hx : (limbs x).length ≤ 1000) (hn : n ≤ 20000) : Calls Try.prog 35 #[.slice A m c, .int .i64 (n : Int)] w (GotP w (x * 2 ^ n) 0) := by
  have hp : (limbs (2 ^ n)).length ≤ 1000 := by
    refine Nat.le_trans (limbs_length_le (k := n / 64 + 1) ?_) (by omega)
    rw [B64_pow2]
    exact (Nat.pow_lt_pow_iff_right (by omega)).2 (by omega)
  have HP := Lib.hid hp
  clear hp
  go_enter Try.func35, Try.ntmps35
  go_wp2_with fail
  refine (power_N _ n hn).mono ?_
  rintro e w1 ⟨A1, n1, c1, rfl, h1, b1⟩
  go_wp2_with fail
  refine (rmul_N (ha.on b1) h1 (by omega) (by have := HP.out; omega)).mono ?_
  rintro e w2 ⟨A2, n2, c2, rfl, h2, b2⟩
  go_wp2_with fail
  go_ret2
  exact ⟨A2, n2, c2, rfl, h2, b1.trans (b2.mono b1.size)⟩

set_option maxHeartbeats 1000000 in
theorem rshl_no (w : World) (A : Option Addr) (m c : Nat) (n : Int) (hn : n < 0 ∨ 20000 < n) : Calls Try.prog 35 #[.slice A m c, .int .i64 n] w (GotV w (.tuple #[.slice none 0 0, .int .i64 1])) := by
  rcases hn with h | h
  · go_enter Try.func35, Try.ntmps35
    go_wp2
    go_ret2
    exact ⟨rfl, Below.refl _ _⟩
  · have h0 : ¬ n < 0 := by omega
    go_enter Try.func35, Try.ntmps35
    go_wp2
    go_ret2
    exact ⟨rfl, Below.refl _ _⟩

set_option maxHeartbeats 1000000 in
theorem rshr_no (w : World) (A : Option Addr) (m c : Nat) (n : Int) (hn : n < 0 ∨ 20000 < n) : Calls Try.prog 86 #[.slice A m c, .int .i64 n] w (GotV w (.tuple #[.slice none 0 0, .int .i64 1])) := by
  rcases hn with h | h
  · go_enter Try.func86, Try.ntmps86
    go_wp2
    go_ret2
    exact ⟨rfl, Below.refl _ _⟩
  · have h0 : ¬ n < 0 := by omega
    go_enter Try.func86, Try.ntmps86
    go_wp2
    go_ret2
    exact ⟨rfl, Below.refl _ _⟩

/-- A step of the inner loop, as the walk has it. -/
theorem wrap_step {x y k : Nat} (hx : x < B64) :
    IntKind.u64.wrap (IntKind.u64.wrap ((sh2 x y k : Int) / 2) + (sd y k : Int) % 2 * 9223372036854775808) = (sh2 x y (k + 1) : Int) := by
  have h1 := sh2_lt x y (k + 1)
  have h2 := sh2_succ hx y k
  rw [show y / 2 ^ k = sd y k from rfl] at h2
  have h3 := sh2_lt x y k
  generalize sh2 x y k = a at *
  generalize sh2 x y (k + 1) = b at *
  generalize sd y k = c at *
  simp only [IntKind.wrap_u64]
  unfold B64 at h1 h3
  omega

set_option maxRecDepth 100000 in
set_option maxHeartbeats 4000000 in
theorem rshr_F {w : World} {A : Option Addr} {m c x n : Nat} (ha : Num w A m c x) (hx : (limbs x).length ≤ 1000) (hn : n ≤ 20000) : Calls Try.prog 86 #[.slice A m c, .int .i64 (n : Int)] w (GotPF w (x / 2 ^ n) 0) := by
  obtain ⟨i0, hi, hz0, hz1, hz2⟩ := info_parts info24
  have hm : m ≤ 1000 := by rw [ha.len]; exact hx
  have hlt0 : x / 2 ^ n < B64 ^ (m - n / 64) := shr_lt (by rw [ha.len]; exact lt_of_limbs_length (Nat.le_refl _))
  have HLT := Lib.hid hlt0
  clear hlt0 hx
  go_enter Try.func86, Try.ntmps86
  go_wp2_with fail
  go_loopw [6, 7] (fun ov iv wr => ∃ k g cap : Nat, (k ≤ m - n / 64) ∧ iv = .int .i64 ((n / 64 + k : Nat) : Int) ∧ ov = .slice (some ⟨g, 0, none⟩) k cap ∧ wr.ownsRow w.heap.size 48 1 (.slice (some ⟨g, 0, none⟩) k cap) k ((digs (x / 2 ^ n) k).map encD) ∧ Below w.heap.size w wr) (fun _ iv _ => m - (intOf iv).toNat)
  case atStart => exact ⟨0, w.heap.size, 0, Nat.zero_le _, by go_num, rfl, own_empty w _ (Nat.le_refl _), (Below.refl _ w).alloc (Nat.le_refl _) _⟩
  case round =>
    obtain ⟨k, g, cap, hk, rfl, rfl, hown, hbl⟩ := hrel
    by_cases hlt : n / 64 + k < m
    · obtain ⟨b, off, rfl, hb, hcell⟩ := (ha.on hbl).2.2.2 (by omega)
      have h1 := hcell (n / 64 + k) hlt
      rw [limbs_get] at h1
      have hd1 := dig_lt x (n / 64 + k)
      have hd2 := dig_lt x (n / 64 + k + 1)
      have hsd := shr_dig x n k
      have HSD := Lib.hid hsd
      have hgl := hown.lt g rfl
      have HO := Lib.hid hown
      clear hown hsd
      obtain ⟨wo, hwo⟩ : ∃ wo : World, wo = wr := ⟨_, rfl⟩
      subst hwo
      have h2 : n / 64 + k + 1 < m → wo.cell? ⟨b, off + (n / 64 + k + 1), none⟩ = some (.int .u64 ((dig x (n / 64 + k + 1) : Nat) : Int)) := fun h => by
        have := hcell (n / 64 + k + 1) h
        rw [limbs_get] at this
        exact this
      have h2z : ¬ n / 64 + k + 1 < m → dig x (n / 64 + k + 1) = 0 := fun h => by
        rw [← limbs_get, List.getElem?_eq_none (by have := ha.len; omega)]; rfl
      clear hcell
      by_cases hlt2 : n / 64 + k + 1 < m
      · have h3 := h2 hlt2
        clear h2 h2z
        generalize dig x (n / 64 + k) = p at *
        generalize dig x (n / 64 + k + 1) = q at *
        go_wp2_with fail
        go_loop [8, 9, 10] (fun xv yv jv => ∃ j : Nat, j ≤ n % 64 ∧ jv = .int .i64 (j : Int) ∧ xv = .int .u64 (sh2 p q j : Int) ∧ yv = .int .u64 (sd q j : Int)) (fun _ _ jv => n % 64 - (intOf jv).toNat)
        case atStart => exact ⟨0, Nat.zero_le _, rfl, by rw [sh2_zero hd1], by rw [sd_zero]⟩
        case round =>
          obtain ⟨j, hj, rfl, rfl, rfl⟩ := hrel
          by_cases hltj : j < n % 64
          · go_wp2
            go_round
            case rel => exact ⟨j + 1, by omega, by go_num, congrArg (Value.int .u64) (wrap_step hd1), congrArg (Value.int .u64) (sd_step hd2)⟩
            case measure => simp [intOf]; omega
          · have hje : j = n % 64 := by omega
            have HJ := Lib.hid hje
            clear hje
            go_wp2_with (at_builtin; refine wpList_append_lies _ rfl _ _ 31 rfl w.heap.size 48 i0 (.int .u64 0) 1 8 Try.underlying31 hi hz0 hz1 hz2 rfl (by decide) _ _ _ rfl (HO.out.alloc _) ⟨wo.heap.size, 0, none⟩ 1 1 [.int .u64 (sh2 p q j : Int)] rfl rfl (cell_one_new _ _ _) (by simp [Value.oneCell']) (by omega) (by unfold maxLen; omega) (by omega) (by simp; have := hbl.size; omega) _ rfl ?_; intro g1 cap1 w1 hown1 hgrow1 hat hlt1)
            go_roundw
            case rel =>
              refine ⟨k + 1, g1, cap1, by omega, by go_num, rfl, ?_, ?_⟩
              · rw [HJ.out, HSD.out] at hown1
                rw [digs_succ, List.map_append]
                exact hown1
              · exact (hbl.alloc hbl.size _).grown hgrow1 (by simp; have := hbl.size; omega) (fun q e => by injection (show some g = some q from e) with e1; omega)
            case measure => simp [intOf]; omega
      · have h3 := h2z hlt2
        clear h2 h2z
        generalize dig x (n / 64 + k) = p at *
        generalize dig x (n / 64 + k + 1) = q at *
        have HQ := Lib.hid h3
        clear h3
        go_wp2_with fail
        go_loop [8, 9, 10] (fun xv yv jv => ∃ j : Nat, j ≤ n % 64 ∧ jv = .int .i64 (j : Int) ∧ xv = .int .u64 (sh2 p q j : Int) ∧ yv = .int .u64 (sd q j : Int)) (fun _ _ jv => n % 64 - (intOf jv).toNat)
        case atStart => exact ⟨0, Nat.zero_le _, rfl, by rw [sh2_zero hd1], by rw [sd_zero, HQ.out]; rfl⟩
        case round =>
          obtain ⟨j, hj, rfl, rfl, rfl⟩ := hrel
          by_cases hltj : j < n % 64
          · go_wp2
            go_round
            case rel => exact ⟨j + 1, by omega, by go_num, congrArg (Value.int .u64) (wrap_step hd1), congrArg (Value.int .u64) (sd_step hd2)⟩
            case measure => simp [intOf]; omega
          · have hje : j = n % 64 := by omega
            have HJ := Lib.hid hje
            clear hje
            go_wp2_with (at_builtin; refine wpList_append_lies _ rfl _ _ 31 rfl w.heap.size 48 i0 (.int .u64 0) 1 8 Try.underlying31 hi hz0 hz1 hz2 rfl (by decide) _ _ _ rfl (HO.out.alloc _) ⟨wo.heap.size, 0, none⟩ 1 1 [.int .u64 (sh2 p q j : Int)] rfl rfl (cell_one_new _ _ _) (by simp [Value.oneCell']) (by omega) (by unfold maxLen; omega) (by omega) (by simp; have := hbl.size; omega) _ rfl ?_; intro g1 cap1 w1 hown1 hgrow1 hat hlt1)
            go_roundw
            case rel =>
              refine ⟨k + 1, g1, cap1, by omega, by go_num, rfl, ?_, ?_⟩
              · rw [HJ.out, HSD.out] at hown1
                rw [digs_succ, List.map_append]
                exact hown1
              · exact (hbl.alloc hbl.size _).grown hgrow1 (by simp; have := hbl.size; omega) (fun q e => by injection (show some g = some q from e) with e1; omega)
            case measure => simp [intOf]; omega
    · have hlim := Lim.of_own hown (digs_dig _ _)
      have hkm : m - n / 64 ≤ k := by omega
      have hv : val (digs (x / 2 ^ n) k) = x / 2 ^ n := digs_all (Nat.lt_of_lt_of_le HLT.out (Nat.pow_le_pow_right B64_pos hkm))
      have HV := Lib.hid hv
      clear hv hown
      go_wp2_with fail
      refine (bare_limF hlim (by omega)).mono ?_
      rintro e w1 ⟨A1, n1, c1, rfl, hl1, b1, f1⟩
      go_wp2_with fail
      go_ret2
      rw [HV.out] at hl1
      exact ⟨A1, n1, c1, rfl, hl1, hbl.trans (b1.mono hbl.size), f1.mono hbl.size⟩

theorem rshr_N {w : World} {A : Option Addr} {m c x n : Nat} (ha : Num w A m c x) (hx : (limbs x).length ≤ 1000) (hn : n ≤ 20000) : Calls Try.prog 86 #[.slice A m c, .int .i64 (n : Int)] w (GotP w (x / 2 ^ n) 0) := (rshr_F ha hx hn).mono fun _ _ h => h.weak

end Go.Proofs.Ytccigpnebejbiaa
