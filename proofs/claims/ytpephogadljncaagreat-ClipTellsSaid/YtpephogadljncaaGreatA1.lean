/-
  Several texts in one: Math, Words, Limb, Pairs, AddMath, Carry, Trim, Share, Add, Sub, MathB, MulW, Times, Mul, Len, Tells, Bits, Cmp.
-/
import Derived.Below
import Derived.Laws.OwnMore
import Derived.Deep.AppendLies
import Derived.Deep.Draws
import Derived.Test.YtpephogadljncaaGreatRows
import Derived.WalkKit
import Derived.WalkSpells
import Derived.WalkLawsBesides
import Derived.Lib.Hide
import Derived.RangeFuncNested
import Derived.RangeFuncBox
import Derived.RangeFuncBound
import Derived.RangeFuncCalls
import Derived.RangeFuncLeaves
import Derived.Shelf.Abstract
import Derived.Shelf.RegionOpen
import Derived.OwnWalkIn
import Derived.TacticsInMore
import Derived.LoopNIn
import Derived.LoopIn
import Derived.Maps.AppendAt
import Derived.Laws.Externs
import Derived.Lib.Strings
import Derived.Lib.Slices
import Derived.Lib.Small
import Derived.Lib.Walk
import Derived.Lib.BitFns
import Derived.Lib.ItoaNum

/-
  Plain arithmetic for the proofs about package nat: the digits of a natural number to the base 2 to the power of 64. Nothing of the program is used here.
-/
namespace Go.Proofs.YtpephogadljncaaGreat

/-- 2 to the power of 64, behind a name. -/
def B64 : Nat := 18446744073709551616
theorem B64_pos : 0 < B64 := by unfold B64; omega
theorem B64_gt : 1 < B64 := by unfold B64; omega

/-- The number of a list of digits, the lowest first. -/
def val : List Nat → Nat
  | [] => 0
  | x :: xs => x + B64 * val xs

/-- The digits of a number, the lowest first, without noughts at the end. -/
def limbs (n : Nat) : List Nat := if n = 0 then [] else n % B64 :: limbs (n / B64)
termination_by n
decreasing_by exact Nat.div_lt_self (by omega) B64_gt

/-- All digits are digits. -/
def Dig (l : List Nat) : Prop := ∀ x ∈ l, x < B64
/-- The last digit is not nought. -/
def canon (l : List Nat) : Bool := l.getLastD 1 != 0

theorem limbs_zero : limbs 0 = [] := by rw [limbs]; simp
theorem limbs_pos {n : Nat} (h : n ≠ 0) : limbs n = n % B64 :: limbs (n / B64) := by rw [limbs]; simp [h]
theorem val_nil : val [] = 0 := rfl
theorem val_cons (x : Nat) (xs : List Nat) : val (x :: xs) = x + B64 * val xs := rfl

theorem val_limbs (n : Nat) : val (limbs n) = n := by
  induction n using Nat.strongRecOn with
  | _ n ih =>
    by_cases h : n = 0
    · subst h; rw [limbs_zero]; rfl
    · rw [limbs_pos h, val_cons, ih _ (Nat.div_lt_self (by omega) B64_gt)]
      exact Nat.mod_add_div n B64

theorem limbs_dig (n : Nat) : Dig (limbs n) := by
  induction n using Nat.strongRecOn with
  | _ n ih =>
    by_cases h : n = 0
    · subst h; rw [limbs_zero]; intro x hx; cases hx
    · rw [limbs_pos h]
      intro x hx
      rcases List.mem_cons.1 hx with rfl | hx
      · exact Nat.mod_lt _ B64_pos
      · exact ih _ (Nat.div_lt_self (by omega) B64_gt) x hx

theorem Dig.tail {x : Nat} {xs : List Nat} (h : Dig (x :: xs)) : Dig xs := fun y hy => h y (List.mem_cons_of_mem _ hy)
theorem Dig.head {x : Nat} {xs : List Nat} (h : Dig (x :: xs)) : x < B64 := h x List.mem_cons_self
theorem Dig.nil : Dig [] := fun _ h => by cases h
theorem Dig.cons {x : Nat} {xs : List Nat} (hx : x < B64) (h : Dig xs) : Dig (x :: xs) := fun y hy => by
  rcases List.mem_cons.1 hy with rfl | hy
  · exact hx
  · exact h y hy
theorem Dig.snoc {x : Nat} {xs : List Nat} (h : Dig xs) (hx : x < B64) : Dig (xs ++ [x]) := fun y hy => by
  rcases List.mem_append.1 hy with hy | hy
  · exact h y hy
  · simp at hy; subst hy; exact hx
theorem Dig.get {l : List Nat} (h : Dig l) (j : Nat) : l[j]?.getD 0 < B64 := by
  by_cases hj : j < l.length
  · simp [hj]; exact h _ (List.getElem_mem hj)
  · rw [List.getElem?_eq_none (by omega)]; exact B64_pos
theorem Dig.take {l : List Nat} (h : Dig l) (k : Nat) : Dig (l.take k) := fun x hx => h x (List.mem_of_mem_take hx)

theorem canon_cons {x : Nat} {xs : List Nat} (h : xs ≠ []) : canon (x :: xs) = canon xs := by
  unfold canon
  cases xs with
  | nil => exact absurd rfl h
  | cons y ys => simp [List.getLastD]

theorem val_eq_zero {l : List Nat} (hc : canon l = true) (h : val l = 0) : l = [] := by
  induction l with
  | nil => rfl
  | cons x xs ih =>
    rw [val_cons] at h
    have hx : x = 0 := by omega
    have hv : val xs = 0 := by
      have h1 : B64 * val xs = 0 := by omega
      rcases Nat.mul_eq_zero.1 h1 with h2 | h2
      · have := B64_pos; omega
      · exact h2
    by_cases he : xs = []
    · subst he; subst hx; simp [canon] at hc
    · rw [canon_cons he] at hc
      exact absurd (ih hc hv) he

theorem limbs_val {l : List Nat} (hd : Dig l) (hc : canon l = true) : limbs (val l) = l := by
  induction l with
  | nil => exact limbs_zero
  | cons x xs ih =>
    have hne : val (x :: xs) ≠ 0 := fun h => by have := val_eq_zero hc h; cases this
    have hx := hd.head
    rw [limbs_pos hne, val_cons]
    have h1 : (x + B64 * val xs) % B64 = x := by rw [Nat.add_mul_mod_self_left]; exact Nat.mod_eq_of_lt hx
    have h2 : (x + B64 * val xs) / B64 = val xs := by
      rw [Nat.add_mul_div_left _ _ B64_pos, Nat.div_eq_of_lt hx]; omega
    rw [h1, h2]
    by_cases he : xs = []
    · subst he; rw [val_nil, limbs_zero]
    · rw [canon_cons he] at hc
      rw [ih hd.tail hc]

theorem limbs_canon (n : Nat) : canon (limbs n) = true := by
  induction n using Nat.strongRecOn with
  | _ n ih =>
    by_cases h : n = 0
    · subst h; rw [limbs_zero]; rfl
    · rw [limbs_pos h]
      by_cases he : limbs (n / B64) = []
      · have hz : n / B64 = 0 := by
          have := val_limbs (n / B64); rw [he] at this; exact this.symm
        have hlt : n < B64 := by
          rcases Nat.lt_or_ge n B64 with h1 | h1
          · exact h1
          · have := Nat.div_pos h1 B64_pos; omega
        rw [he, Nat.mod_eq_of_lt hlt]
        simp [canon, h]
      · rw [canon_cons he]
        exact ih _ (Nat.div_lt_self (by omega) B64_gt)

theorem limbs_inj {a b : Nat} (h : limbs a = limbs b) : a = b := by
  rw [← val_limbs a, h, val_limbs]

theorem val_lt {l : List Nat} (hd : Dig l) : val l < B64 ^ l.length := by
  induction l with
  | nil => simp [val_nil]
  | cons x xs ih =>
    rw [val_cons, List.length_cons, Nat.pow_succ, Nat.mul_comm (B64 ^ xs.length)]
    have h1 := ih hd.tail
    have h2 := hd.head
    calc x + B64 * val xs < B64 + B64 * val xs := by omega
      _ = B64 * (val xs + 1) := by rw [Nat.mul_add, Nat.mul_one]; omega
      _ ≤ B64 * B64 ^ xs.length := Nat.mul_le_mul_left _ h1

theorem val_snoc (l : List Nat) (x : Nat) : val (l ++ [x]) = val l + B64 ^ l.length * x := by
  induction l with
  | nil => simp [val_cons, val_nil]
  | cons y ys ih =>
    rw [List.cons_append, val_cons, ih, val_cons, List.length_cons, Nat.pow_succ, Nat.mul_add]
    rw [← Nat.mul_assoc, Nat.mul_comm B64 (B64 ^ ys.length)]
    omega

theorem val_take_succ (l : List Nat) (k : Nat) : val (l.take (k + 1)) = val (l.take k) + B64 ^ k * l[k]?.getD 0 := by
  by_cases hk : k < l.length
  · rw [List.take_succ_eq_append_getElem hk, val_snoc, List.length_take, Nat.min_eq_left (by omega)]
    simp [hk]
  · rw [List.take_of_length_le (by omega), List.take_of_length_le (by omega), List.getElem?_eq_none (by omega)]
    simp

theorem limbs_length_le {n k : Nat} (h : n < B64 ^ k) : (limbs n).length ≤ k := by
  induction k generalizing n with
  | zero => simp at h; subst h; rw [limbs_zero]; simp
  | succ k ih =>
    by_cases hn : n = 0
    · subst hn; rw [limbs_zero]; simp
    · rw [limbs_pos hn, List.length_cons]
      have : n / B64 < B64 ^ k := by
        rw [Nat.div_lt_iff_lt_mul B64_pos, ← Nat.pow_succ]; exact h
      have := ih this
      omega

theorem lt_of_limbs_length {n k : Nat} (h : (limbs n).length ≤ k) : n < B64 ^ k := by
  have h1 := val_lt (limbs_dig n)
  rw [val_limbs] at h1
  exact Nat.lt_of_lt_of_le h1 (Nat.pow_le_pow_right B64_pos h)

theorem limbs_lt_iff {n k : Nat} : (limbs n).length ≤ k ↔ n < B64 ^ k := ⟨lt_of_limbs_length, limbs_length_le⟩

theorem limbs_length_add {a b k : Nat} (ha : (limbs a).length ≤ k) (hb : (limbs b).length ≤ k) : (limbs (a + b)).length ≤ k + 1 := by
  rw [limbs_lt_iff] at *
  rw [Nat.pow_succ]
  have := B64_gt
  calc a + b < B64 ^ k + B64 ^ k := by omega
    _ = B64 ^ k * 2 := by omega
    _ ≤ B64 ^ k * B64 := Nat.mul_le_mul_left _ (by omega)

theorem limbs_length_mul {a b k m : Nat} (ha : (limbs a).length ≤ k) (hb : (limbs b).length ≤ m) : (limbs (a * b)).length ≤ k + m := by
  rw [limbs_lt_iff] at *
  rw [Nat.pow_add]
  exact Nat.mul_lt_mul_of_lt_of_le ha (Nat.le_of_lt hb) (Nat.pow_pos B64_pos)

theorem limbs_ne_nil {n : Nat} (h : n ≠ 0) : 0 < (limbs n).length := by rw [limbs_pos h]; simp
theorem limbs_ge {n : Nat} (h : 0 < (limbs n).length) : B64 ^ ((limbs n).length - 1) ≤ n := by
  rcases Nat.lt_or_ge n (B64 ^ ((limbs n).length - 1)) with h1 | h1
  · have := limbs_length_le h1; omega
  · exact h1
/-- Digits whose number is great enough for their length are the number's own. -/
theorem eq_limbs {l : List Nat} (hd : Dig l) (h : 0 < l.length → B64 ^ (l.length - 1) ≤ val l) : l = limbs (val l) := by
  refine (limbs_val hd ?_).symm
  rcases Nat.eq_zero_or_pos l.length with h0 | h0
  · rw [List.eq_nil_of_length_eq_zero h0]; rfl
  · have hl : l ≠ [] := fun e => by rw [e] at h0; simp at h0
    have e := List.dropLast_concat_getLast hl
    have h1 := h h0
    have hlen : l.dropLast.length = l.length - 1 := List.length_dropLast
    have hv : val l.dropLast < B64 ^ (l.length - 1) := by
      rw [← hlen]; exact val_lt fun x hx => hd x (List.dropLast_subset _ hx)
    have hne : l.getLast hl ≠ 0 := fun hz => by
      have h2 : val l = val l.dropLast := by
        have h3 := val_snoc l.dropLast (l.getLast hl)
        rw [e, hz, Nat.mul_zero, Nat.add_zero] at h3
        exact h3
      omega
    unfold canon
    rw [List.getLastD_eq_getLast?, List.getLast?_eq_some_getLast hl]
    simpa using hne

/-- The lower and the upper half of a sum with a carry. -/
def sumLo (x y c : Nat) : Nat := (x + y + c) % B64
def sumHi (x y c : Nat) : Nat := (x + y + c) / B64
theorem sum_split (x y c : Nat) : sumLo x y c + B64 * sumHi x y c = x + y + c := Nat.mod_add_div _ _
theorem sumLo_lt (x y c : Nat) : sumLo x y c < B64 := Nat.mod_lt _ B64_pos
theorem sumHi_le {x y c : Nat} (hx : x < B64) (hy : y < B64) (hc : c ≤ 1) : sumHi x y c ≤ 1 := by
  unfold sumHi
  have : (x + y + c) / B64 < 2 := (Nat.div_lt_iff_lt_mul B64_pos).2 (by omega)
  omega
/-- The lower half of a difference with a borrow, and the borrow. -/
def subLo (x y b : Nat) : Nat := (x + B64 - y - b) % B64
def subHi (x y b : Nat) : Nat := if x < y + b then 1 else 0
theorem subLo_lt (x y b : Nat) : subLo x y b < B64 := Nat.mod_lt _ B64_pos
theorem subHi_le (x y b : Nat) : subHi x y b ≤ 1 := by unfold subHi; split <;> omega
theorem sub_split {x y b : Nat} (hx : x < B64) (hy : y < B64) (hb : b ≤ 1) : subLo x y b + y + b = x + B64 * subHi x y b := by
  unfold subLo subHi
  split
  · have h1 : x + B64 - y - b < B64 := by omega
    rw [Nat.mod_eq_of_lt h1]; omega
  · have h1 : x + B64 - y - b = (x - y - b) + B64 := by omega
    rw [h1, Nat.add_mod_right, Nat.mod_eq_of_lt (by omega)]; omega

theorem limbs_length_mono {a b : Nat} (h : a ≤ b) : (limbs a).length ≤ (limbs b).length :=
  limbs_length_le (Nat.lt_of_le_of_lt h (lt_of_limbs_length (Nat.le_refl _)))

end Go.Proofs.YtpephogadljncaaGreat

/-
  Words for memory: a slice value that reads as a list of digits; a slice value that stands for a natural number. Lemmas on what keeps them.
-/
namespace Go.Proofs.YtpephogadljncaaGreat
open Go.RowKit

/-- The slice value '.slice A n c' holds the digits l, in a block below B. -/
def Lim (B : Nat) (w : World) (A : Option Addr) (n c : Nat) (l : List Nat) : Prop :=
  n = l.length ∧ n ≤ c ∧ Dig l ∧ (0 < n → ∃ b off, A = some ⟨b, off, none⟩ ∧ b < B ∧ ∀ j, j < n → w.cell? ⟨b, off + j, none⟩ = some (.int .u64 ((l[j]?.getD 0 : Nat) : Int)))

/-- A value that holds the digits l. -/
def IsL (w : World) (v : Value) (l : List Nat) : Prop := ∃ A n c, v = .slice A n c ∧ Lim w.heap.size w A n c l
/-- A value that stands for the number x. -/
def IsN (w : World) (v : Value) (x : Nat) : Prop := IsL w v (limbs x)

section
variable {w w' : World} {B B' : Nat} {A : Option Addr} {n c : Nat} {l : List Nat} {v : Value}
theorem Lim.below (h : Lim B w A n c l) (hb : Below B w w') : Lim B w' A n c l :=
  ⟨h.1, h.2.1, h.2.2.1, fun hn => by
    obtain ⟨b, off, e, hlt, hc⟩ := h.2.2.2 hn
    exact ⟨b, off, e, hlt, fun j hj => (hb.cell (p := ⟨b, off + j, none⟩) hlt).trans (hc j hj)⟩⟩
theorem Lim.more (h : Lim B w A n c l) (hB : B ≤ B') : Lim B' w A n c l :=
  ⟨h.1, h.2.1, h.2.2.1, fun hn => by
    obtain ⟨b, off, e, hlt, hc⟩ := h.2.2.2 hn
    exact ⟨b, off, e, Nat.lt_of_lt_of_le hlt hB, hc⟩⟩
theorem Lim.drew (h : Lim B w A n c l) : Lim B w.drew A n c l := h
theorem IsL.below (h : IsL w v l) (hb : Below w.heap.size w w') : IsL w' v l := by
  obtain ⟨A, n, c, e, hl⟩ := h
  exact ⟨A, n, c, e, (hl.below hb).more hb.size⟩
theorem IsN.below {x : Nat} (h : IsN w v x) (hb : Below w.heap.size w w') : IsN w' v x := IsL.below h hb
theorem Lim.nil (B : Nat) (w : World) (A : Option Addr) (c : Nat) : Lim B w A 0 c [] := ⟨rfl, Nat.zero_le _, Dig.nil, fun h => absurd h (by omega)⟩
theorem IsN.zero (w : World) : IsN w (.slice none 0 0) 0 := ⟨none, 0, 0, rfl, by rw [limbs_zero]; exact Lim.nil _ _ _ _⟩
end

end Go.Proofs.YtpephogadljncaaGreat

/-
  The contract of nat.limb.
-/
namespace Go.Proofs.YtpephogadljncaaGreat
set_option maxRecDepth 100000
open Go.RowKit

set_option maxHeartbeats 400000 in
theorem limb_any (B : Nat) (A : Option Addr) (n c k : Nat) (l : List Nat) (w : World) (h : Lim B w A n c l) (hn : n ≤ 9223372036854775807) (hk : k ≤ 9223372036854775807) :
    Calls Tryz.prog 86 #[.slice A n c, .int .i64 k] w fun e w' => e = .returned (.int .u64 ((l[k]?.getD 0 : Nat) : Int)) ∧ w = w' := by
  obtain ⟨hl, hcap, hdg, hc⟩ := h
  by_cases hlt : k < n
  · obtain ⟨b, off, rfl, hb, hcell⟩ := hc (by omega)
    have h1 := hcell k hlt
    clear hcell hc hdg
    have HL := Lib.hid hl
    clear hl
    go_enter Tryz.func86, Tryz.ntmps86
    go_wp2
    go_ret
    exact ⟨rfl, rfl⟩
  · have hz : l[k]?.getD 0 = 0 := by rw [List.getElem?_eq_none (by omega)]; rfl
    have HZ := Lib.hid hz
    clear hc hdg hl hz
    go_enter Tryz.func86, Tryz.ntmps86
    go_wp2
    go_ret
    exact ⟨by rw [HZ.out]; rfl, rfl⟩

end Go.Proofs.YtpephogadljncaaGreat

/-
  The contracts of nat.pairs and of the iterator that it hands back.
-/
namespace Go.Proofs.YtpephogadljncaaGreat
set_option maxRecDepth 100000
open Go.RowKit Go.Shelf

attribute [local go_sem] Oper.semAt_some

/-- nat.pairs: both slices are boxed; the function value captures the boxes. -/
theorem pairs_any (a b : Value) (A B : Option Addr) (n c m d : Nat) (ha : a = .slice A n c) (hb : b = .slice B m d) (w : World) :
    Calls Tryz.prog 54 #[a, b] w fun e w' => e = .returned (.func (.func 85) #[] #[.pointer (some ⟨w.heap.size, 0, none⟩), .pointer (some ⟨w.heap.size + 1, 0, none⟩)]) ∧ w' = (w.alloc (.cells #[a] 24)).alloc (.cells #[b] 24) := by
  subst ha hb
  go_enter Tryz.func54, Tryz.ntmps54
  go_wp2
  go_ret
  exact ⟨rfl, rfl⟩

/-- A pair of digits. -/
abbrev Pair := { x : Nat × Nat // x.1 < B64 ∧ x.2 < B64 }
/-- The pair at place j; noughts behind the end. -/
def pairAt {la lb : List Nat} (ha : Dig la) (hb : Dig lb) (j : Nat) : Pair := ⟨(la[j]?.getD 0, lb[j]?.getD 0), ha.get j, hb.get j⟩
/-- What has come when k rounds are over. -/
def upto {la lb : List Nat} (ha : Dig la) (hb : Dig lb) (k : Nat) : List Pair := (List.range k).map (pairAt ha hb)
section
variable {la lb : List Nat} (ha : Dig la) (hb : Dig lb)
theorem upto_zero : upto ha hb 0 = [] := rfl
theorem upto_succ (k : Nat) : upto ha hb (k + 1) = upto ha hb k ++ [pairAt ha hb k] := by simp [upto, List.range_succ]
theorem upto_length (k : Nat) : (upto ha hb k).length = k := by simp [upto]
end

/-- What a round keeps: all that lies below n, and the two boxes of the iterator. -/
def Keep (n₀ Ba Bb : Nat) (W W' : World) : Prop := Below n₀ W W' ∧ W'.heap[Ba]? = W.heap[Ba]? ∧ W'.heap[Bb]? = W.heap[Bb]?
theorem Keep.refl (n₀ Ba Bb : Nat) (W : World) : Keep n₀ Ba Bb W W := ⟨Below.refl _ _, rfl, rfl⟩
theorem Keep.trans {n₀ Ba Bb : Nat} {W W' W'' : World} (h : Keep n₀ Ba Bb W W') (k : Keep n₀ Ba Bb W' W'') : Keep n₀ Ba Bb W W'' := ⟨h.1.trans k.1, k.2.1.trans h.2.1, k.2.2.trans h.2.2⟩

/-- What is known behind a call of yield that has answered bv. -/
def PostY (J Jx : List Pair → World → Prop) (pre : List Pair) (n₀ Ba Bb : Nat) (W : World) (bv : Bool) (W' : World) : Prop :=
  (bv = true ∧ J pre W' ∧ Keep n₀ Ba Bb W W') ∨ (bv = false ∧ Jx pre W')

set_option maxHeartbeats 2000000 in
theorem pairs1_in (l Ba Bb n₀ : Nat) (A B : Option Addr) (n c m d : Nat) (la lb : List Nat) (dga : Dig la) (dgb : Dig lb) (J Jx : List Pair → World → Prop)
    (hn : n ≤ 4294967296) (hm : m ≤ 4294967296)
    (hY : ∀ pre x W, J pre W → pre.length < max n m → YieldAt Fence.wide 8 Tryz.prog l #[.int .u64 (x.1.1 : Int), .int .u64 (x.1.2 : Int)] W fun e W' =>
      (e = .returned (.bool true) ∧ J (pre ++ [x]) W' ∧ Keep n₀ Ba Bb W W') ∨ (e = .returned (.bool false) ∧ Jx (pre ++ [x]) W'))
    (hJ : ∀ pre W, J pre W → J pre W.drew)
    (W : World)
    (hca : Boxed W Ba 24 (.slice A n c)) (hcb : Boxed W Bb 24 (.slice B m d))
    (ha : Lim n₀ W A n c la) (hb : Lim n₀ W B m d lb) (h0 : J [] W) :
    CallsIn Fence.wide 9 Tryz.prog 85 #[.func (.yield l) #[] #[], .pointer (some ⟨Ba, 0, none⟩), .pointer (some ⟨Bb, 0, none⟩)] W fun e W' => (∃ v, e = .returned v) ∧
      ((∃ ys, ys = upto dga dgb (max n m) ∧ J ys W') ∨ (∃ pre, (∃ k, k ≤ max n m ∧ pre = upto dga dgb k) ∧ Jx pre W')) := by
  have hmo : Tryz.prog.follows .mixedOrders = true := by kernel_rfl
  have hca' := hca.cell
  have hcb' := hcb.cell
  refine callsIn_of_wp Tryz.func85 rfl trivial ?_ rfl
  simp only [Tryz.ntmps85, List.size_toArray, List.length_cons, List.length_nil, Nat.reduceAdd, Nat.reduceSub, Array.replicate_succ, Array.replicate_zero, List.push_toArray, List.append_toArray, List.nil_append, List.cons_append]
  gi_wp2
  clear hca' hcb'
  all_goals
    gi_loopw [10] (fun i wr => ∃ k : Nat, k ≤ max n m ∧ i = .int .i64 k ∧ J (upto dga dgb k) wr ∧ Keep n₀ Ba Bb W wr)
      (fun i _ => max n m - (intOf i).toNat)
    case atStart => exact ⟨0, Nat.zero_le _, rfl, h0, Keep.refl _ _ _ _⟩
    case round =>
      obtain ⟨k, hk, rfl, hJs, hkp⟩ := hrel
      by_cases hlt : k < max n m
      · have hc1 : wr.cell? ⟨Ba, 0, none⟩ = some (.slice A n c) := Boxed.cell (hkp.2.1.trans hca)
        have hc2 : wr.cell? ⟨Bb, 0, none⟩ = some (.slice B m d) := Boxed.cell (hkp.2.2.trans hcb)
        have hla : Lim n₀ wr.drew A n c la := (ha.below hkp.1).drew
        have hlb : Lim n₀ wr.drew B m d lb := (hb.below hkp.1).drew
        obtain ⟨fn, tmps, assign, body, hy, hR⟩ := hY _ (pairAt dga dgb k) wr.drew (hJ _ _ hJs) (by rw [upto_length]; exact hlt)
        dsimp only [pairAt] at hy
        have hR' : RoundIn Fence.wide 8 Tryz.prog l fn tmps assign body wr.drew fun e W' => ∃ bv : Bool, e = .returned (.bool bv) ∧ PostY J Jx (upto dga dgb (k + 1)) n₀ Ba Bb wr bv W' := hR.mono fun e W' h => by
          rw [upto_succ]
          rcases h with ⟨rfl, h1, h2⟩ | ⟨rfl, h1⟩
          · exact ⟨true, rfl, .inl ⟨rfl, h1, ⟨(Below.refl n₀ wr).drew.trans h2.1, h2.2.1, h2.2.2⟩⟩⟩
          · exact ⟨false, rfl, .inr ⟨rfl, h1⟩⟩
        clear hR
        gi_wp2
        gi_region_with_o (first
          | (refine ⟨trivial, ?_⟩; gi_at_call 86; refine (callsIn_wide.2 (limb_any n₀ _ _ _ _ _ _ (by assumption) (by omega) (by omega))).mono ?_; rintro e w' ⟨rfl, rfl⟩)
          | (refine hR'.mono ?_; rintro e W3 ⟨bv, rfl, hpost⟩))
        all_goals
          rcases hpost with ⟨rfl, hJ3, hk3⟩ | ⟨rfl, hJx3⟩
          · gi_wp2
            go_roundw
            case rel => exact ⟨k + 1, by omega, by go_num, hJ3, hkp.trans hk3⟩
            case measure => simp [intOf]; omega
          · gi_wp2
            refine bodyPost_ret (results_none rfl _ _ _) rfl ?_
            exact ⟨⟨_, rfl⟩, .inr ⟨_, ⟨k + 1, by omega, rfl⟩, hJx3⟩⟩
      · obtain rfl : k = max n m := by omega
        gi_wp2
        go_end0
        exact ⟨⟨_, rfl⟩, .inl ⟨_, rfl, hJs⟩⟩

/-- The iterator's contract, as a loop over it wants it. -/
theorem pairs_stops (Ba Bb n₀ : Nat) (A B : Option Addr) (n c m d : Nat) (la lb : List Nat) (dga : Dig la) (dgb : Dig lb)
    (hn : n ≤ 4294967296) (hm : m ≤ 4294967296) (w : World) (hBn : n₀ ≤ w.heap.size)
    (hca : Boxed w Ba 24 (.slice A n c)) (hcb : Boxed w Bb 24 (.slice B m d)) (ha : Lim n₀ w A n c la) (hb : Lim n₀ w B m d lb) :
    SeqStopsK Fence.wide 9 Tryz.prog 85 #[.pointer (some ⟨Ba, 0, none⟩), .pointer (some ⟨Bb, 0, none⟩)] (fun x : Pair => #[Value.int .u64 (x.1.1 : Int), Value.int .u64 (x.1.2 : Int)])
      (Keep n₀ Ba Bb) (fun ys => ys = upto dga dgb (max n m)) (fun pre => ∃ k, k ≤ max n m ∧ pre = upto dga dgb k) (max n m) w := fun l J Jx W hW hJa _ hY h0 =>
  pairs1_in l Ba Bb n₀ A B n c m d la lb dga dgb J Jx hn hm hY (fun pre W' hj => hJa pre W' W'.drew none hj ⟨rfl, rfl, rfl, Nat.le_refl _, fun _ _ _ => rfl⟩ (fun _ h => by cases h)) W
    ((hW.block Ba hca.lt).trans hca) ((hW.block Bb hcb.lt).trans hcb) (ha.below (hW.mono hBn)) (hb.below (hW.mono hBn)) h0

theorem keep_b {w : World} {n₀ Ba Bb : Nat} (hn : n₀ ≤ w.heap.size) (ha : Ba < w.heap.size) (hb : Bb < w.heap.size) (W : World) (l : Nat) (o o' : Obj) (hl : w.heap.size ≤ l) (ho : W.heap[l]? = some o) (hc : o.isCells = false) (hw : o.isWalk = false) :
    Keep n₀ Ba Bb W (W.putObj l o') :=
  ⟨belowK_b hn W l o o' hl ho hc hw, World.putObj_heap_other (by omega), World.putObj_heap_other (by omega)⟩

end Go.Proofs.YtpephogadljncaaGreat

/-
  Sums digit by digit: what nat.Add reckons, and that it is the sum.
-/
namespace Go.Proofs.YtpephogadljncaaGreat

def addStep (s : List Nat × Nat) (x : Pair) : List Nat × Nat := (s.1 ++ [sumLo x.1.1 x.1.2 s.2], sumHi x.1.1 x.1.2 s.2)
def addS (l : List Pair) : List Nat × Nat := l.foldl addStep ([], 0)
/-- The digits so far, and the carry. -/
def addD (l : List Pair) : List Nat := (addS l).1
def addC (l : List Pair) : Nat := (addS l).2
theorem addS_snoc (l : List Pair) (x : Pair) : addS (l ++ [x]) = addStep (addS l) x := by simp [addS]
theorem addD_snoc (l : List Pair) (x : Pair) : addD (l ++ [x]) = addD l ++ [sumLo x.1.1 x.1.2 (addC l)] := by unfold addD addC; rw [addS_snoc]; rfl
theorem addC_snoc (l : List Pair) (x : Pair) : addC (l ++ [x]) = sumHi x.1.1 x.1.2 (addC l) := by unfold addC; rw [addS_snoc]; rfl
theorem addD_nil : addD [] = [] := rfl
theorem addC_nil : addC [] = 0 := rfl
/-- An induction from the list's end. -/
theorem snoc_ind {α : Type} {P : List α → Prop} (h0 : P []) (h1 : ∀ l x, P l → P (l ++ [x])) (l : List α) : P l := by
  have : ∀ r : List α, P r.reverse := fun r => by
    induction r with
    | nil => exact h0
    | cons x r ih => rw [List.reverse_cons]; exact h1 _ _ ih
  have h := this l.reverse
  rwa [List.reverse_reverse] at h
theorem addC_le (l : List Pair) : addC l ≤ 1 :=
  snoc_ind (P := fun l => addC l ≤ 1) (by simp [addC_nil]) (fun l x ih => by rw [addC_snoc]; exact sumHi_le x.2.1 x.2.2 ih) l
theorem addD_length (l : List Pair) : (addD l).length = l.length :=
  snoc_ind (P := fun l => (addD l).length = l.length) (by simp [addD_nil]) (fun l x ih => by rw [addD_snoc]; simp [ih]) l
theorem addD_dig (l : List Pair) : Dig (addD l) :=
  snoc_ind (P := fun l => Dig (addD l)) (by rw [addD_nil]; exact Dig.nil) (fun l x ih => by rw [addD_snoc]; exact ih.snoc (sumLo_lt _ _ _)) l

theorem addS_upto {la lb : List Nat} (ha : Dig la) (hb : Dig lb) (k : Nat) :
    val (addD (upto ha hb k)) + B64 ^ k * addC (upto ha hb k) = val (la.take k) + val (lb.take k) := by
  induction k with
  | zero => simp [upto_zero, addD_nil, addC_nil, val_nil]
  | succ k ih =>
    rw [upto_succ, addD_snoc, addC_snoc, val_snoc, addD_length, upto_length, val_take_succ, val_take_succ]
    have h := sum_split (pairAt ha hb k).1.1 (pairAt ha hb k).1.2 (addC (upto ha hb k))
    rw [Nat.pow_succ, Nat.mul_assoc]
    have h2 : B64 ^ k * sumLo (pairAt ha hb k).1.1 (pairAt ha hb k).1.2 (addC (upto ha hb k)) + B64 ^ k * (B64 * sumHi (pairAt ha hb k).1.1 (pairAt ha hb k).1.2 (addC (upto ha hb k))) = B64 ^ k * (la[k]?.getD 0) + B64 ^ k * (lb[k]?.getD 0) + B64 ^ k * addC (upto ha hb k) := by
      rw [← Nat.mul_add, h, Nat.mul_add, Nat.mul_add]; rfl
    omega

/-- Without a carry the digits are the sum's, if the two lists were the numbers' own. -/
theorem add_done0 (x y : Nat) (h : addC (upto (limbs_dig x) (limbs_dig y) (max (limbs x).length (limbs y).length)) = 0) :
    addD (upto (limbs_dig x) (limbs_dig y) (max (limbs x).length (limbs y).length)) = limbs (x + y) := by
  have hv := addS_upto (limbs_dig x) (limbs_dig y) (max (limbs x).length (limbs y).length)
  rw [h, List.take_of_length_le (by omega), List.take_of_length_le (by omega), val_limbs, val_limbs, Nat.mul_zero, Nat.add_zero] at hv
  rw [← hv]
  refine eq_limbs (addD_dig _) fun h0 => ?_
  rw [hv, addD_length, upto_length]
  rw [addD_length, upto_length] at h0
  rcases Nat.le_total (limbs x).length (limbs y).length with h1 | h1
  · rw [Nat.max_eq_right h1] at h0 ⊢
    have := limbs_ge h0
    omega
  · rw [Nat.max_eq_left h1] at h0 ⊢
    have := limbs_ge h0
    omega

/-- With one, it is the last digit. -/
theorem add_done1 (x y : Nat) (h : addC (upto (limbs_dig x) (limbs_dig y) (max (limbs x).length (limbs y).length)) ≠ 0) :
    addD (upto (limbs_dig x) (limbs_dig y) (max (limbs x).length (limbs y).length)) ++ [addC (upto (limbs_dig x) (limbs_dig y) (max (limbs x).length (limbs y).length))] = limbs (x + y) := by
  have hv := addS_upto (limbs_dig x) (limbs_dig y) (max (limbs x).length (limbs y).length)
  have hc := addC_le (upto (limbs_dig x) (limbs_dig y) (max (limbs x).length (limbs y).length))
  rw [List.take_of_length_le (by omega), List.take_of_length_le (by omega), val_limbs, val_limbs] at hv
  have hl : (addD (upto (limbs_dig x) (limbs_dig y) (max (limbs x).length (limbs y).length))).length = max (limbs x).length (limbs y).length := by rw [addD_length, upto_length]
  have hv2 := val_snoc (addD (upto (limbs_dig x) (limbs_dig y) (max (limbs x).length (limbs y).length))) (addC (upto (limbs_dig x) (limbs_dig y) (max (limbs x).length (limbs y).length)))
  rw [hl, hv] at hv2
  rw [← hv2]
  refine eq_limbs ((addD_dig _).snoc (by have := B64_gt; omega)) fun _ => ?_
  rw [hv2, ← hv, List.length_append, hl]
  have h1 : addC (upto (limbs_dig x) (limbs_dig y) (max (limbs x).length (limbs y).length)) = 1 := by omega
  rw [h1]
  simp

end Go.Proofs.YtpephogadljncaaGreat

/-
  What the library's Add64 and Sub64 answer, as equations for a walk.
-/
namespace Go.Proofs.YtpephogadljncaaGreat
set_option maxRecDepth 100000
open Go.RowKit

def tup64 (a b : Nat) : Value := .tuple #[.int .u64 (a : Int), .int .u64 (b : Int)]

theorem B64_m64 : Extern.MathBitsCarry.m64 = B64 := by unfold Extern.MathBitsCarry.m64 B64; omega

theorem add64_run (x y c : Nat) (hc : c ≤ 1) (w : World) :
    (callFunc 55 #[.int .u64 (x : Int), .int .u64 (y : Int), .int .u64 (c : Int)]).run Tryz.prog w = .ok (.value (.tuple #[.int .u64 (sumLo x y c : Int), .int .u64 (sumHi x y c : Int)])) w := by
  rw [run_callFunc_extern (e := add64Entry) Tryz.func55 (by kernel_rfl) (by kernel_rfl) (by kernel_rfl) (by kernel_rfl)]
  have key : ∀ k : Nat, k ≤ 1 → (add64Entry #[.int .u64 (x : Int), .int .u64 (y : Int), .int .u64 (k : Int)]).run Tryz.prog w =
      .ok (Extern.MathBitsCarry.pair ((x + y + k) % Extern.MathBitsCarry.m64) ((x + y + k) / Extern.MathBitsCarry.m64)) w := by
    intro k hk
    have : k = 0 ∨ k = 1 := by omega
    rcases this with rfl | rfl <;> rfl
  rw [key c hc, B64_m64]
  rfl

def sub64Entry : Array Value → Sem Value := fun args => do
  let (x, y, b) ← Extern.MathBitsCarry.three "Sub64" args
  pure (Extern.MathBitsCarry.pair ((x + Extern.MathBitsCarry.m64 - y - b) % Extern.MathBitsCarry.m64) (if x < y + b then 1 else 0))

theorem sub64_run (x y c : Nat) (hc : c ≤ 1) (w : World) :
    (callFunc 77 #[.int .u64 (x : Int), .int .u64 (y : Int), .int .u64 (c : Int)]).run Tryz.prog w = .ok (.value (.tuple #[.int .u64 (subLo x y c : Int), .int .u64 (subHi x y c : Int)])) w := by
  rw [run_callFunc_extern (e := sub64Entry) Tryz.func77 (by kernel_rfl) (by kernel_rfl) (by kernel_rfl) (by kernel_rfl)]
  have key : ∀ k : Nat, k ≤ 1 → (sub64Entry #[.int .u64 (x : Int), .int .u64 (y : Int), .int .u64 (k : Int)]).run Tryz.prog w =
      .ok (Extern.MathBitsCarry.pair ((x + Extern.MathBitsCarry.m64 - y - k) % Extern.MathBitsCarry.m64) (if x < y + k then 1 else 0)) w := by
    intro k hk
    have : k = 0 ∨ k = 1 := by omega
    rcases this with rfl | rfl <;> rfl
  rw [key c hc, B64_m64]
  rfl

end Go.Proofs.YtpephogadljncaaGreat

/-
  The contract of nat.trim.
-/
namespace Go.Proofs.YtpephogadljncaaGreat
set_option maxRecDepth 100000
open Go.RowKit

theorem val_take_zero {l : List Nat} {k : Nat} (hz : l[k]?.getD 0 = 0) (h : val (l.take (k + 1)) = val l) : val (l.take k) = val l := by
  rw [val_take_succ, hz] at h
  simpa using h

theorem take_limbs {l : List Nat} (hd : Dig l) {k : Nat} (hk : k ≤ l.length) (hv : val (l.take k) = val l) (h : 0 < k → l[k - 1]?.getD 0 ≠ 0) : l.take k = limbs (val l) := by
  rw [← hv]
  refine eq_limbs (hd.take k) fun h0 => ?_
  rw [List.length_take, Nat.min_eq_left hk] at h0 ⊢
  obtain ⟨j, rfl⟩ : ∃ j, k = j + 1 := ⟨k - 1, by omega⟩
  rw [val_take_succ, Nat.add_sub_cancel]
  have h1 := h h0
  rw [Nat.add_sub_cancel] at h1
  have h2 : B64 ^ j * 1 ≤ B64 ^ j * l[j]?.getD 0 := Nat.mul_le_mul_left _ (by omega)
  omega

set_option maxHeartbeats 1000000 in
theorem trim_lim (B : Nat) (A : Option Addr) (n c : Nat) (l : List Nat) (w : World) (h : Lim B w A n c l) (hn : n ≤ 4294967296) :
    Calls Tryz.prog 57 #[.slice A n c] w fun e w' => ∃ k, e = .returned (.slice A k c) ∧ Lim B w A k c (limbs (val l)) ∧ w = w' := by
  obtain ⟨hl, hcap, hdg, hc⟩ := h
  have HL := Lib.hid hl
  clear hl
  go_enter Tryz.func57, Tryz.ntmps57
  go_wp2
  go_loop [0] (fun v => ∃ k : Nat, k ≤ n ∧ v = .slice A k c ∧ Hid (val (l.take k) = val l)) (fun v => match v with | .slice _ k _ => k | _ => 0)
  case atStart => exact ⟨n, Nat.le_refl _, rfl, by rw [List.take_of_length_le (by have := HL.out; omega)]; exact Lib.hid rfl⟩
  case round =>
    obtain ⟨k, hk, rfl, hv⟩ := hrel
    by_cases h0 : k = 0
    · subst h0
      go_wp2
      go_ret
      refine ⟨0, rfl, ?_, rfl⟩
      have := take_limbs hdg (k := 0) (Nat.zero_le _) hv.out (by omega)
      rw [← this]
      exact Lim.nil _ _ _ _
    · obtain ⟨j, hj⟩ : ∃ j, k = j + 1 := ⟨k - 1, by omega⟩
      subst hj
      obtain ⟨b, off, rfl, hb, hcell⟩ := hc (by omega)
      have h1 := hcell j (by omega)
      by_cases hz : l[j]?.getD 0 = 0
      · have hzb : (((l[j]?.getD 0 : Nat) : Int) == 0) = true := by simp [hz]
        have HZ := Lib.hid hz
        clear hz
        go_wp2
        exact ⟨⟨j, by omega, rfl, Lib.hid (val_take_zero HZ.out hv.out)⟩, Nat.lt_succ_self j⟩
      · have hzb : (((l[j]?.getD 0 : Nat) : Int) == 0) = false := by simp [hz]
        have HZ := Lib.hid hz
        clear hz
        go_wp2
        go_ret
        refine ⟨j + 1, rfl, ?_, rfl⟩
        have ht := take_limbs hdg (k := j + 1) (by have := HL.out; omega) hv.out (fun _ => by rw [Nat.add_sub_cancel]; exact HZ.out)
        rw [← ht]
        refine ⟨by rw [List.length_take, Nat.min_eq_left (by have := HL.out; omega)], by omega, hdg.take _, fun _ => ⟨b, off, rfl, hb, fun i hi => ?_⟩⟩
        rw [List.getElem?_take_of_lt hi]
        exact hcell i (by omega)

end Go.Proofs.YtpephogadljncaaGreat

/-
  What nat.Add and nat.Sub share: the greater of two lengths; a row of digits of the call's own.
-/
namespace Go.Proofs.YtpephogadljncaaGreat
set_option maxRecDepth 100000
open Go.RowKit Go.Shelf

attribute [local go_sem] Oper.semAt_some

/-- The greater of two, behind a name. -/
def mx (a b : Nat) : Nat := max a b
theorem mx_run {P : Program} (w : World) (ts : Array TypeId) (t : TypeId) (x y : Nat) : (Builtin.max_ ts t #[.int .i64 (x : Int), .int .i64 (y : Int)]).run P w = .ok (.int .i64 (mx x y : Int)) w := by
  rw [run_max_int2]
  congr 2
  unfold mx
  split <;> omega
theorem info24 : (Tryz.prog.info? 37).map (fun i => (i.zero, i.size, i.bytes)) = some (some (.int .u64 0), 1, 8) := by kernel_rfl

/-- A digit as a value. -/
def encD (x : Nat) : Value := .int .u64 (x : Int)

theorem row_own {β : Type} (n₀ : Nat) (e : TypeId) (size : Nat) (v : β → Value) (k : β → Nat) (f : β → List Value) : Own (fun s W => W.ownsRow n₀ e size (v s) (k s) (f s)) := by
  rintro s X Y row hr hg hrow
  refine hr.kept hg ?_
  rcases hr.2 with ⟨h, _⟩ | ⟨g, cap, cur, h, _, hgb, _⟩
  · exact .inl (by rw [h]; rfl)
  · refine .inr fun e' => ?_
    obtain ⟨o, ho, hc⟩ := hrow g (by rw [← e', h]; rfl)
    rw [hgb] at ho; cases ho; cases hc

/-- An owned row of digits reads as these digits. -/
theorem Lim.of_own {w : World} {base : Nat} {e : TypeId} {A : Option Addr} {n c : Nat} {l : List Nat} (h : w.ownsRow base e 1 (.slice A n c) n (l.map encD)) (hd : Dig l) : Lim w.heap.size w A n c l := by
  have hl : n = l.length := by have := h.1; simp at this; omega
  refine ⟨hl, ?_, hd, fun hn => ?_⟩
  · rcases h.2 with ⟨e1, h0⟩ | ⟨g, cap, cur, e1, _, _, hnc, _⟩
    · omega
    · injection e1 with _ _ e2; omega
  · have hlt := h.lt
    rcases h.2 with ⟨e1, h0⟩ | ⟨g, cap, cur, e1, _, _, hnc, _⟩
    · omega
    · injection e1 with e2 _ e3
      subst e2; subst e3
      refine ⟨g, 0, rfl, (hlt g rfl).2, fun j hj => ?_⟩
      have := h.cellAt j (by omega)
      rw [Nat.zero_add, this, List.getElem?_map, List.getElem?_eq_getElem (by omega)]
      simp [encD]

end Go.Proofs.YtpephogadljncaaGreat

/-
  The contract of nat.Add.
-/
namespace Go.Proofs.YtpephogadljncaaGreat
set_option maxRecDepth 100000
open Go.RowKit Go.Shelf

attribute [local go_sem] Oper.semAt_some
attribute [local go_sem ↓] mx_run

set_option maxHeartbeats 2000000 in
theorem add_lim (A B : Option Addr) (n c m d x y : Nat) (w : World) (ha : Lim w.heap.size w A n c (limbs x)) (hb : Lim w.heap.size w B m d (limbs y)) (hn : n ≤ 4294967296) (hm : m ≤ 4294967296) :
    Calls Tryz.prog 27 #[.slice A n c, .slice B m d] w fun e w' => ∃ v, e = .returned v ∧ IsN w' v (x + y) ∧ Below w.heap.size w w' := by
  obtain ⟨i0, hi, hz0, hz1, hz2⟩ := info_parts info24
  refine (callsIn_wide (n := 10)).1 ?_
  refine callsIn_of_wp_marks Tryz.func27 rfl trivial ?_ rfl
  simp only [Tryz.ntmps27, List.size_toArray, List.length_cons, List.length_nil, Nat.reduceAdd, Nat.reduceSub, Array.replicate_succ, Array.replicate_zero, List.push_toArray, List.append_toArray, List.nil_append, List.cons_append]
  have hnl := Lib.hid ha.1
  have hml := Lib.hid hb.1
  have hmx : mx n m ≤ 4294967296 := by unfold mx; omega
  obtain ⟨s, hs⟩ : ∃ s, w.heap.size = s := ⟨_, rfl⟩
  have HS := Lib.hid hs
  clear hs
  gi_wp2_with (first
    | (gi_at_make; refine wpListIn_make_own _ rfl _ _ 24 rfl s 37 i0 (.int .u64 0) 1 Tryz.underlying24 hi hz0 hz1 .i64 .i64 _ (mx n m + 1) rfl rfl (by omega) (by rw [hz2]; omega) (by unfold maxLen; omega) (by rw [HS.out]; omega) ?_; intro w1 hown1 hgrow1)
    | (refine ⟨trivial, ?_⟩; gi_at_call 54; refine (callsIn_wide.2 (pairs_any _ _ _ _ _ _ _ _ rfl rfl _)).mono ?_; rintro e w' ⟨rfl, rfl⟩))
  obtain ⟨t, ht⟩ : ∃ t, w1.heap.size = t := ⟨_, rfl⟩
  rw [HS.out] at hown1 ha hb ⊢
  rw [ht]
  have hst : s < t := by have := (hown1.lt s rfl).2; omega
  have bS := Boxed.new w1 24 (.slice (some ⟨s, 0, none⟩) 0 (mx n m + 1))
  rw [ht] at bS
  obtain ⟨w2, hw2⟩ : ∃ w2, w1.alloc (.cells #[.slice (some ⟨s, 0, none⟩) 0 (mx n m + 1)] 24) = w2 := ⟨_, rfl⟩
  have hz2' : w2.heap.size = t + 1 := by rw [← hw2, World.size_alloc, ht]
  have hown2 := hown1.alloc (.cells #[.slice (some ⟨s, 0, none⟩) 0 (mx n m + 1)] 24)
  have hB2 : Below s w w2 := by rw [← hw2]; exact (((Below.refl s w).grown hgrow1 (by have := HS.out; omega) (fun k h => by cases h)).alloc (by omega) _)
  rw [hw2] at bS hown2 ⊢
  have bC := Boxed.new w2 37 (.int .u64 0)
  rw [hz2'] at bC
  obtain ⟨w3, hw3⟩ : ∃ w3, w2.alloc (.cells #[.int .u64 0] 37) = w3 := ⟨_, rfl⟩
  have hz3' : w3.heap.size = t + 1 + 1 := by rw [← hw3, World.size_alloc, hz2']
  have hown3 := hown2.alloc (.cells #[.int .u64 0] 37)
  have bS3 := bS.alloc (.cells #[.int .u64 0] 37)
  have hB3 : Below s w w3 := by rw [← hw3]; exact hB2.alloc (by omega) _
  rw [hw3] at bC hown3 bS3 ⊢
  have bA := Boxed.new w3 24 (.slice A n c)
  rw [hz3'] at bA
  obtain ⟨w4, hw4⟩ : ∃ w4, w3.alloc (.cells #[.slice A n c] 24) = w4 := ⟨_, rfl⟩
  have hz4' : w4.heap.size = t + 1 + 1 + 1 := by rw [← hw4, World.size_alloc, hz3']
  have hown4 := hown3.alloc (.cells #[.slice A n c] 24)
  have bS4 := bS3.alloc (.cells #[.slice A n c] 24)
  have bC4 := bC.alloc (.cells #[.slice A n c] 24)
  have hB4 : Below s w w4 := by rw [← hw4]; exact hB3.alloc (by omega) _
  rw [hw4] at bA hown4 bS4 bC4 ⊢
  have bB := Boxed.new w4 24 (.slice B m d)
  rw [hz4'] at bB
  obtain ⟨W0, hW0⟩ : ∃ w5, w4.alloc (.cells #[.slice B m d] 24) = w5 := ⟨_, rfl⟩
  have hsz : W0.heap.size = t + 4 := by rw [← hW0, World.size_alloc, hz4']
  have hown5 := hown4.alloc (.cells #[.slice B m d] 24)
  have bS5 := bS4.alloc (.cells #[.slice B m d] 24)
  have bC5 := bC4.alloc (.cells #[.slice B m d] 24)
  have bA5 := bA.alloc (.cells #[.slice B m d] 24)
  have hB0 : Below s w W0 := by rw [← hW0]; exact hB4.alloc (by omega) _
  rw [hW0] at bB hown5 bS5 bC5 bA5 ⊢
  clear hown1 hgrow1 hw2 hz2' hown2 hB2 hw3 hz3' hown3 bS3 hB3 hw4 hz4' hown4 bS4 bC4 hB4 bS bC bA hW0 ht
  refine wpIn_rangeFunc_ownG rfl (by decide) (gf := 85) (lb := #[.pointer (some ⟨t + 1 + 1, 0, none⟩), .pointer (some ⟨t + 1 + 1 + 1, 0, none⟩)]) rfl trivial (enters_of Tryz.func85 (by kernel_rfl) rfl)
    (pairs_stops (t + 1 + 1) (t + 1 + 1 + 1) s A B n c m d (limbs x) (limbs y) (limbs_dig x) (limbs_dig y) hn hm W0 (by omega) bA5 bB (ha.below hB0) (hb.below hB0))
    (fun h k => h.trans k) (keep_b (by omega) (by omega) (by omega)) (Below.refl _ _) (fun _ => rfl)
    (fun pre W => (Boxed W t 24 (.slice (some ⟨s, 0, none⟩) pre.length (mx n m + 1)) ∧ Boxed W (t + 1) 37 (.int .u64 (addC pre : Int)) ∧ Boxed W (t + 1 + 1) 24 (.slice A n c) ∧ Boxed W (t + 1 + 1 + 1) 24 (.slice B m d) ∧
      W.ownsRow s 37 1 (.slice (some ⟨s, 0, none⟩) pre.length (mx n m + 1)) pre.length ((addD pre).map encD)) ∧ Below s w W)
    (fun _ _ _ => False)
    (OwnFrom.and (OwnFrom.and (Own.from (boxed_own _ _ _) _) (OwnFrom.and (Own.from (boxed_own _ _ _) _) (OwnFrom.and (Own.from (boxed_own _ _ _) _) (OwnFrom.and (Own.from (boxed_own _ _ _) _) (Own.from (row_own _ _ _ _ _ _) _))))) (ownFrom_below (by have := HS.out; omega) (by omega)))
    (fun _ _ _ _ _ hs _ _ => hs)
    ⟨⟨bS5, bC5, bA5, bB, hown5⟩, hB0⟩
    (fun x => { tmps := #[.slice A n c, .slice B m d, undef, undef, .slice none 0 0, .pointer (some ⟨t, 0, none⟩), .pointer (some ⟨t + 1, 0, none⟩), .int .u64 (x.1.1 : Int), .int .u64 (x.1.2 : Int), undef, .slice A n c, .int .i64 (n : Int), .slice B m d, .int .i64 (m : Int), .int .i64 (mx n m : Int), .int .i64 ((mx n m : Int) + 1), .slice (some ⟨s, 0, none⟩) 0 (mx n m + 1), .slice A n c, .slice B m d,
      .func (.func 85) #[] #[.pointer (some ⟨t + 1 + 1, 0, none⟩), .pointer (some ⟨t + 1 + 1 + 1, 0, none⟩)], .int .u64 (x.1.1 : Int), .int .u64 (x.1.2 : Int), undef, undef, undef, undef, undef, undef, undef, undef, undef, undef, undef, undef, undef, undef, undef, undef, undef, undef], defers := [] }) ?assign ?body ?done ?stop
  case assign =>
    intro l x W K hK
    gi_wp2
    exact hK
  case body =>
    rintro l pre x W ⟨⟨hS, hC, hA, hB, hrow⟩, hBl⟩ hlt
    have hc1 := hS.cell
    have hf1 := hS.frozen
    have hc2 := hC.cell
    have hf2 := hC.frozen
    have h39 := add64_run x.1.1 x.1.2 (addC pre) (addC_le pre)
    have hF39 : Fence.wide.fn 55 := trivial
    have hrow2 := (hrow.kept (grownBy_setCell' W (t + 1) (.int .u64 (sumHi x.1.1 x.1.2 (addC pre) : Int))) (.inr (by simp [Value.ownBlock]; omega))).alloc (.cells #[.int .u64 (sumLo x.1.1 x.1.2 (addC pre) : Int)] 37)
    have hcn := cell_one_new (W.setCell ⟨t + 1, 0, none⟩ (.int .u64 (sumHi x.1.1 x.1.2 (addC pre) : Int))) (.int .u64 (sumLo x.1.1 x.1.2 (addC pre) : Int)) 37
    rw [World.size_setCell] at hcn
    gi_wp2_with (gi_at_builtin; refine wpListIn_append_fits _ rfl _ _ 24 rfl s 37 i0 1 Tryz.underlying24 hi hz1 s pre.length (mx n m + 1) _ rfl hrow2 ⟨W.heap.size, 0, none⟩ 1 1 [.int .u64 (sumLo x.1.1 x.1.2 (addC pre) : Int)] rfl rfl hcn (by simp [Value.oneCell']) (by unfold mx; omega) ?_; intro w6 hown6 hgrow6; have hS6 := ((hS.other (B' := t + 1) (by omega) (.int .u64 (sumHi x.1.1 x.1.2 (addC pre) : Int))).alloc (.cells #[.int .u64 (sumLo x.1.1 x.1.2 (addC pre) : Int)] 37)).kept hgrow6 (by simp; omega); have hc6 := hS6.cell; have hf6 := hS6.frozen)
    have hC6 := ((hC.set (.int .u64 (sumHi x.1.1 x.1.2 (addC pre) : Int))).alloc (.cells #[.int .u64 (sumLo x.1.1 x.1.2 (addC pre) : Int)] 37)).kept hgrow6 (by simp; omega)
    have hA6 := ((hA.other (B' := t + 1) (by omega) (.int .u64 (sumHi x.1.1 x.1.2 (addC pre) : Int))).alloc (.cells #[.int .u64 (sumLo x.1.1 x.1.2 (addC pre) : Int)] 37)).kept hgrow6 (by simp; omega)
    have hB6 := ((hB.other (B' := t + 1) (by omega) (.int .u64 (sumHi x.1.1 x.1.2 (addC pre) : Int))).alloc (.cells #[.int .u64 (sumLo x.1.1 x.1.2 (addC pre) : Int)] 37)).kept hgrow6 (by simp; omega)
    have hA7 := hA6.other (B' := t) (by omega) (.slice (some ⟨s, 0, none⟩) (pre.length + 1) (mx n m + 1))
    have hB7 := hB6.other (B' := t) (by omega) (.slice (some ⟨s, 0, none⟩) (pre.length + 1) (mx n m + 1))
    have hC7 := hC6.other (B' := t) (by omega) (.slice (some ⟨s, 0, none⟩) (pre.length + 1) (mx n m + 1))
    have hS7 := hS6.set (.slice (some ⟨s, 0, none⟩) (pre.length + 1) (mx n m + 1))
    have hrow7 := hown6.kept (grownBy_setCell' w6 t (.slice (some ⟨s, 0, none⟩) (pre.length + 1) (mx n m + 1))) (.inr (by simp [Value.ownBlock]; omega))
    have hWs : s < W.heap.size := by have := hA.lt; omega
    have hBW : Below s W (w6.setCell ⟨t, 0, none⟩ (.slice (some ⟨s, 0, none⟩) (pre.length + 1) (mx n m + 1))) :=
      (((((Below.refl s W).setCell (p := ⟨t + 1, 0, none⟩) (by simp; omega) _).alloc (by simp; omega) _).grown hgrow6 (by simp; omega) (fun k e => by cases e; omega))).setCell (p := ⟨t, 0, none⟩) (by simp; omega) _
    have hKO : KeepsOthers W (w6.setCell ⟨t, 0, none⟩ (.slice (some ⟨s, 0, none⟩) (pre.length + 1) (mx n m + 1))) := by
      refine (((KeepsOthers.setCell W ⟨t + 1, 0, none⟩ _).trans (KeepsOthers.alloc _ _)).trans (KeepsOthers.of_grownBy hgrow6 fun j o ej hj => ?_)).trans (KeepsOthers.setCell _ _ _)
      cases ej
      rcases hrow2.2 with ⟨e1, _⟩ | ⟨g, cap, cur, e1, _, hgb, _⟩
      · cases e1
      · injection e1 with e2
        injection e2 with e3
        injection e3 with e4
        subst e4
        rw [hgb] at hj; cases hj; rfl
    refine ⟨hKO.from _, ⟨hBW, hA7.trans hA.symm, hB7.trans hB.symm⟩, ⟨?_, ?_, hA7, hB7, ?_⟩, hBl.trans hBW⟩
    · rw [List.length_append]; exact hS7
    · rw [addC_snoc]; exact hC7
    · rw [List.length_append, addD_snoc, List.map_append]; exact hrow7
  case done =>
    rintro D ys W hD hys ⟨⟨hS, hC, hA, hB, hrow⟩, hBl⟩ hK
    have hc1 := hS.cell
    have hf1 := hS.frozen
    have hc2 := hC.cell
    have hyl : ys.length = max n m := by rw [hys, upto_length]
    have HYL := Lib.hid hyl
    have hyl' : ys.length ≤ mx n m := by unfold mx; omega
    have hWs : s < W.heap.size := by have := hA.lt; omega
    have HYS := Lib.hid hys
    clear hys hyl
    have hN : ys = upto (limbs_dig x) (limbs_dig y) (max (limbs x).length (limbs y).length) := by rw [HYS.out, hnl.out, hml.out]
    have HNN := Lib.hid hN
    clear hN
    by_cases hz : addC ys = 0
    · have hzb : ((addC ys : Int) != 0) = false := by simp [hz]
      have hz' := Lib.hid hz
      clear hz
      gi_wp2
      refine ⟨by simp, .inl ⟨_, _, rfl, run_takeDeferred hK, ?_⟩⟩
      have hrow' := ownsRow_putObj hrow (.deferred none) hK rfl
      refine ⟨_, results_tmp rfl _ _ _, _, rfl, ?_, ?_⟩
      · have hd := add_done0 x y (by rw [← HNN.out]; exact hz'.out)
        rw [← HNN.out] at hd
        refine ⟨_, _, _, rfl, ?_⟩
        rw [← hd]
        exact Lim.of_own hrow' (addD_dig _)
      · rw [HS.out]; exact hBl.trans (belowK_b (w := W0) (by omega) W D _ _ hD hK rfl rfl)
    · have hzb : ((addC ys : Int) != 0) = true := by simp [hz]
      have hz' := Lib.hid hz
      clear hz
      have hrow2 := hrow.alloc (.cells #[.int .u64 (addC ys : Int)] 37)
      gi_wp2_with (gi_at_builtin; refine wpListIn_append_fits _ rfl _ _ 24 rfl s 37 i0 1 Tryz.underlying24 hi hz1 s ys.length (mx n m + 1) _ rfl hrow2 ⟨W.heap.size, 0, none⟩ 1 1 [.int .u64 (addC ys : Int)] rfl rfl (cell_one_new _ _ _) (by simp [Value.oneCell']) (by omega) ?_; intro w6 hown6 hgrow6; have hS6 := (hS.alloc (.cells #[.int .u64 (addC ys : Int)] 37)).kept hgrow6 (by simp; omega); have hc6 := hS6.cell; have hf6 := hS6.frozen)
      have hKO : KeepsOthers W (w6.setCell ⟨t, 0, none⟩ (.slice (some ⟨s, 0, none⟩) (ys.length + 1) (mx n m + 1))) := by
        refine ((KeepsOthers.alloc W _).trans (KeepsOthers.of_grownBy hgrow6 fun j o ej hj => ?_)).trans (KeepsOthers.setCell _ _ _)
        cases ej
        rcases hrow2.2 with ⟨e1, _⟩ | ⟨g, cap, cur, e1, _, hgb, _⟩
        · cases e1
        · injection e1 with e2
          injection e2 with e3
          injection e3 with e4
          subst e4
          rw [hgb] at hj; cases hj; rfl
      have hK' := hKO.same D _ hK rfl
      have hrow7 := hown6.kept (grownBy_setCell' w6 t (.slice (some ⟨s, 0, none⟩) (ys.length + 1) (mx n m + 1))) (.inr (by simp [Value.ownBlock]; omega))
      have hBW : Below s W (w6.setCell ⟨t, 0, none⟩ (.slice (some ⟨s, 0, none⟩) (ys.length + 1) (mx n m + 1))) :=
        ((((Below.refl s W).alloc (by omega) _).grown hgrow6 (by simp; omega) (fun k e => by cases e; omega))).setCell (p := ⟨t, 0, none⟩) (by simp; omega) _
      refine ⟨by simp, .inl ⟨_, _, rfl, run_takeDeferred hK', ?_⟩⟩
      have hrow' := ownsRow_putObj hrow7 (.deferred none) hK' rfl
      refine ⟨_, results_tmp rfl _ _ _, _, rfl, ?_, ?_⟩
      · have hd := add_done1 x y (by rw [← HNN.out]; exact hz'.out)
        rw [← HNN.out] at hd
        refine ⟨_, _, _, rfl, ?_⟩
        rw [← hd]
        refine Lim.of_own (base := s) (e := 37) (l := addD ys ++ [addC ys]) ?_ ((addD_dig _).snoc (by have := addC_le ys; have := B64_gt; omega))
        rw [List.map_append]
        exact hrow'
      · rw [HS.out]; exact (hBl.trans hBW).trans (belowK_b (w := W0) (by omega) _ D _ _ hD hK' rfl rfl)
  case stop =>
    rintro D c pre W _ _ h _
    exact h.elim

end Go.Proofs.YtpephogadljncaaGreat

/-
  The contract of nat.Sub.
-/
namespace Go.Proofs.YtpephogadljncaaGreat
set_option maxRecDepth 100000
open Go.RowKit Go.Shelf

attribute [local go_sem] Oper.semAt_some
attribute [local go_sem ↓] mx_run

def subStep (s : List Nat × Nat) (x : Pair) : List Nat × Nat := (s.1 ++ [subLo x.1.1 x.1.2 s.2], subHi x.1.1 x.1.2 s.2)
def subS (l : List Pair) : List Nat × Nat := l.foldl subStep ([], 0)
/-- The digits so far, and the borrow. -/
def subD (l : List Pair) : List Nat := (subS l).1
def subC (l : List Pair) : Nat := (subS l).2
theorem subS_snoc (l : List Pair) (x : Pair) : subS (l ++ [x]) = subStep (subS l) x := by simp [subS]
theorem subD_snoc (l : List Pair) (x : Pair) : subD (l ++ [x]) = subD l ++ [subLo x.1.1 x.1.2 (subC l)] := by unfold subD subC; rw [subS_snoc]; rfl
theorem subC_snoc (l : List Pair) (x : Pair) : subC (l ++ [x]) = subHi x.1.1 x.1.2 (subC l) := by unfold subC; rw [subS_snoc]; rfl
theorem subD_nil : subD [] = [] := rfl
theorem subC_nil : subC [] = 0 := rfl
theorem subC_le (l : List Pair) : subC l ≤ 1 :=
  snoc_ind (P := fun l => subC l ≤ 1) (by simp [subC_nil]) (fun l x ih => by rw [subC_snoc]; exact subHi_le _ _ _) l
theorem subD_length (l : List Pair) : (subD l).length = l.length :=
  snoc_ind (P := fun l => (subD l).length = l.length) (by simp [subD_nil]) (fun l x ih => by rw [subD_snoc]; simp [ih]) l
theorem subD_dig (l : List Pair) : Dig (subD l) :=
  snoc_ind (P := fun l => Dig (subD l)) (by rw [subD_nil]; exact Dig.nil) (fun l x ih => by rw [subD_snoc]; exact ih.snoc (subLo_lt _ _ _)) l

theorem subS_upto {la lb : List Nat} (ha : Dig la) (hb : Dig lb) (k : Nat) :
    val (subD (upto ha hb k)) + val (lb.take k) = val (la.take k) + B64 ^ k * subC (upto ha hb k) := by
  induction k with
  | zero => simp [upto_zero, subD_nil, subC_nil, val_nil]
  | succ k ih =>
    rw [upto_succ, subD_snoc, subC_snoc, val_snoc, subD_length, upto_length, val_take_succ, val_take_succ]
    have h := sub_split (pairAt ha hb k).2.1 (pairAt ha hb k).2.2 (subC_le (upto ha hb k))
    rw [Nat.pow_succ, Nat.mul_assoc]
    have h2 : B64 ^ k * subLo (pairAt ha hb k).1.1 (pairAt ha hb k).1.2 (subC (upto ha hb k)) + B64 ^ k * (lb[k]?.getD 0) + B64 ^ k * subC (upto ha hb k) = B64 ^ k * (la[k]?.getD 0) + B64 ^ k * (B64 * subHi (pairAt ha hb k).1.1 (pairAt ha hb k).1.2 (subC (upto ha hb k))) := by
      rw [← Nat.mul_add, ← Nat.mul_add, ← Nat.mul_add]; exact congrArg _ h
    omega

theorem sub_done0 (x y : Nat) (h : subC (upto (limbs_dig x) (limbs_dig y) (max (limbs x).length (limbs y).length)) = 0) :
    y ≤ x ∧ val (subD (upto (limbs_dig x) (limbs_dig y) (max (limbs x).length (limbs y).length))) = x - y := by
  have hv := subS_upto (limbs_dig x) (limbs_dig y) (max (limbs x).length (limbs y).length)
  rw [h, List.take_of_length_le (by omega), List.take_of_length_le (by omega), val_limbs, val_limbs, Nat.mul_zero, Nat.add_zero] at hv
  omega

theorem sub_done1 (x y : Nat) (h : subC (upto (limbs_dig x) (limbs_dig y) (max (limbs x).length (limbs y).length)) ≠ 0) : x < y := by
  have hv := subS_upto (limbs_dig x) (limbs_dig y) (max (limbs x).length (limbs y).length)
  have hc := subC_le (upto (limbs_dig x) (limbs_dig y) (max (limbs x).length (limbs y).length))
  have h1 : subC (upto (limbs_dig x) (limbs_dig y) (max (limbs x).length (limbs y).length)) = 1 := by omega
  rw [h1, List.take_of_length_le (by omega), List.take_of_length_le (by omega), val_limbs, val_limbs, Nat.mul_one] at hv
  have hl := val_lt (subD_dig (upto (limbs_dig x) (limbs_dig y) (max (limbs x).length (limbs y).length)))
  rw [subD_length, upto_length] at hl
  omega

/-- What nat.Sub answers: the difference and no error; or nothing and ErrRange. -/
def SubPost (w : World) (x y : Nat) (v : Value) (r : Int) : Prop := (y ≤ x ∧ r = 0 ∧ IsN w v (x - y)) ∨ (x < y ∧ r = 2 ∧ v = .slice none 0 0)

set_option maxHeartbeats 2000000 in
theorem sub_lim (A B : Option Addr) (n c m d x y : Nat) (w : World) (ha : Lim w.heap.size w A n c (limbs x)) (hb : Lim w.heap.size w B m d (limbs y)) (hn : n ≤ 4294967296) (hm : m ≤ 4294967296) :
    Calls Tryz.prog 44 #[.slice A n c, .slice B m d] w fun e w' => ∃ v r, e = .returned (.tuple #[v, .int .i64 r]) ∧ SubPost w' x y v r ∧ Below w.heap.size w w' := by
  obtain ⟨i0, hi, hz0, hz1, hz2⟩ := info_parts info24
  refine (callsIn_wide (n := 10)).1 ?_
  refine callsIn_of_wp_marks Tryz.func44 rfl trivial ?_ rfl
  simp only [Tryz.ntmps44, List.size_toArray, List.length_cons, List.length_nil, Nat.reduceAdd, Nat.reduceSub, Array.replicate_succ, Array.replicate_zero, List.push_toArray, List.append_toArray, List.nil_append, List.cons_append]
  have hnl := Lib.hid ha.1
  have hml := Lib.hid hb.1
  have hmx : mx n m ≤ 4294967296 := by unfold mx; omega
  obtain ⟨s, hs⟩ : ∃ s, w.heap.size = s := ⟨_, rfl⟩
  have HS := Lib.hid hs
  clear hs
  gi_wp2_with (first
    | (gi_at_make; refine wpListIn_make_own _ rfl _ _ 24 rfl s 37 i0 (.int .u64 0) 1 Tryz.underlying24 hi hz0 hz1 .i64 .i64 _ (mx n m) rfl rfl (by omega) (by rw [hz2]; omega) (by unfold maxLen; omega) (by rw [HS.out]; omega) ?_; intro w1 hown1 hgrow1)
    | (refine ⟨trivial, ?_⟩; gi_at_call 54; refine (callsIn_wide.2 (pairs_any _ _ _ _ _ _ _ _ rfl rfl _)).mono ?_; rintro e w' ⟨rfl, rfl⟩))
  obtain ⟨t, ht⟩ : ∃ t, w1.heap.size = t := ⟨_, rfl⟩
  rw [HS.out] at hown1 ha hb ⊢
  rw [ht]
  have hst : s < t := by have := (hown1.lt s rfl).2; omega
  have bS := Boxed.new w1 24 (.slice (some ⟨s, 0, none⟩) 0 (mx n m))
  rw [ht] at bS
  obtain ⟨w2, hw2⟩ : ∃ w2, w1.alloc (.cells #[.slice (some ⟨s, 0, none⟩) 0 (mx n m)] 24) = w2 := ⟨_, rfl⟩
  have hz2' : w2.heap.size = t + 1 := by rw [← hw2, World.size_alloc, ht]
  have hown2 := hown1.alloc (.cells #[.slice (some ⟨s, 0, none⟩) 0 (mx n m)] 24)
  have hB2 : Below s w w2 := by rw [← hw2]; exact (((Below.refl s w).grown hgrow1 (by have := HS.out; omega) (fun k h => by cases h)).alloc (by omega) _)
  rw [hw2] at bS hown2 ⊢
  have bC := Boxed.new w2 37 (.int .u64 0)
  rw [hz2'] at bC
  obtain ⟨w3, hw3⟩ : ∃ w3, w2.alloc (.cells #[.int .u64 0] 37) = w3 := ⟨_, rfl⟩
  have hz3' : w3.heap.size = t + 1 + 1 := by rw [← hw3, World.size_alloc, hz2']
  have hown3 := hown2.alloc (.cells #[.int .u64 0] 37)
  have bS3 := bS.alloc (.cells #[.int .u64 0] 37)
  have hB3 : Below s w w3 := by rw [← hw3]; exact hB2.alloc (by omega) _
  rw [hw3] at bC hown3 bS3 ⊢
  have bA := Boxed.new w3 24 (.slice A n c)
  rw [hz3'] at bA
  obtain ⟨w4, hw4⟩ : ∃ w4, w3.alloc (.cells #[.slice A n c] 24) = w4 := ⟨_, rfl⟩
  have hz4' : w4.heap.size = t + 1 + 1 + 1 := by rw [← hw4, World.size_alloc, hz3']
  have hown4 := hown3.alloc (.cells #[.slice A n c] 24)
  have bS4 := bS3.alloc (.cells #[.slice A n c] 24)
  have bC4 := bC.alloc (.cells #[.slice A n c] 24)
  have hB4 : Below s w w4 := by rw [← hw4]; exact hB3.alloc (by omega) _
  rw [hw4] at bA hown4 bS4 bC4 ⊢
  have bB := Boxed.new w4 24 (.slice B m d)
  rw [hz4'] at bB
  obtain ⟨W0, hW0⟩ : ∃ w5, w4.alloc (.cells #[.slice B m d] 24) = w5 := ⟨_, rfl⟩
  have hsz : W0.heap.size = t + 4 := by rw [← hW0, World.size_alloc, hz4']
  have hown5 := hown4.alloc (.cells #[.slice B m d] 24)
  have bS5 := bS4.alloc (.cells #[.slice B m d] 24)
  have bC5 := bC4.alloc (.cells #[.slice B m d] 24)
  have bA5 := bA.alloc (.cells #[.slice B m d] 24)
  have hB0 : Below s w W0 := by rw [← hW0]; exact hB4.alloc (by omega) _
  rw [hW0] at bB hown5 bS5 bC5 bA5 ⊢
  clear hown1 hgrow1 hw2 hz2' hown2 hB2 hw3 hz3' hown3 bS3 hB3 hw4 hz4' hown4 bS4 bC4 hB4 bS bC bA hW0 ht
  refine wpIn_rangeFunc_ownG rfl (by decide) (gf := 85) (lb := #[.pointer (some ⟨t + 1 + 1, 0, none⟩), .pointer (some ⟨t + 1 + 1 + 1, 0, none⟩)]) rfl trivial (enters_of Tryz.func85 (by kernel_rfl) rfl)
    (pairs_stops (t + 1 + 1) (t + 1 + 1 + 1) s A B n c m d (limbs x) (limbs y) (limbs_dig x) (limbs_dig y) hn hm W0 (by omega) bA5 bB (ha.below hB0) (hb.below hB0))
    (fun h k => h.trans k) (keep_b (by omega) (by omega) (by omega)) (Below.refl _ _) (fun _ => rfl)
    (fun pre W => (Boxed W t 24 (.slice (some ⟨s, 0, none⟩) pre.length (mx n m)) ∧ Boxed W (t + 1) 37 (.int .u64 (subC pre : Int)) ∧ Boxed W (t + 1 + 1) 24 (.slice A n c) ∧ Boxed W (t + 1 + 1 + 1) 24 (.slice B m d) ∧
      W.ownsRow s 37 1 (.slice (some ⟨s, 0, none⟩) pre.length (mx n m)) pre.length ((subD pre).map encD)) ∧ Below s w W)
    (fun _ _ _ => False)
    (OwnFrom.and (OwnFrom.and (Own.from (boxed_own _ _ _) _) (OwnFrom.and (Own.from (boxed_own _ _ _) _) (OwnFrom.and (Own.from (boxed_own _ _ _) _) (OwnFrom.and (Own.from (boxed_own _ _ _) _) (Own.from (row_own _ _ _ _ _ _) _))))) (ownFrom_below (by have := HS.out; omega) (by omega)))
    (fun _ _ _ _ _ hs _ _ => hs)
    ⟨⟨bS5, bC5, bA5, bB, hown5⟩, hB0⟩
    (fun x => { tmps := #[.slice A n c, .slice B m d, undef, undef, .slice none 0 0, .int .i64 0, .pointer (some ⟨t, 0, none⟩), .pointer (some ⟨t + 1, 0, none⟩), .int .u64 (x.1.1 : Int), .int .u64 (x.1.2 : Int), undef, .slice A n c, .int .i64 (n : Int), .slice B m d, .int .i64 (m : Int), .int .i64 (mx n m : Int), .slice (some ⟨s, 0, none⟩) 0 (mx n m), .slice A n c, .slice B m d,
      .func (.func 85) #[] #[.pointer (some ⟨t + 1 + 1, 0, none⟩), .pointer (some ⟨t + 1 + 1 + 1, 0, none⟩)], .int .u64 (x.1.1 : Int), .int .u64 (x.1.2 : Int), undef, undef, undef, undef, undef, undef, undef, undef, undef, undef, undef, undef, undef, undef, undef], defers := [] }) ?assign ?body ?done ?stop
  case assign =>
    intro l x W K hK
    gi_wp2
    exact hK
  case body =>
    rintro l pre x W ⟨⟨hS, hC, hA, hB, hrow⟩, hBl⟩ hlt
    have hc1 := hS.cell
    have hf1 := hS.frozen
    have hc2 := hC.cell
    have hf2 := hC.frozen
    have h34 := sub64_run x.1.1 x.1.2 (subC pre) (subC_le pre)
    have hF34 : Fence.wide.fn 77 := trivial
    have hrow2 := (hrow.kept (grownBy_setCell' W (t + 1) (.int .u64 (subHi x.1.1 x.1.2 (subC pre) : Int))) (.inr (by simp [Value.ownBlock]; omega))).alloc (.cells #[.int .u64 (subLo x.1.1 x.1.2 (subC pre) : Int)] 37)
    have hcn := cell_one_new (W.setCell ⟨t + 1, 0, none⟩ (.int .u64 (subHi x.1.1 x.1.2 (subC pre) : Int))) (.int .u64 (subLo x.1.1 x.1.2 (subC pre) : Int)) 37
    rw [World.size_setCell] at hcn
    gi_wp2_with (gi_at_builtin; refine wpListIn_append_fits _ rfl _ _ 24 rfl s 37 i0 1 Tryz.underlying24 hi hz1 s pre.length (mx n m) _ rfl hrow2 ⟨W.heap.size, 0, none⟩ 1 1 [.int .u64 (subLo x.1.1 x.1.2 (subC pre) : Int)] rfl rfl hcn (by simp [Value.oneCell']) (by unfold mx; omega) ?_; intro w6 hown6 hgrow6; have hS6 := ((hS.other (B' := t + 1) (by omega) (.int .u64 (subHi x.1.1 x.1.2 (subC pre) : Int))).alloc (.cells #[.int .u64 (subLo x.1.1 x.1.2 (subC pre) : Int)] 37)).kept hgrow6 (by simp; omega); have hc6 := hS6.cell; have hf6 := hS6.frozen)
    have hC6 := ((hC.set (.int .u64 (subHi x.1.1 x.1.2 (subC pre) : Int))).alloc (.cells #[.int .u64 (subLo x.1.1 x.1.2 (subC pre) : Int)] 37)).kept hgrow6 (by simp; omega)
    have hA6 := ((hA.other (B' := t + 1) (by omega) (.int .u64 (subHi x.1.1 x.1.2 (subC pre) : Int))).alloc (.cells #[.int .u64 (subLo x.1.1 x.1.2 (subC pre) : Int)] 37)).kept hgrow6 (by simp; omega)
    have hB6 := ((hB.other (B' := t + 1) (by omega) (.int .u64 (subHi x.1.1 x.1.2 (subC pre) : Int))).alloc (.cells #[.int .u64 (subLo x.1.1 x.1.2 (subC pre) : Int)] 37)).kept hgrow6 (by simp; omega)
    have hA7 := hA6.other (B' := t) (by omega) (.slice (some ⟨s, 0, none⟩) (pre.length + 1) (mx n m))
    have hB7 := hB6.other (B' := t) (by omega) (.slice (some ⟨s, 0, none⟩) (pre.length + 1) (mx n m))
    have hC7 := hC6.other (B' := t) (by omega) (.slice (some ⟨s, 0, none⟩) (pre.length + 1) (mx n m))
    have hS7 := hS6.set (.slice (some ⟨s, 0, none⟩) (pre.length + 1) (mx n m))
    have hrow7 := hown6.kept (grownBy_setCell' w6 t (.slice (some ⟨s, 0, none⟩) (pre.length + 1) (mx n m))) (.inr (by simp [Value.ownBlock]; omega))
    have hWs : s < W.heap.size := by have := hA.lt; omega
    have hBW : Below s W (w6.setCell ⟨t, 0, none⟩ (.slice (some ⟨s, 0, none⟩) (pre.length + 1) (mx n m))) :=
      (((((Below.refl s W).setCell (p := ⟨t + 1, 0, none⟩) (by simp; omega) _).alloc (by simp; omega) _).grown hgrow6 (by simp; omega) (fun k e => by cases e; omega))).setCell (p := ⟨t, 0, none⟩) (by simp; omega) _
    have hKO : KeepsOthers W (w6.setCell ⟨t, 0, none⟩ (.slice (some ⟨s, 0, none⟩) (pre.length + 1) (mx n m))) := by
      refine (((KeepsOthers.setCell W ⟨t + 1, 0, none⟩ _).trans (KeepsOthers.alloc _ _)).trans (KeepsOthers.of_grownBy hgrow6 fun j o ej hj => ?_)).trans (KeepsOthers.setCell _ _ _)
      cases ej
      rcases hrow2.2 with ⟨e1, _⟩ | ⟨g, cap, cur, e1, _, hgb, _⟩
      · cases e1
      · injection e1 with e2
        injection e2 with e3
        injection e3 with e4
        subst e4
        rw [hgb] at hj; cases hj; rfl
    refine ⟨hKO.from _, ⟨hBW, hA7.trans hA.symm, hB7.trans hB.symm⟩, ⟨?_, ?_, hA7, hB7, ?_⟩, hBl.trans hBW⟩
    · rw [List.length_append]; exact hS7
    · rw [subC_snoc]; exact hC7
    · rw [List.length_append, subD_snoc, List.map_append]; exact hrow7
  case done =>
    rintro D ys W hD hys ⟨⟨hS, hC, hA, hB, hrow⟩, hBl⟩ hK
    have hc1 := hS.cell
    have hc2 := hC.cell
    have hWs : s < W.heap.size := by have := hA.lt; omega
    have hN : ys = upto (limbs_dig x) (limbs_dig y) (max (limbs x).length (limbs y).length) := by rw [hys, hnl.out, hml.out]
    have hyl : ys.length ≤ 4294967296 := by rw [hys, upto_length]; omega
    have HNN := Lib.hid hN
    clear hys hN
    have hlim := Lim.of_own hrow (subD_dig ys)
    by_cases hz : subC ys = 0
    · have hzb : ((subC ys : Int) != 0) = false := by simp [hz]
      have hz' := Lib.hid hz
      clear hz
      gi_wp2_with (refine ⟨trivial, ?_⟩; gi_at_call 57; refine (callsIn_wide.2 (trim_lim _ _ _ _ _ _ hlim hyl)).mono ?_; rintro e w' ⟨k, rfl, hk, rfl⟩)
      refine ⟨by simp, .inl ⟨_, _, rfl, run_takeDeferred hK, ?_⟩⟩
      have hd := sub_done0 x y (by rw [← HNN.out]; exact hz'.out)
      rw [← HNN.out] at hd
      rw [hd.2] at hk
      refine ⟨.tuple #[.slice (some ⟨s, 0, none⟩) k (mx n m), .int .i64 0], by simp [results, Tryz.f44, go_sem], _, _, rfl, .inl ⟨hd.1, rfl, ?_⟩, ?_⟩
      · refine ⟨_, _, _, rfl, ?_⟩
        refine ⟨hk.1, hk.2.1, hk.2.2.1, fun h0 => ?_⟩
        obtain ⟨b, off, e, hlt, hcell⟩ := hk.2.2.2 h0
        refine ⟨b, off, e, by rw [World.putObj_size]; exact hlt, fun j hj => ?_⟩
        have hj' := hcell j hj
        exact cell_kept hj' (grownBy_putObj' _ D (.deferred none)) (fun r e => by cases e; exact ⟨_, hK, rfl⟩)
      · rw [HS.out]; exact hBl.trans (belowK_b (w := W0) (by omega) W D _ _ hD hK rfl rfl)
    · have hzb : ((subC ys : Int) != 0) = true := by simp [hz]
      have hz' := Lib.hid hz
      clear hz
      gi_wp2
      refine ⟨by simp, .inl ⟨_, _, rfl, run_takeDeferred hK, ?_⟩⟩
      have hd := sub_done1 x y (by rw [← HNN.out]; exact hz'.out)
      refine ⟨.tuple #[.slice none 0 0, .int .i64 2], by simp [results, Tryz.f44, go_sem], _, _, rfl, .inr ⟨hd, rfl, rfl⟩, ?_⟩
      rw [HS.out]; exact hBl.trans (belowK_b (w := W0) (by omega) W D _ _ hD hK rfl rfl)
  case stop =>
    rintro D c pre W _ _ h _
    exact h.elim

end Go.Proofs.YtpephogadljncaaGreat

/-
  Plain arithmetic: products of digits.
-/
namespace Go.Proofs.YtpephogadljncaaGreat

/-- The two halves of a product of digits. -/
def mulLo (x y : Nat) : Nat := x * y % B64
def mulHi (x y : Nat) : Nat := x * y / B64
theorem mulLo_lt (x y : Nat) : mulLo x y < B64 := Nat.mod_lt _ B64_pos
/-- A product of digits, a digit and a carry, in two halves. -/
def macLo (x y q c : Nat) : Nat := (x * y + q + c) % B64
def macHi (x y q c : Nat) : Nat := (x * y + q + c) / B64
theorem macLo_lt (x y q c : Nat) : macLo x y q c < B64 := Nat.mod_lt _ B64_pos
theorem mac_split (x y q c : Nat) : macLo x y q c + B64 * macHi x y q c = x * y + q + c := Nat.mod_add_div _ _
theorem macHi_lt {x y q c : Nat} (hx : x < B64) (hy : y < B64) (hq : q < B64) (hc : c < B64) : macHi x y q c < B64 := by
  unfold macHi
  rw [Nat.div_lt_iff_lt_mul B64_pos]
  have h1 : x * y ≤ (B64 - 1) * (B64 - 1) := Nat.mul_le_mul (by omega) (by omega)
  have h2 : (B64 - 1) * (B64 - 1) + (B64 - 1) + (B64 - 1) < B64 * B64 := by unfold B64; omega
  omega
theorem macLo_eq (x y q c : Nat) : sumLo (sumLo (mulLo x y) q 0) c 0 = macLo x y q c := by
  unfold sumLo mulLo macLo
  rw [Nat.add_zero, Nat.add_zero, Nat.mod_add_mod]
  rw [Nat.add_assoc, Nat.mod_add_mod, ← Nat.add_assoc]
theorem macHi_eq (x y q c : Nat) : mulHi x y + sumHi (mulLo x y) q 0 + sumHi (sumLo (mulLo x y) q 0) c 0 = macHi x y q c := by
  have h1 := sum_split (mulLo x y) q 0
  have h2 := sum_split (sumLo (mulLo x y) q 0) c 0
  have h3 : mulLo x y + B64 * mulHi x y = x * y := Nat.mod_add_div _ _
  have h4 := mac_split x y q c
  rw [← macLo_eq] at h4
  have h5 : B64 * (mulHi x y + sumHi (mulLo x y) q 0 + sumHi (sumLo (mulLo x y) q 0) c 0) = B64 * macHi x y q c := by
    rw [Nat.mul_add, Nat.mul_add]; omega
  exact Nat.eq_of_mul_eq_mul_left B64_pos h5

theorem val_set {l : List Nat} {k : Nat} (hk : k < l.length) (d : Nat) : val (l.set k d) + B64 ^ k * l[k]?.getD 0 = val l + B64 ^ k * d := by
  induction l generalizing k with
  | nil => simp at hk
  | cons x xs ih =>
    cases k with
    | zero => simp [val_cons]; omega
    | succ k =>
      have h := ih (k := k) (by simpa using hk)
      rw [List.set_cons_succ, val_cons, val_cons, List.getElem?_cons_succ, Nat.pow_succ, Nat.mul_comm (B64 ^ k) B64, Nat.mul_assoc, Nat.mul_assoc]
      have h2 : B64 * (val (xs.set k d) + B64 ^ k * xs[k]?.getD 0) = B64 * (val xs + B64 ^ k * d) := by rw [h]
      rw [Nat.mul_add, Nat.mul_add] at h2
      omega

theorem Dig.set {l : List Nat} (h : Dig l) (k : Nat) {d : Nat} (hd : d < B64) : Dig (l.set k d) := fun x hx => by
  rcases List.mem_or_eq_of_mem_set hx with h1 | h1
  · exact h x h1
  · rw [h1]; exact hd

end Go.Proofs.YtpephogadljncaaGreat

/-
  The contract of math/bits.Mul64.
-/
namespace Go.Proofs.YtpephogadljncaaGreat
set_option maxRecDepth 100000
open Go.RowKit

theorem mul_split (M a b c d : Nat) : (M * a + b) * (M * c + d) = M * M * (a * c) + M * (a * d) + M * (b * c) + b * d := by
  rw [Nat.add_mul, Nat.mul_add, Nat.mul_add]
  have e1 : M * a * (M * c) = M * M * (a * c) := by ac_rfl
  have e2 : M * a * d = M * (a * d) := by ac_rfl
  have e3 : b * (M * c) = M * (b * c) := by ac_rfl
  rw [e1, e2, e3]
  omega

theorem u64_and32 (n : Int) : bits .and .u64 n 4294967295 = n % 4294967296 := by
  have h1 : (BitVec.ofInt 64 4294967295).toNat = 2 ^ 32 - 1 := by decide
  have key : (BitVec.ofInt 64 n &&& BitVec.ofInt 64 4294967295).toNat = (n % ((2 ^ 64 : Nat) : Int)).toNat % 2 ^ 32 := by
    rw [BitVec.toNat_and, BitVec.toNat_ofInt, h1, Nat.and_two_pow_sub_one_eq_mod]
  show IntKind.u64.wrap ((BitVec.ofInt 64 n &&& BitVec.ofInt 64 4294967295).toNat : Nat) = n % 4294967296
  rw [key, IntKind.wrap_u64]
  omega

theorem part_le {a b : Nat} (ha : a < 4294967296) (hb : b < 4294967296) : a * b ≤ 18446744065119617025 := by
  have : a * b ≤ 4294967295 * 4294967295 := Nat.mul_le_mul (by omega) (by omega)
  omega

/-- The upper half of a product, out of four products of halves. -/
theorem mul_hi (p q r s : Nat) (hp : p ≤ 18446744065119617025) (hq : q ≤ 18446744065119617025) (hr : r ≤ 18446744065119617025) (hs : s ≤ 18446744065119617025) :
    (((p : Int) % 18446744073709551616 + ((q : Int) % 18446744073709551616 + (s : Int) % 18446744073709551616 / 4294967296) % 18446744073709551616 / 4294967296) % 18446744073709551616 +
      (((q : Int) % 18446744073709551616 + (s : Int) % 18446744073709551616 / 4294967296) % 18446744073709551616 % 4294967296 + (r : Int) % 18446744073709551616) % 18446744073709551616 / 4294967296) % 18446744073709551616 =
    ((18446744073709551616 * p + 4294967296 * q + 4294967296 * r + s) / 18446744073709551616 : Nat) := by
  omega

theorem ret_two {a b a' b' : Int} (h : a = a') (k : b = b') : Ending.returned (.tuple #[.int .u64 a, .int .u64 b]) = .returned (.tuple #[.int .u64 a', .int .u64 b']) := by rw [h, k]

theorem mul64_hi (x y : Nat) (hx : x < B64) (hy : y < B64) :
    IntKind.u64.wrap (IntKind.u64.wrap (IntKind.u64.wrap ((x : Int) / 4294967296 * ((y : Int) / 4294967296)) + IntKind.u64.wrap (IntKind.u64.wrap ((x : Int) / 4294967296 * bits .and .u64 (y : Int) 4294967295) + IntKind.u64.wrap (bits .and .u64 (x : Int) 4294967295 * bits .and .u64 (y : Int) 4294967295) / 4294967296) / 4294967296) +
      IntKind.u64.wrap (bits .and .u64 (IntKind.u64.wrap (IntKind.u64.wrap ((x : Int) / 4294967296 * bits .and .u64 (y : Int) 4294967295) + IntKind.u64.wrap (bits .and .u64 (x : Int) 4294967295 * bits .and .u64 (y : Int) 4294967295) / 4294967296)) 4294967295 + IntKind.u64.wrap (bits .and .u64 (x : Int) 4294967295 * ((y : Int) / 4294967296))) / 4294967296) =
    ((x * y / B64 : Nat) : Int) := by
  simp only [u64_and32, IntKind.wrap_u64]
  have hx1 : x / 4294967296 < 4294967296 := by unfold B64 at hx; omega
  have hy1 : y / 4294967296 < 4294967296 := by unfold B64 at hy; omega
  have hx0 : x % 4294967296 < 4294967296 := Nat.mod_lt _ (by omega)
  have hy0 : y % 4294967296 < 4294967296 := Nat.mod_lt _ (by omega)
  have hm := mul_split 4294967296 (x / 4294967296) (x % 4294967296) (y / 4294967296) (y % 4294967296)
  rw [Nat.div_add_mod, Nat.div_add_mod] at hm
  have h := mul_hi _ _ _ _ (part_le hx1 hy1) (part_le hx1 hy0) (part_le hx0 hy1) (part_le hx0 hy0)
  have e1 : ((x : Int) / 4294967296 * ((y : Int) / 4294967296)) = ((x / 4294967296 * (y / 4294967296) : Nat) : Int) := by simp
  have e2 : ((x : Int) / 4294967296 * ((y : Int) % 4294967296)) = ((x / 4294967296 * (y % 4294967296) : Nat) : Int) := by simp
  have e3 : ((x : Int) % 4294967296 * ((y : Int) / 4294967296)) = ((x % 4294967296 * (y / 4294967296) : Nat) : Int) := by simp
  have e4 : ((x : Int) % 4294967296 * ((y : Int) % 4294967296)) = ((x % 4294967296 * (y % 4294967296) : Nat) : Int) := by simp
  rw [e1, e2, e3, e4, h, hm]
  rfl

theorem mul64_lo (x y : Nat) : IntKind.u64.wrap ((x : Int) * (y : Int)) = ((x * y % B64 : Nat) : Int) := by
  rw [IntKind.wrap_u64, show (18446744073709551616 : Int) = (B64 : Int) from rfl]
  simp

set_option maxHeartbeats 1000000 in
theorem mul64_any (x y : Nat) (w : World) (hx : x < B64) (hy : y < B64) :
    Calls Tryz.prog 87 #[.int .u64 (x : Int), .int .u64 (y : Int)] w fun e w' => e = .returned (.tuple #[.int .u64 (mulHi x y : Int), .int .u64 (mulLo x y : Int)]) ∧ w = w' := by
  go_enter Tryz.func87, Tryz.ntmps87
  go_wp2
  go_ret2
  exact ⟨ret_two (mul64_hi x y hx hy) (mul64_lo x y), rfl⟩

end Go.Proofs.YtpephogadljncaaGreat

/-
  The contract of nat.addTimes: a multiple of one number is added to a row of digits of the caller's, from a place on.
-/
namespace Go.Proofs.YtpephogadljncaaGreat
set_option maxRecDepth 100000
open Go.RowKit

theorem add64_run0 (x y : Nat) (w : World) :
    (callFunc 55 #[.int .u64 (x : Int), .int .u64 (y : Int), .int .u64 0]).run Tryz.prog w = .ok (.value (.tuple #[.int .u64 (sumLo x y 0 : Int), .int .u64 (sumHi x y 0 : Int)])) w := add64_run x y 0 (by omega) w

/-- A slice of digits is kept where only one block, which lies not below B, is written. -/
theorem Lim.grown {B : Nat} {w w' : World} {A : Option Addr} {n c : Nat} {l : List Nat} {g : Nat} (h : Lim B w A n c l) (hg : w.grownBy w' (some g)) (hB : B ≤ g) (hBw : B ≤ w.heap.size) : Lim B w' A n c l :=
  ⟨h.1, h.2.1, h.2.2.1, fun hn => by
    obtain ⟨b, off, e, hlt, hc⟩ := h.2.2.2 hn
    exact ⟨b, off, e, hlt, fun j hj => (World.cell?_of_block (a := ⟨b, off + j, none⟩) (hg.block b (by omega) (by simp; omega))).trans (hc j hj)⟩⟩

/-- What has been reckoned when k digits are done: the row Q and the carry c. -/
def TimesAt (P Q : List Nat) (i k x : Nat) (l : List Nat) (c : Nat) : Prop :=
  Dig Q ∧ Q.length = P.length ∧ c < B64 ∧ (∀ j, i + k ≤ j → Q[j]?.getD 0 = P[j]?.getD 0) ∧ val Q + B64 ^ (i + k) * c = val P + B64 ^ i * (x * val (l.take k))

theorem TimesAt.start {P : List Nat} (h : Dig P) (i x : Nat) (l : List Nat) : TimesAt P P i 0 x l 0 :=
  ⟨h, rfl, B64_pos, fun _ _ => rfl, by simp [val_nil]⟩

theorem TimesAt.step {P Q l : List Nat} {i k x c : Nat} (h : TimesAt P Q i k x l c) (hx : x < B64) (hl : Dig l) (hk : i + k < P.length) :
    TimesAt P (Q.set (i + k) (macLo x (l[k]?.getD 0) (Q[i + k]?.getD 0) c)) i (k + 1) x l (macHi x (l[k]?.getD 0) (Q[i + k]?.getD 0) c) := by
  obtain ⟨hd, hlen, hc, hsame, hv⟩ := h
  refine ⟨hd.set _ (macLo_lt _ _ _ _), by rw [List.length_set, hlen], macHi_lt hx (hl.get k) (hd.get _) hc, fun j hj => ?_, ?_⟩
  · rw [List.getElem?_set_ne (by omega)]; exact hsame j (by omega)
  · have hs := val_set (l := Q) (k := i + k) (by omega) (macLo x (l[k]?.getD 0) (Q[i + k]?.getD 0) c)
    have hm := mac_split x (l[k]?.getD 0) (Q[i + k]?.getD 0) c
    rw [val_take_succ, ← Nat.add_assoc, Nat.pow_succ, Nat.mul_assoc]
    generalize macLo x (l[k]?.getD 0) (Q[i + k]?.getD 0) c = lo at *
    generalize macHi x (l[k]?.getD 0) (Q[i + k]?.getD 0) c = hi at *
    generalize Q[i + k]?.getD 0 = q at *
    generalize l[k]?.getD 0 = y at *
    have h1 : B64 ^ (i + k) * lo + B64 ^ (i + k) * (B64 * hi) = B64 ^ (i + k) * (x * y) + B64 ^ (i + k) * q + B64 ^ (i + k) * c := by
      rw [← Nat.mul_add, hm, Nat.mul_add, Nat.mul_add]
    have h2 : B64 ^ i * (x * (val (l.take k) + B64 ^ k * y)) = B64 ^ i * (x * val (l.take k)) + B64 ^ (i + k) * (x * y) := by
      rw [Nat.mul_add, Nat.mul_add, Nat.pow_add]
      have : B64 ^ i * (x * (B64 ^ k * y)) = B64 ^ i * B64 ^ k * (x * y) := by ac_rfl
      rw [this]
    rw [h2]
    omega

theorem TimesAt.done {P Q l : List Nat} {i x c : Nat} (h : TimesAt P Q i l.length x l c) (hk : i + l.length < P.length) (hz : P[i + l.length]?.getD 0 = 0) :
    Dig (Q.set (i + l.length) c) ∧ (Q.set (i + l.length) c).length = P.length ∧ (∀ j, i + l.length < j → (Q.set (i + l.length) c)[j]?.getD 0 = P[j]?.getD 0) ∧ val (Q.set (i + l.length) c) = val P + B64 ^ i * (x * val l) := by
  obtain ⟨hd, hlen, hc, hsame, hv⟩ := h
  refine ⟨hd.set _ hc, by rw [List.length_set, hlen], fun j hj => ?_, ?_⟩
  · rw [List.getElem?_set_ne (by omega)]; exact hsame j (by omega)
  · have hs := val_set (l := Q) (k := i + l.length) (by omega) c
    rw [hsame _ (Nat.le_refl _), hz, Nat.mul_zero, Nat.add_zero] at hs
    rw [List.take_of_length_le (Nat.le_refl _)] at hv
    omega

theorem wrap_mac {x y q c : Nat} (hx : x < B64) (hy : y < B64) (hq : q < B64) (hc : c < B64) :
    IntKind.u64.wrap (IntKind.u64.wrap ((mulHi x y : Int) + (sumHi (mulLo x y) q 0 : Int)) + (sumHi (sumLo (mulLo x y) q 0) c 0 : Int)) = (macHi x y q c : Int) := by
  have h := macHi_lt hx hy hq hc
  have e := macHi_eq x y q c
  simp only [IntKind.wrap_u64]
  rw [← e] at h ⊢
  unfold B64 at h
  omega

set_option maxHeartbeats 2000000 in
theorem times_any (base g N cap i n' c' m d x : Nat) (B : Option Addr) (P lb : List Nat) (w : World)
    (hb : Lim base w B m d lb) (hrow : w.ownsRow base 37 1 (.slice (some ⟨g, 0, none⟩) N cap) N (P.map encD)) (hP : Dig P) (hx : x < B64) (hN : N ≤ 8589934592) (hi : i + n' = N) (hm : m < n') (hz : P[i + m]?.getD 0 = 0) :
    Calls Tryz.prog 56 #[.slice (some ⟨g, i, none⟩) n' c', .slice B m d, .int .u64 (x : Int)] w fun e w' => e = .returned (.tuple #[]) ∧ ∃ P', Dig P' ∧ (∀ j, i + m < j → P'[j]?.getD 0 = P[j]?.getD 0) ∧ val P' = val P + B64 ^ i * (x * val lb) ∧
      w'.ownsRow base 37 1 (.slice (some ⟨g, 0, none⟩) N cap) N (P'.map encD) ∧ w.grownBy w' (some g) := by
  have hbg := hrow.lt g rfl
  have hPl : P.length = N := by have := hrow.1; simpa using this
  have HPL := Lib.hid hPl
  have hml := Lib.hid hb.1
  have HI := Lib.hid hi
  have hiN : i + n' ≤ N := by omega
  clear hPl hi
  go_enter Tryz.func56, Tryz.ntmps56
  go_wp2
  go_loopw [6, 15] (fun cv iv wr => ∃ (k : Nat) (Q : List Nat) (cc : Nat), k ≤ m ∧ iv = .int .i64 k ∧ cv = .int .u64 (cc : Int) ∧ TimesAt P Q i k x lb cc ∧ wr.ownsRow base 37 1 (.slice (some ⟨g, 0, none⟩) N cap) N (Q.map encD) ∧ w.grownBy wr (some g))
    (fun _ iv _ => m - (intOf iv).toNat)
  case atStart => exact ⟨0, P, 0, Nat.zero_le _, rfl, rfl, TimesAt.start hP i x lb, hrow, World.grownBy.refl w _⟩
  case round =>
    obtain ⟨k, Q, cc, hk, rfl, rfl, hT, hown, hgr⟩ := hrel
    by_cases hlt : k < m
    · obtain ⟨b, off, rfl, hblt, hcell⟩ := (hb.grown hgr hbg.1 (by omega)).2.2.2 (by omega)
      have h1 := hcell k hlt
      have h2 : wr.cell? ⟨g, i + k, none⟩ = some (.int .u64 ((Q[i + k]?.getD 0 : Nat) : Int)) := by
        have hQl : Q.length = N := by rw [hT.2.1]; exact HPL.out
        rw [hown.cellAt (i + k) (by omega), List.getElem?_map, List.getElem?_eq_getElem (by omega)]
        simp [encD]
      have h3 := hown.frozenAt (i + k)
      have hyl : lb[k]?.getD 0 < B64 := hb.2.2.1.get k
      have hql : Q[i + k]?.getD 0 < B64 := hT.1.get _
      have h39 := add64_run0
      have hcc : cc < B64 := hT.2.2.1
      have HT := Lib.hid hT
      have HO := Lib.hid hown
      have HG := Lib.hid hgr
      clear hcell hT hown hgr
      go_wp2_with (go_at_call 87; refine (mul64_any _ _ _ hx hyl).mono ?_; rintro e w' ⟨rfl, rfl⟩)
      have hst := HO.out.stored (i + k) (.int .u64 (sumLo (sumLo (mulLo x (lb[k]?.getD 0)) (Q[i + k]?.getD 0) 0) cc 0 : Int))
      refine ⟨⟨k + 1, Q.set (i + k) (macLo x (lb[k]?.getD 0) (Q[i + k]?.getD 0) cc), macHi x (lb[k]?.getD 0) (Q[i + k]?.getD 0) cc, by omega, by go_num, ?_, HT.out.step hx hb.2.2.1 (by have := HPL.out; omega), ?_, HG.out.trans hst.2⟩, by simp [intOf]; omega⟩
      · rw [wrap_mac hx hyl hql hcc]
      · have h5 := hst.1
        rw [macLo_eq] at h5
        rw [macLo_eq, List.map_set]
        exact h5
    · obtain rfl : k = m := by omega
      have hown' := hown
      have h3 := hown.frozenAt (i + k)
      have hQl : Q.length = N := by rw [hT.2.1]; exact HPL.out
      have h2 : wr.cell? ⟨g, i + k, none⟩ = some (.int .u64 ((Q[i + k]?.getD 0 : Nat) : Int)) := by
        rw [hown.cellAt (i + k) (by omega), List.getElem?_map, List.getElem?_eq_getElem (by omega)]
        simp [encD]
      have HT := Lib.hid hT
      have HO := Lib.hid hown
      have HG := Lib.hid hgr
      have HQ := Lib.hid hQl
      clear hT hown hgr hQl hown'
      go_wp2
      go_end0
      have hst := HO.out.stored (i + k) (.int .u64 (cc : Int))
      have hT' := HT.out
      rw [hml.out] at hT' hz
      obtain ⟨q1, q2, q3, q4⟩ := hT'.done (by have := HPL.out; have := hml.out; omega) hz
      rw [← hml.out] at q1 q2 q3 q4
      refine ⟨rfl, _, q1, q3, q4, ?_, HG.out.trans hst.2⟩
      have h5 := hst.1
      rw [List.map_set]
      exact h5

end Go.Proofs.YtpephogadljncaaGreat

/-
  The contract of nat.Mul.
-/
namespace Go.Proofs.YtpephogadljncaaGreat
set_option maxRecDepth 100000
open Go.RowKit

theorem made_zero (n : Nat) : (madeCells (Value.int .u64 0).cells (n * 1)).toList = (List.replicate n 0).map encD := by
  rw [Nat.mul_one, show (Value.int .u64 0).cells = #[Value.int .u64 0] from rfl, toList_madeCells_one, List.map_replicate]
  rfl

theorem val_zeros (n : Nat) : val (List.replicate n 0) = 0 := by
  induction n with
  | zero => rfl
  | succ n ih => rw [List.replicate_succ, val_cons, ih]; simp
theorem dig_zeros (n : Nat) : Dig (List.replicate n 0) := fun x hx => by rw [(List.mem_replicate.1 hx).2]; exact B64_pos
theorem get_zeros (n j : Nat) : (List.replicate n 0)[j]?.getD 0 = 0 := by
  by_cases h : j < n <;> simp [h]

set_option maxHeartbeats 2000000 in
theorem mul_lim (A B : Option Addr) (n c m d : Nat) (la lb : List Nat) (w : World) (ha : Lim w.heap.size w A n c la) (hb : Lim w.heap.size w B m d lb) (hn : n ≤ 2147483648) (hm : m ≤ 2147483648) :
    Calls Tryz.prog 28 #[.slice A n c, .slice B m d] w fun e w' => ∃ v, e = .returned v ∧ IsN w' v (val la * val lb) ∧ Below w.heap.size w w' := by
  obtain ⟨i0, hi, hz0, hz1, hz2⟩ := info_parts info24
  obtain ⟨s, hs⟩ : ∃ s, w.heap.size = s := ⟨_, rfl⟩
  rw [hs] at ha hb
  have HS := Lib.hid hs
  clear hs
  have hnl := Lib.hid ha.1
  have hml := Lib.hid hb.1
  go_enter Tryz.func28, Tryz.ntmps28
  go_wp2_with (at_make; refine wpList_make_full _ rfl _ _ 24 rfl s 37 i0 (.int .u64 0) 1 Tryz.underlying24 hi hz0 hz1 .i64 .i64 _ _ (n + m) rfl rfl (by omega) (by omega) (by rw [hz2]; omega) (by unfold maxLen; omega) (by rw [HS.out]; omega) ?_; intro w1 hown1 hgrow1; rw [made_zero] at hown1)
  rw [HS.out] at hown1 ⊢
  go_loopw [16] (fun iv wr => ∃ (k : Nat) (P : List Nat), k ≤ n ∧ iv = .int .i64 k ∧ Dig P ∧ Hid (val P = val (la.take k) * val lb) ∧ (∀ j, k + m ≤ j → Hid (P[j]?.getD 0 = 0)) ∧ wr.ownsRow s 37 1 (.slice (some ⟨s, 0, none⟩) (n + m) (n + m)) (n + m) (P.map encD) ∧ Below s w wr)
    (fun iv _ => n - (intOf iv).toNat)
  case atStart => exact ⟨0, List.replicate (n + m) 0, Nat.zero_le _, rfl, dig_zeros _, by rw [val_zeros]; simp [val_nil, Hid], fun j _ => get_zeros _ _, hown1, (Below.refl s w).grown hgrow1 (by have := HS.out; omega) (fun k h => by cases h)⟩
  case round =>
    obtain ⟨k, P, hk, rfl, hP, hv, hzs, hown, hbl⟩ := hrel
    by_cases hlt : k < n
    · obtain ⟨b, off, rfl, hblt, hcell⟩ := (ha.below hbl).2.2.2 (by omega)
      have h1 := hcell k hlt
      have hxl : la[k]?.getD 0 < B64 := ha.2.2.1.get k
      have hb' := hb.below hbl
      clear hcell
      have HV := Lib.hid hv
      clear hv
      go_wp2_with (go_at_call 56; refine (times_any s s (n + m) (n + m) k (n + m - k) (n + m - k) m d (la[k]?.getD 0) B P lb _ hb' hown hP hxl (by omega) (by omega) (by omega) (hzs _ (Nat.le_refl _)).out).mono ?_; rintro e w' ⟨rfl, P', q1, q2, q3, q4, q5⟩; have HQ := Lib.hid q3; clear q3)
      refine ⟨⟨k + 1, P', by omega, by go_num, q1, ?_, fun j hj => ?_, q4, hbl.grown q5 (by have := hbl.size; have := HS.out; omega) (fun j e => by cases e; exact Nat.le_refl _)⟩, by simp [intOf]; omega⟩
      · have e1 := HQ.out
        have e2 := HV.out
        rw [e2] at e1
        rw [e1, val_take_succ, Nat.add_mul, Nat.mul_assoc]
        exact Lib.hid rfl
      · have := q2 j (by omega)
        rw [this]
        exact hzs j (by omega)
    · obtain rfl : k = n := by omega
      have hlim := (Lim.of_own hown hP)
      have HV := Lib.hid hv
      clear hv
      go_wp2_with (go_at_call 57; refine (trim_lim _ _ _ _ _ _ hlim (by omega)).mono ?_; rintro e w' ⟨j, rfl, hj, rfl⟩)
      go_ret
      refine ⟨_, rfl, ⟨_, _, _, rfl, ?_⟩, by rw [HS.out]; exact hbl⟩
      rw [HV.out, List.take_of_length_le (by have := hnl.out; omega)] at hj
      exact hj

end Go.Proofs.YtpephogadljncaaGreat

/-
  The contract of math/bits.Len64: how many binary figures a digit has.
-/
namespace Go.Proofs.YtpephogadljncaaGreat
set_option maxRecDepth 100000
open Go.RowKit

/-- How many binary figures. -/
def blen (x : Nat) : Nat := if x = 0 then 0 else Nat.log2 x + 1
theorem blen_zero : blen 0 = 0 := rfl
theorem blen_le {x k : Nat} (h : x < 2 ^ k) : blen x ≤ k := by
  unfold blen
  split
  · omega
  · have := (Nat.log2_lt (by omega)).2 h; omega
theorem lt_blen (x : Nat) : x < 2 ^ blen x := by
  unfold blen
  split
  · omega
  · exact (Nat.log2_lt (by omega)).1 (Nat.lt_succ_self _)
theorem blen_ge {x : Nat} (h : x ≠ 0) : 2 ^ (blen x - 1) ≤ x := by
  unfold blen
  rw [if_neg h, Nat.add_sub_cancel]
  exact Nat.log2_self_le h
theorem blen_pos {x : Nat} (h : x ≠ 0) : 0 < blen x := by unfold blen; rw [if_neg h]; omega
/-- The two bounds tell it. -/
theorem blen_eq {x k : Nat} (h1 : 2 ^ k ≤ x) (h2 : x < 2 ^ (k + 1)) : blen x = k + 1 := by
  have h3 := blen_le h2
  have h4 := lt_blen x
  have h5 : 2 ^ k < 2 ^ blen x := by omega
  have := (Nat.pow_lt_pow_iff_right (a := 2) (by omega)).1 h5
  omega

theorem bitLen_blen (x : Nat) (hx : x < 18446744073709551616) : Lib.bitLen x = blen x := by
  by_cases h : x = 0
  · subst h; rfl
  · obtain ⟨h1, h2, h3⟩ := Lib.bitLenAux_bounds 64 x (by simpa using hx) h
    obtain ⟨k, hk⟩ : ∃ k, Lib.bitLen x = k + 1 := ⟨Lib.bitLenAux 64 x - 1, by unfold Lib.bitLen; omega⟩
    have h2' : 2 ^ k ≤ x := by have := h2; rw [show Lib.bitLenAux 64 x = k + 1 from hk] at this; simpa using this
    have h3' : x < 2 ^ (k + 1) := by have := h3; rw [show Lib.bitLenAux 64 x = k + 1 from hk] at this; exact this
    rw [hk, blen_eq h2' h3']

/-- One way through the table: k figures are cut off. -/
theorem len_way (x q : Int) (k D : Nat) (hx : x ≤ 18446744073709551615) (hD : D = 2 ^ k) (hq : q.toNat = x.toNat / D) (hk : k = 0 ∨ D ≤ x.toNat) (h : q.toNat < 256) (hk2 : k ≤ 56) (hlt : q.toNat < Lib.len8tab.size) :
    wrap64 ((k : Int) + wrap64 ((Lib.len8tab[q.toNat]'hlt).toNat : Int)) = (blen x.toNat : Int) := by
  have e1 : ((Lib.len8tab[q.toNat]'hlt).toNat : Int) = Lib.len8 (q.toNat : Int) := by
    unfold Lib.len8
    rw [Int.toNat_natCast, getElem?_pos Lib.len8tab q.toNat hlt]
    rfl
  have hb := Lib.bitLen_le8' (q.toNat : Int) (by omega) (by omega)
  rw [e1, Lib.len8_of _ (by omega) (by omega)]
  rw [Int.toNat_natCast] at hb ⊢
  have e2 : k + Lib.bitLen q.toNat = blen x.toNat := by
    rw [← bitLen_blen x.toNat (by omega)]
    rcases hk with rfl | hk
    · subst hD; rw [hq]; simp
    · rw [Lib.bitLen_shift k x.toNat (by rw [← hD]; exact hk) (by simp; omega), hq, hD]
  rw [← e2, IntWalk.wrap64_in ((Lib.bitLen q.toNat : Nat) : Int) ⟨by omega, by omega⟩, IntWalk.wrap64_in _ ⟨by omega, by omega⟩]
  omega

set_option maxHeartbeats 4000000 in
theorem len64_int (x : Int) (w : World) (h0 : 0 ≤ x) (h1 : x ≤ 18446744073709551615) :
    Calls Tryz.prog 117 #[.int .u64 x] w fun e w' => e = .returned (.int .i64 (blen x.toNat : Int)) ∧ w = w' := by
  have hs := Lib.len8tab_size
  go_enter Tryz.func117, Tryz.ntmps117
  go_wp2
  all_goals (go_ret; refine ⟨congrArg Ending.returned (congrArg (Value.int IntKind.i64) ?_), rfl⟩)
  all_goals first
    | exact len_way x _ 56 72057594037927936 h1 rfl (by omega) (.inr (by omega)) (by omega) (by omega) _
    | exact len_way x _ 48 281474976710656 h1 rfl (by omega) (.inr (by omega)) (by omega) (by omega) _
    | exact len_way x _ 40 1099511627776 h1 rfl (by omega) (.inr (by omega)) (by omega) (by omega) _
    | exact len_way x _ 32 4294967296 h1 rfl (by omega) (.inr (by omega)) (by omega) (by omega) _
    | exact len_way x _ 24 16777216 h1 rfl (by omega) (.inr (by omega)) (by omega) (by omega) _
    | exact len_way x _ 16 65536 h1 rfl (by omega) (.inr (by omega)) (by omega) (by omega) _
    | exact len_way x _ 8 256 h1 rfl (by omega) (.inr (by omega)) (by omega) (by omega) _
    | (have e := len_way x x 0 1 h1 rfl (by omega) (.inl rfl) (by omega) (by omega) (by omega)
       simpa using e)

theorem len64_any (x : Nat) (w : World) (hx : x < B64) :
    Calls Tryz.prog 117 #[.int .u64 (x : Int)] w fun e w' => e = .returned (.int .i64 (blen x : Int)) ∧ w = w' :=
  len64_int x w (by omega) (by unfold B64 at hx; omega)

end Go.Proofs.YtpephogadljncaaGreat

/-
  The contracts of the small functions: Right, Few, Of, Small, Bits.
-/
namespace Go.Proofs.YtpephogadljncaaGreat
set_option maxRecDepth 100000
set_option maxHeartbeats 1000000
open Go.RowKit

theorem canon_nil : canon [] = true := rfl
theorem canon_at {l : List Nat} {j : Nat} (h : l.length = j + 1) : canon l = (l[j]?.getD 0 != 0) := by
  unfold canon
  have hl : l ≠ [] := fun e => by rw [e] at h; simp at h
  rw [List.getLastD_eq_getLast?, List.getLast?_eq_getElem?, h, Nat.add_sub_cancel, List.getElem?_eq_getElem (by omega)]
  rfl

theorem ret_bool {a b : Bool} (h : a = b) : Ending.returned (.bool a) = .returned (.bool b) := by rw [h]
theorem ret_i64 {a b : Int} (h : a = b) : Ending.returned (.int .i64 a) = .returned (.int .i64 b) := by rw [h]
theorem right_bool (j d : Nat) : ((j : Int) + 1 == 0 || (d : Int) != 0) = (d != 0) := by
  have h : ((j : Int) + 1 == 0) = false := by simp; omega
  rw [h, Bool.false_or]
  rw [Bool.eq_iff_iff]
  simp

theorem rright_any (B : Nat) (A : Option Addr) (n c : Nat) (l : List Nat) (r : Bool) (w : World) (h : Lim B w A n c l) (hn : n ≤ 9223372036854775807) (hr : canon l = r) :
    Calls Tryz.prog 5 #[.slice A n c] w fun e w' => e = .returned (.bool r) ∧ w = w' := by
  obtain ⟨hl, hcap, hdg, hc⟩ := h
  by_cases h0 : n = 0
  · subst h0
    have e : l = [] := List.eq_nil_of_length_eq_zero hl.symm
    subst e
    have HR := Lib.hid hr
    clear hr hc hl
    go_enter Tryz.func5, Tryz.ntmps5
    go_wp2
    go_ret
    exact ⟨by rw [← HR.out]; rfl, rfl⟩
  · obtain ⟨j, rfl⟩ : ∃ j, n = j + 1 := ⟨n - 1, by omega⟩
    obtain ⟨b, off, rfl, hb, hcell⟩ := hc (by omega)
    have h1 := hcell j (by omega)
    rw [canon_at hl.symm] at hr
    have HR := Lib.hid hr
    clear hr hc hl hcell h0
    go_enter Tryz.func5, Tryz.ntmps5
    go_wp2
    go_ret
    exact ⟨by rw [← HR.out]; exact ret_bool (right_bool j _), rfl⟩

theorem limbs_one {x : Nat} (h : x ≠ 0) (hx : x < B64) : limbs x = [x] := by
  rw [limbs_pos h, Nat.mod_eq_of_lt hx, Nat.div_eq_of_lt hx, limbs_zero]

/-- One digit in a new block. -/
theorem isN_new {x : Nat} (h : x ≠ 0) (hx : x < B64) (w : World) (t : TypeId) : IsN (w.alloc (.cells #[.int .u64 (x : Int)] t)) (.slice (some ⟨w.heap.size, 0, none⟩) 1 1) x := by
  refine ⟨_, _, _, rfl, ?_⟩
  rw [limbs_one h hx]
  refine ⟨rfl, Nat.le_refl _, Dig.cons hx Dig.nil, fun _ => ⟨_, _, rfl, by simp, fun j hj => ?_⟩⟩
  obtain rfl : j = 0 := by omega
  exact cell_one_new w _ t 0 _ rfl

theorem of_any (x : Nat) (w : World) (hx : x < B64) :
    Calls Tryz.prog 32 #[.int .u64 (x : Int)] w fun e w' => ∃ v, e = .returned v ∧ IsN w' v x ∧ Below w.heap.size w w' := by
  by_cases h : x = 0
  · subst h
    go_enter Tryz.func32, Tryz.ntmps32
    go_wp2
    go_ret
    exact ⟨_, rfl, IsN.zero _, Below.refl _ _⟩
  · have hb : ((x : Int) == 0) = false := by simp [h]
    go_enter Tryz.func32, Tryz.ntmps32
    go_wp2
    go_ret
    exact ⟨_, rfl, isN_new h hx w _, (Below.refl _ w).alloc (Nat.le_refl _) _⟩

theorem isN_small {w : World} {A : Option Addr} {n c x : Nat} (h : Lim w.heap.size w A n c (limbs x)) : (n ≤ 1 ↔ x < B64) := by
  rw [h.1, limbs_lt_iff, Nat.pow_one]

theorem small_any (A : Option Addr) (n c x : Nat) (w : World) (h : Lim w.heap.size w A n c (limbs x)) (hn : n ≤ 9223372036854775807) (hx : x < B64) :
    Calls Tryz.prog 102 #[.slice A n c] w fun e w' => e = .returned (.tuple #[.int .u64 (x : Int), .bool true]) ∧ w = w' := by
  have h1 := (isN_small h).2 hx
  have hv : ((limbs x)[0]?.getD 0) = x := by
    by_cases h0 : x = 0
    · subst h0; rw [limbs_zero]; rfl
    · rw [limbs_one h0 hx]; rfl
  have HV := Lib.hid hv
  clear hv
  go_enter Tryz.func102, Tryz.ntmps102
  go_wp2_with (go_at_call 86; refine (limb_any _ _ _ _ 0 _ _ h hn (by omega)).mono ?_; rintro e w' ⟨rfl, rfl⟩)
  go_ret2
  exact ⟨by rw [HV.out]; rfl, rfl⟩

theorem small_great (A : Option Addr) (n c x : Nat) (w : World) (h : Lim w.heap.size w A n c (limbs x)) (hn : n ≤ 9223372036854775807) (hx : B64 ≤ x) :
    Calls Tryz.prog 102 #[.slice A n c] w fun e w' => e = .returned (.tuple #[.int .u64 0, .bool false]) ∧ w = w' := by
  have h1 : 1 < n := by
    rcases Nat.lt_or_ge 1 n with h2 | h2
    · exact h2
    · have := (isN_small h).1 h2; omega
  go_enter Tryz.func102, Tryz.ntmps102
  go_wp2
  go_ret2
  exact ⟨rfl, rfl⟩

theorem rsmall_any (A : Option Addr) (n c x : Nat) (w : World) (h : Lim w.heap.size w A n c (limbs x)) (hn : n ≤ 9223372036854775807) (hx : x < B64) :
    Calls Tryz.prog 75 #[.slice A n c] w fun e w' => e = .returned (.tuple #[.int .u64 (x : Int), .bool true]) ∧ w = w' := by
  have h1 := (isN_small h).2 hx
  by_cases h0 : x = 0
  · subst h0
    have hn0 := h.1
    rw [limbs_zero] at hn0
    simp at hn0
    subst hn0
    go_enter Tryz.func75, Tryz.ntmps75
    go_wp2
    go_ret2
    exact ⟨rfl, rfl⟩
  · have hn0 := h.1
    rw [limbs_one h0 hx] at hn0 h
    simp at hn0
    subst hn0
    obtain ⟨b, off, rfl, _, hc⟩ := h.2.2.2 (by omega)
    have hc0 := hc 0 (by omega)
    simp at hc0
    clear hc h
    go_enter Tryz.func75, Tryz.ntmps75
    go_wp2
    go_ret2
    exact ⟨rfl, rfl⟩

theorem rsmall_great (A : Option Addr) (n c x : Nat) (w : World) (h : Lim w.heap.size w A n c (limbs x)) (hn : n ≤ 9223372036854775807) (hx : B64 ≤ x) :
    Calls Tryz.prog 75 #[.slice A n c] w fun e w' => e = .returned (.tuple #[.int .u64 0, .bool false]) ∧ w = w' := by
  have h1 : 1 < n := by
    rcases Nat.lt_or_ge 1 n with h2 | h2
    · exact h2
    · have := (isN_small h).1 h2; omega
  have hb : ((n : Int) == 0) = false := by simp; omega
  go_enter Tryz.func75, Tryz.ntmps75
  go_wp2
  go_ret2
  exact ⟨rfl, rfl⟩

end Go.Proofs.YtpephogadljncaaGreat

/-
  The contracts of both Bits: how many binary figures a number has.
-/
namespace Go.Proofs.YtpephogadljncaaGreat
set_option maxRecDepth 100000
set_option maxHeartbeats 1000000
open Go.RowKit

theorem B64_pow (j : Nat) : B64 ^ j = 2 ^ (64 * j) := by
  rw [show B64 = 2 ^ 64 from rfl, Nat.pow_mul]

theorem top_ne {x j : Nat} (h : (limbs x).length = j + 1) : (limbs x)[j]?.getD 0 ≠ 0 := by
  have := limbs_canon x
  rw [canon_at h] at this
  simpa using this

theorem top_split {x j : Nat} (h : (limbs x).length = j + 1) : ∃ r, r < B64 ^ j ∧ x = r + B64 ^ j * (limbs x)[j]?.getD 0 := by
  refine ⟨val ((limbs x).take j), ?_, ?_⟩
  · exact Nat.lt_of_lt_of_le (val_lt ((limbs_dig x).take j)) (Nat.pow_le_pow_right B64_pos (List.length_take_le _ _))
  · have := val_take_succ (limbs x) j
    rw [List.take_of_length_le (by omega), val_limbs] at this
    exact this

theorem blen_limbs {x j : Nat} (h : (limbs x).length = j + 1) : blen x = 64 * j + blen ((limbs x)[j]?.getD 0) := by
  obtain ⟨r, hr, hx⟩ := top_split h
  have hd := top_ne h
  generalize (limbs x)[j]?.getD 0 = d at *
  have h1 := blen_ge hd
  have h2 := lt_blen d
  obtain ⟨k, hk⟩ : ∃ k, blen d = k + 1 := ⟨blen d - 1, by have := blen_pos hd; omega⟩
  rw [hk] at h1 h2 ⊢
  rw [Nat.add_sub_cancel] at h1
  rw [B64_pow] at hr hx
  have e : 64 * j + (k + 1) = (64 * j + k) + 1 := by omega
  rw [e]
  refine blen_eq ?_ ?_
  · rw [Nat.pow_add]
    have : 2 ^ (64 * j) * 2 ^ k ≤ 2 ^ (64 * j) * d := Nat.mul_le_mul_left _ h1
    omega
  · rw [Nat.add_assoc, Nat.pow_add]
    have : 2 ^ (64 * j) * (d + 1) ≤ 2 ^ (64 * j) * 2 ^ (k + 1) := Nat.mul_le_mul_left _ h2
    rw [Nat.mul_add, Nat.mul_one] at this
    omega

theorem blen_digit {d : Nat} (h : d < B64) : blen d ≤ 64 := blen_le (by rw [show (2 : Nat) ^ 64 = B64 from rfl]; exact h)

theorem bits_any (A : Option Addr) (n c x : Nat) (w : World) (h : Lim w.heap.size w A n c (limbs x)) (hn : n ≤ 4294967296) :
    Calls Tryz.prog 115 #[.slice A n c] w fun e w' => e = .returned (.int .i64 (blen x : Int)) ∧ w = w' := by
  have hl := h.1
  by_cases h0 : n = 0
  · subst h0
    have e : x = 0 := by
      have := List.eq_nil_of_length_eq_zero hl.symm
      have h2 := val_limbs x
      rw [this] at h2; exact h2.symm
    subst e
    clear hl
    go_enter Tryz.func115, Tryz.ntmps115
    go_wp2
    go_ret
    exact ⟨rfl, rfl⟩
  · obtain ⟨j, rfl⟩ : ∃ j, n = j + 1 := ⟨n - 1, by omega⟩
    obtain ⟨b, off, rfl, hb, hcell⟩ := h.2.2.2 (by omega)
    have h1 := hcell j (by omega)
    have hd : (limbs x)[j]?.getD 0 < B64 := (limbs_dig x).get j
    have hbl := blen_limbs hl.symm
    have h64 := blen_digit hd
    have HB := Lib.hid hbl
    clear hcell hl hbl h h0
    generalize (limbs x)[j]?.getD 0 = d at *
    go_enter Tryz.func115, Tryz.ntmps115
    go_wp2_with (go_at_call 117; refine (len64_any _ _ hd).mono ?_; rintro e w' ⟨rfl, rfl⟩)
    go_ret
    exact ⟨ret_i64 (by rw [HB.out]; go_num), rfl⟩

theorem blen_half {t : Nat} (h : t ≠ 0) : blen t = blen (t / 2) + 1 := by
  by_cases h1 : t / 2 = 0
  · have : t = 1 := by omega
    subst this; rfl
  · obtain ⟨k, hk⟩ : ∃ k, blen (t / 2) = k + 1 := ⟨blen (t / 2) - 1, by have := blen_pos h1; omega⟩
    have h2 := blen_ge h1
    have h3 := lt_blen (t / 2)
    rw [hk] at h2 h3 ⊢
    rw [Nat.add_sub_cancel] at h2
    refine blen_eq ?_ ?_
    · rw [Nat.pow_succ]; omega
    · rw [Nat.pow_succ]; omega

theorem wrap_half {t : Nat} (h : t < B64) : IntKind.u64.wrap ((t : Int) / 2) = ((t / 2 : Nat) : Int) := by
  rw [IntKind.wrap_u64]
  unfold B64 at h
  omega

theorem rbits_any (A : Option Addr) (n c x : Nat) (w : World) (h : Lim w.heap.size w A n c (limbs x)) (hn : n ≤ 4294967296) :
    Calls Tryz.prog 68 #[.slice A n c] w fun e w' => e = .returned (.int .i64 (blen x : Int)) ∧ w = w' := by
  have hl := h.1
  by_cases h0 : n = 0
  · subst h0
    have e : x = 0 := by
      have := List.eq_nil_of_length_eq_zero hl.symm
      have h2 := val_limbs x
      rw [this] at h2; exact h2.symm
    subst e
    clear hl
    go_enter Tryz.func68, Tryz.ntmps68
    go_wp2
    go_ret
    exact ⟨rfl, rfl⟩
  · obtain ⟨j, rfl⟩ : ∃ j, n = j + 1 := ⟨n - 1, by omega⟩
    obtain ⟨b, off, rfl, hb, hcell⟩ := h.2.2.2 (by omega)
    have h1 := hcell j (by omega)
    have hd : (limbs x)[j]?.getD 0 < B64 := (limbs_dig x).get j
    have hbl := blen_limbs hl.symm
    have h64 := blen_digit hd
    have HB := Lib.hid hbl
    clear hcell hl hbl h h0
    generalize (limbs x)[j]?.getD 0 = d at *
    go_enter Tryz.func68, Tryz.ntmps68
    go_wp2
    go_loop [3, 4] (fun nv tv => ∃ (k t : Nat), nv = .int .i64 (k : Int) ∧ tv = .int .u64 (t : Int) ∧ k ≤ 64 * j + 64 ∧ t < B64 ∧ Hid (k + blen t = blen x)) (fun _ tv => (intOf tv).toNat)
    case atStart => exact ⟨64 * j, d, by go_num, rfl, by omega, hd, Lib.hid HB.out.symm⟩
    case round =>
      obtain ⟨k, t, rfl, rfl, hk, htB, hv⟩ := hrel
      by_cases ht : t = 0
      · subst ht
        go_wp2
        go_ret
        exact ⟨ret_i64 (by have := hv.out; rw [blen_zero] at this; omega), rfl⟩
      · have htp : 0 < t := by omega
        have hh := blen_half ht
        have hv' := hv.out
        have hkx : k + 1 ≤ 64 * j + 64 := by have := HB.out; omega
        have HH := Lib.hid hh
        have HV := Lib.hid hv'
        clear hh hv' ht
        go_wp2
        go_round
        case rel => exact ⟨k + 1, t / 2, by go_num, congrArg (Value.int .u64) (wrap_half htB), hkx, by omega, Lib.hid (by have := HH.out; have := HV.out; omega)⟩
        case measure => simp only [intOf, wrap_half htB]; omega

end Go.Proofs.YtpephogadljncaaGreat

/-
  The contracts of cmp.Compare at uint64 and of nat.Cmp.
-/
namespace Go.Proofs.YtpephogadljncaaGreat
set_option maxRecDepth 100000
set_option maxHeartbeats 2000000
open Go.RowKit Go.Shelf

attribute [local go_sem] Oper.semAt_some

/-- -1, 0 or 1. -/
def cmpN (a b : Nat) : Int := if a < b then -1 else if b < a then 1 else 0

theorem compare_any (x y : Nat) (w : World) : Calls Tryz.prog 64 #[.int .u64 (x : Int), .int .u64 (y : Int)] w fun e w' => e = .returned (.int .i64 (cmpN x y)) ∧ w = w' := by
  by_cases h1 : x < y
  · have hv : cmpN x y = -1 := by simp [cmpN, h1]
    have HV := Lib.hid hv
    clear hv
    go_enter Tryz.func64, Tryz.ntmps64
    go_wp2
    go_ret
    exact ⟨by rw [HV.out]; rfl, rfl⟩
  · by_cases h2 : y < x
    · have hv : cmpN x y = 1 := by simp [cmpN, h1, h2]
      have HV := Lib.hid hv
      clear hv
      go_enter Tryz.func64, Tryz.ntmps64
      go_wp2
      go_ret
      exact ⟨by rw [HV.out]; rfl, rfl⟩
    · have hv : cmpN x y = 0 := by simp [cmpN, h1, h2]
      have HV := Lib.hid hv
      clear hv
      go_enter Tryz.func64, Tryz.ntmps64
      go_wp2
      go_ret
      exact ⟨by rw [HV.out]; rfl, rfl⟩

def cmpStep (o : Int) (x : Pair) : Int := if x.1.1 = x.1.2 then o else cmpN x.1.1 x.1.2
def cmpF (l : List Pair) : Int := l.foldl cmpStep 0
theorem cmpF_snoc (l : List Pair) (x : Pair) : cmpF (l ++ [x]) = cmpStep (cmpF l) x := by simp [cmpF]
theorem cmpF_same (l : List Pair) {x : Pair} (h : x.1.1 = x.1.2) : cmpF (l ++ [x]) = cmpF l := by rw [cmpF_snoc, cmpStep, if_pos h]
theorem cmpF_other (l : List Pair) {x : Pair} (h : x.1.1 ≠ x.1.2) : cmpF (l ++ [x]) = cmpN x.1.1 x.1.2 := by rw [cmpF_snoc, cmpStep, if_neg h]

theorem cmpN_top {k x y A B : Nat} (hA : A < k) (h : x < y) : A + k * x < B + k * y := by
  have h1 : k * (x + 1) ≤ k * y := Nat.mul_le_mul_left _ h
  rw [Nat.mul_add, Nat.mul_one] at h1
  omega

theorem cmpF_upto {la lb : List Nat} (ha : Dig la) (hb : Dig lb) (k : Nat) : cmpF (upto ha hb k) = cmpN (val (la.take k)) (val (lb.take k)) := by
  induction k with
  | zero => simp [upto_zero, cmpF, val_nil, cmpN]
  | succ k ih =>
    have hA : val (la.take k) < B64 ^ k := Nat.lt_of_lt_of_le (val_lt (ha.take k)) (Nat.pow_le_pow_right B64_pos (List.length_take_le _ _))
    have hB : val (lb.take k) < B64 ^ k := Nat.lt_of_lt_of_le (val_lt (hb.take k)) (Nat.pow_le_pow_right B64_pos (List.length_take_le _ _))
    rw [upto_succ, val_take_succ, val_take_succ]
    by_cases he : la[k]?.getD 0 = lb[k]?.getD 0
    · rw [cmpF_same _ (by simpa [pairAt] using he), ih, he]
      unfold cmpN
      simp
    · rw [cmpF_other _ (by simpa [pairAt] using he)]
      simp only [pairAt]
      generalize la[k]?.getD 0 = x at *
      generalize lb[k]?.getD 0 = y at *
      rcases Nat.lt_or_ge x y with h | h
      · have := cmpN_top (B := val (lb.take k)) hA h
        simp [cmpN, h, this]
      · have h' : y < x := by omega
        have := cmpN_top (B := val (la.take k)) hB h'
        have h2 : ¬ (val (la.take k) + B64 ^ k * x < val (lb.take k) + B64 ^ k * y) := by omega
        have h3 : ¬ x < y := by omega
        simp [cmpN, h3, h', h2, this]

theorem cmpF_all {la lb : List Nat} (ha : Dig la) (hb : Dig lb) : cmpF (upto ha hb (max la.length lb.length)) = cmpN (val la) (val lb) := by
  rw [cmpF_upto, List.take_of_length_le (by omega), List.take_of_length_le (by omega)]

theorem cmp_lists (A B : Option Addr) (n c m d : Nat) (la lb : List Nat) (w : World) (ha : Lim w.heap.size w A n c la) (hb : Lim w.heap.size w B m d lb) (hn : n ≤ 4294967296) (hm : m ≤ 4294967296) :
    Calls Tryz.prog 33 #[.slice A n c, .slice B m d] w fun e w' => e = .returned (.int .i64 (cmpN (val la) (val lb))) ∧ Below w.heap.size w w' := by
  refine (callsIn_wide (n := 10)).1 ?_
  refine callsIn_of_wp_marks Tryz.func33 rfl trivial ?_ rfl
  simp only [Tryz.ntmps33, List.size_toArray, List.length_cons, List.length_nil, Nat.reduceAdd, Nat.reduceSub, Array.replicate_succ, Array.replicate_zero, List.push_toArray, List.append_toArray, List.nil_append, List.cons_append]
  have hnl := Lib.hid ha.1
  have hml := Lib.hid hb.1
  have dga : Dig la := ha.2.2.1
  have dgb : Dig lb := hb.2.2.1
  gi_wp2_with (refine ⟨trivial, ?_⟩; gi_at_call 54; refine (callsIn_wide.2 (pairs_any _ _ _ _ _ _ _ _ rfl rfl _)).mono ?_; rintro e w' ⟨rfl, rfl⟩)
  obtain ⟨s, hs⟩ : ∃ s, w.heap.size = s := ⟨_, rfl⟩
  rw [hs] at ha hb ⊢
  have bO : Boxed (w.alloc (.cells #[.int .i64 0] 3)) s 3 (.int .i64 0) := hs ▸ Boxed.new w 3 (.int .i64 0)
  have bA : Boxed ((w.alloc (.cells #[.int .i64 0] 3)).alloc (.cells #[.slice A n c] 24)) (s + 1) 24 (.slice A n c) := by
    have := Boxed.new (w.alloc (.cells #[.int .i64 0] 3)) 24 (.slice A n c); rw [World.size_alloc, hs] at this; exact this
  have bB : Boxed (((w.alloc (.cells #[.int .i64 0] 3)).alloc (.cells #[.slice A n c] 24)).alloc (.cells #[.slice B m d] 24)) (s + 1 + 1) 24 (.slice B m d) := by
    have := Boxed.new ((w.alloc (.cells #[.int .i64 0] 3)).alloc (.cells #[.slice A n c] 24)) 24 (.slice B m d); rw [World.size_alloc, World.size_alloc, hs] at this; exact this
  have hB0 : Below s w (((w.alloc (.cells #[.int .i64 0] 3)).alloc (.cells #[.slice A n c] 24)).alloc (.cells #[.slice B m d] 24)) := (((Below.refl _ w).alloc (by omega) _).alloc (by simp; omega) _).alloc (by simp; omega) _
  replace bO := (bO.alloc (.cells #[.slice A n c] 24)).alloc (.cells #[.slice B m d] 24)
  replace bA := bA.alloc (.cells #[.slice B m d] 24)
  obtain ⟨W0, hW0⟩ : ∃ W0, (((w.alloc (.cells #[.int .i64 0] 3)).alloc (.cells #[.slice A n c] 24)).alloc (.cells #[.slice B m d] 24)) = W0 := ⟨_, rfl⟩
  have hsz : W0.heap.size = s + 3 := by rw [← hW0]; simp; omega
  rw [hW0] at bO bA bB hB0 ⊢
  clear hW0
  refine wpIn_rangeFunc_ownG rfl (by decide) (gf := 85) (lb := #[.pointer (some ⟨s + 1, 0, none⟩), .pointer (some ⟨s + 1 + 1, 0, none⟩)]) rfl trivial (enters_of Tryz.func85 (by kernel_rfl) rfl)
    (pairs_stops (s + 1) (s + 1 + 1) s A B n c m d la lb dga dgb hn hm W0 (by omega) bA bB (ha.below hB0) (hb.below hB0))
    (fun h k => h.trans k) (keep_b (by omega) (by omega) (by omega)) (Below.refl _ _) (fun _ => rfl)
    (fun pre W => (Boxed W s 3 (.int .i64 (cmpF pre)) ∧ Boxed W (s + 1) 24 (.slice A n c) ∧ Boxed W (s + 1 + 1) 24 (.slice B m d)) ∧ Below s w W)
    (fun _ _ _ => False)
    (OwnFrom.and (OwnFrom.and (Own.from (boxed_own _ _ _) _) (OwnFrom.and (Own.from (boxed_own _ _ _) _) (Own.from (boxed_own _ _ _) _))) (ownFrom_below (by omega) (by omega)))
    (fun _ _ _ _ _ hs _ _ => hs)
    ⟨⟨bO, bA, bB⟩, hB0⟩
    (fun x => { tmps := #[.slice A n c, .slice B m d, undef, undef, .int .i64 0, .pointer (some ⟨s, 0, none⟩), .int .u64 (x.1.1 : Int), .int .u64 (x.1.2 : Int), .slice A n c, .slice B m d, .func (.func 85) #[] #[.pointer (some ⟨s + 1, 0, none⟩), .pointer (some ⟨s + 1 + 1, 0, none⟩)], .int .u64 (x.1.1 : Int), .int .u64 (x.1.2 : Int), undef, undef, undef, undef, undef, undef, undef], defers := [] }) ?assign ?body ?done ?stop
  case assign =>
    intro l x W K hK
    gi_wp2
    exact hK
  case body =>
    rintro l pre x W ⟨⟨hO, hA, hB⟩, hBl⟩ _
    have hc := hO.cell
    have hf := hO.frozen
    by_cases hx : x.1.1 = x.1.2
    · have hxb : ((x.1.1 : Int) != (x.1.2 : Int)) = false := by simp [hx]
      have HX := Lib.hid hx
      clear hx
      gi_wp2
      exact ⟨KeepsFrom.refl _ _, Keep.refl _ _ _ _, ⟨by rw [cmpF_same pre HX.out]; exact hO, hA, hB⟩, hBl⟩
    · have hxb : ((x.1.1 : Int) != (x.1.2 : Int)) = true := by simp; omega
      gi_wp2_with (refine ⟨trivial, ?_⟩; gi_at_call 64; refine (CallsIn.inRound l (callsIn_wide.2 (compare_any _ _ _))).mono ?_; rintro e w' ⟨rfl, rfl⟩)
      have hA' := hA.other (B' := s) (by omega) (.int .i64 (cmpN x.1.1 x.1.2))
      have hB' := hB.other (B' := s) (by omega) (.int .i64 (cmpN x.1.1 x.1.2))
      exact ⟨(KeepsOthers.setCell _ _ _).from _, ⟨(Below.refl s W).setCell (p := ⟨s, 0, none⟩) (Nat.le_refl _) _, hA'.trans hA.symm, hB'.trans hB.symm⟩,
        ⟨by rw [cmpF_other pre hx]; exact hO.set _, hA', hB'⟩, hBl.setCell (p := ⟨s, 0, none⟩) (Nat.le_refl _) _⟩
  case done =>
    rintro D ys W hD rfl ⟨⟨hO, _, _⟩, hBl⟩ hK
    have hc := hO.cell
    gi_wp2
    refine ⟨by simp, .inl ⟨_, _, rfl, run_takeDeferred hK, ?_⟩⟩
    refine ⟨_, results_tmp rfl _ _ _, ?_, by rw [hs]; exact hBl.trans (belowK_b (w := W0) (by omega) W D _ _ hD hK rfl rfl)⟩
    rw [hnl.out, hml.out, cmpF_all]
    rfl
  case stop =>
    rintro D c pre W _ _ h _
    exact h.elim

end Go.Proofs.YtpephogadljncaaGreat
