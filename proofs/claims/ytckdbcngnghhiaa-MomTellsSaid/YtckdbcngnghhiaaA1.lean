/-
  Several texts in one: Math, Words, Limb, Pairs, AddMath, Carry, Trim, Share, Add, Sub, MathB, MulW, Times, Mul, Len, Tells, Bits, Cmp, RCmp, Given, N, B1, MathH, MathD, MathQ, Alive, Row, Bare, Halves, Whole, RAdd.
-/
import Derived.Below
import Derived.Laws.OwnMore
import Derived.Deep.AppendLies
import Derived.Deep.Draws
import Derived.Test.YtckdbcngnghhiaaRows
import Derived.WalkKit
import Derived.WalkSpells
import Derived.WalkLawsBesides
import Derived.Lib.Hide
import Derived.RangeFuncNested
import Derived.RangeFuncBox
import Derived.RangeFuncBound
import Derived.RangeFuncCalls
import Derived.RangeFuncLeaves
import Derived.Shelf.Abstract
import Derived.Shelf.RegionOpen
import Derived.OwnWalkIn
import Derived.TacticsInMore
import Derived.LoopNIn
import Derived.LoopIn
import Derived.Maps.AppendAt
import Derived.Laws.Externs
import Derived.Lib.Strings
import Derived.Lib.Slices
import Derived.Lib.Small
import Derived.Lib.Walk
import Derived.Lib.BitFns
import Derived.Lib.ItoaNum
import Derived.BigQuiet
import Derived.WalkSmall
import Derived.Deep.QuietTactic
import Derived.Lib.SliceRun
import Derived.Deep.RegionHeld3
import Derived.Deep.DeepCutAuto
import Derived.Deep.CutBlock
import Derived.OpenShut
import Derived.Laws.Rows
import Derived.Deep.RegionLaw

/-
  Plain arithmetic for the proofs about package nat: the digits of a natural number to the base 2 to the power of 64. Nothing of the program is used here.
-/
namespace Go.Proofs.Ytckdbcngnghhiaa

/-- 2 to the power of 64, behind a name. -/
def B64 : Nat := 18446744073709551616
theorem B64_pos : 0 < B64 := by unfold B64; omega
theorem B64_gt : 1 < B64 := by unfold B64; omega

/-- The number of a list of digits, the lowest first. -/
def val : List Nat → Nat
  | [] => 0
  | x :: xs => x + B64 * val xs

/-- The digits of a number, the lowest first, without noughts at the end. -/
def limbs (n : Nat) : List Nat := if n = 0 then [] else n % B64 :: limbs (n / B64)
termination_by n
decreasing_by exact Nat.div_lt_self (by omega) B64_gt

/-- All digits are digits. -/
def Dig (l : List Nat) : Prop := ∀ x ∈ l, x < B64
/-- The last digit is not nought. -/
def canon (l : List Nat) : Bool := l.getLastD 1 != 0

theorem limbs_zero : limbs 0 = [] := by rw [limbs]; simp
theorem limbs_pos {n : Nat} (h : n ≠ 0) : limbs n = n % B64 :: limbs (n / B64) := by rw [limbs]; simp [h]
theorem val_nil : val [] = 0 := rfl
theorem val_cons (x : Nat) (xs : List Nat) : val (x :: xs) = x + B64 * val xs := rfl

theorem val_limbs (n : Nat) : val (limbs n) = n := by
  induction n using Nat.strongRecOn with
  | _ n ih =>
    by_cases h : n = 0
    · subst h; rw [limbs_zero]; rfl
    · rw [limbs_pos h, val_cons, ih _ (Nat.div_lt_self (by omega) B64_gt)]
      exact Nat.mod_add_div n B64

theorem limbs_dig (n : Nat) : Dig (limbs n) := by
  induction n using Nat.strongRecOn with
  | _ n ih =>
    by_cases h : n = 0
    · subst h; rw [limbs_zero]; intro x hx; cases hx
    · rw [limbs_pos h]
      intro x hx
      rcases List.mem_cons.1 hx with rfl | hx
      · exact Nat.mod_lt _ B64_pos
      · exact ih _ (Nat.div_lt_self (by omega) B64_gt) x hx

theorem Dig.tail {x : Nat} {xs : List Nat} (h : Dig (x :: xs)) : Dig xs := fun y hy => h y (List.mem_cons_of_mem _ hy)
theorem Dig.head {x : Nat} {xs : List Nat} (h : Dig (x :: xs)) : x < B64 := h x List.mem_cons_self
theorem Dig.nil : Dig [] := fun _ h => by cases h
theorem Dig.cons {x : Nat} {xs : List Nat} (hx : x < B64) (h : Dig xs) : Dig (x :: xs) := fun y hy => by
  rcases List.mem_cons.1 hy with rfl | hy
  · exact hx
  · exact h y hy
theorem Dig.snoc {x : Nat} {xs : List Nat} (h : Dig xs) (hx : x < B64) : Dig (xs ++ [x]) := fun y hy => by
  rcases List.mem_append.1 hy with hy | hy
  · exact h y hy
  · simp at hy; subst hy; exact hx
theorem Dig.get {l : List Nat} (h : Dig l) (j : Nat) : l[j]?.getD 0 < B64 := by
  by_cases hj : j < l.length
  · simp [hj]; exact h _ (List.getElem_mem hj)
  · rw [List.getElem?_eq_none (by omega)]; exact B64_pos
theorem Dig.take {l : List Nat} (h : Dig l) (k : Nat) : Dig (l.take k) := fun x hx => h x (List.mem_of_mem_take hx)

theorem canon_cons {x : Nat} {xs : List Nat} (h : xs ≠ []) : canon (x :: xs) = canon xs := by
  unfold canon
  cases xs with
  | nil => exact absurd rfl h
  | cons y ys => simp [List.getLastD]

theorem val_eq_zero {l : List Nat} (hc : canon l = true) (h : val l = 0) : l = [] := by
  induction l with
  | nil => rfl
  | cons x xs ih =>
    rw [val_cons] at h
    have hx : x = 0 := by omega
    have hv : val xs = 0 := by
      have h1 : B64 * val xs = 0 := by omega
      rcases Nat.mul_eq_zero.1 h1 with h2 | h2
      · have := B64_pos; omega
      · exact h2
    by_cases he : xs = []
    · subst he; subst hx; simp [canon] at hc
    · rw [canon_cons he] at hc
      exact absurd (ih hc hv) he

theorem limbs_val {l : List Nat} (hd : Dig l) (hc : canon l = true) : limbs (val l) = l := by
  induction l with
  | nil => exact limbs_zero
  | cons x xs ih =>
    have hne : val (x :: xs) ≠ 0 := fun h => by have := val_eq_zero hc h; cases this
    have hx := hd.head
    rw [limbs_pos hne, val_cons]
    have h1 : (x + B64 * val xs) % B64 = x := by rw [Nat.add_mul_mod_self_left]; exact Nat.mod_eq_of_lt hx
    have h2 : (x + B64 * val xs) / B64 = val xs := by
      rw [Nat.add_mul_div_left _ _ B64_pos, Nat.div_eq_of_lt hx]; omega
    rw [h1, h2]
    by_cases he : xs = []
    · subst he; rw [val_nil, limbs_zero]
    · rw [canon_cons he] at hc
      rw [ih hd.tail hc]

theorem limbs_canon (n : Nat) : canon (limbs n) = true := by
  induction n using Nat.strongRecOn with
  | _ n ih =>
    by_cases h : n = 0
    · subst h; rw [limbs_zero]; rfl
    · rw [limbs_pos h]
      by_cases he : limbs (n / B64) = []
      · have hz : n / B64 = 0 := by
          have := val_limbs (n / B64); rw [he] at this; exact this.symm
        have hlt : n < B64 := by
          rcases Nat.lt_or_ge n B64 with h1 | h1
          · exact h1
          · have := Nat.div_pos h1 B64_pos; omega
        rw [he, Nat.mod_eq_of_lt hlt]
        simp [canon, h]
      · rw [canon_cons he]
        exact ih _ (Nat.div_lt_self (by omega) B64_gt)

theorem limbs_inj {a b : Nat} (h : limbs a = limbs b) : a = b := by
  rw [← val_limbs a, h, val_limbs]

theorem val_lt {l : List Nat} (hd : Dig l) : val l < B64 ^ l.length := by
  induction l with
  | nil => simp [val_nil]
  | cons x xs ih =>
    rw [val_cons, List.length_cons, Nat.pow_succ, Nat.mul_comm (B64 ^ xs.length)]
    have h1 := ih hd.tail
    have h2 := hd.head
    calc x + B64 * val xs < B64 + B64 * val xs := by omega
      _ = B64 * (val xs + 1) := by rw [Nat.mul_add, Nat.mul_one]; omega
      _ ≤ B64 * B64 ^ xs.length := Nat.mul_le_mul_left _ h1

theorem val_snoc (l : List Nat) (x : Nat) : val (l ++ [x]) = val l + B64 ^ l.length * x := by
  induction l with
  | nil => simp [val_cons, val_nil]
  | cons y ys ih =>
    rw [List.cons_append, val_cons, ih, val_cons, List.length_cons, Nat.pow_succ, Nat.mul_add]
    rw [← Nat.mul_assoc, Nat.mul_comm B64 (B64 ^ ys.length)]
    omega

theorem val_take_succ (l : List Nat) (k : Nat) : val (l.take (k + 1)) = val (l.take k) + B64 ^ k * l[k]?.getD 0 := by
  by_cases hk : k < l.length
  · rw [List.take_succ_eq_append_getElem hk, val_snoc, List.length_take, Nat.min_eq_left (by omega)]
    simp [hk]
  · rw [List.take_of_length_le (by omega), List.take_of_length_le (by omega), List.getElem?_eq_none (by omega)]
    simp

theorem limbs_length_le {n k : Nat} (h : n < B64 ^ k) : (limbs n).length ≤ k := by
  induction k generalizing n with
  | zero => simp at h; subst h; rw [limbs_zero]; simp
  | succ k ih =>
    by_cases hn : n = 0
    · subst hn; rw [limbs_zero]; simp
    · rw [limbs_pos hn, List.length_cons]
      have : n / B64 < B64 ^ k := by
        rw [Nat.div_lt_iff_lt_mul B64_pos, ← Nat.pow_succ]; exact h
      have := ih this
      omega

theorem lt_of_limbs_length {n k : Nat} (h : (limbs n).length ≤ k) : n < B64 ^ k := by
  have h1 := val_lt (limbs_dig n)
  rw [val_limbs] at h1
  exact Nat.lt_of_lt_of_le h1 (Nat.pow_le_pow_right B64_pos h)

theorem limbs_lt_iff {n k : Nat} : (limbs n).length ≤ k ↔ n < B64 ^ k := ⟨lt_of_limbs_length, limbs_length_le⟩

theorem limbs_length_add {a b k : Nat} (ha : (limbs a).length ≤ k) (hb : (limbs b).length ≤ k) : (limbs (a + b)).length ≤ k + 1 := by
  rw [limbs_lt_iff] at *
  rw [Nat.pow_succ]
  have := B64_gt
  calc a + b < B64 ^ k + B64 ^ k := by omega
    _ = B64 ^ k * 2 := by omega
    _ ≤ B64 ^ k * B64 := Nat.mul_le_mul_left _ (by omega)

theorem limbs_length_mul {a b k m : Nat} (ha : (limbs a).length ≤ k) (hb : (limbs b).length ≤ m) : (limbs (a * b)).length ≤ k + m := by
  rw [limbs_lt_iff] at *
  rw [Nat.pow_add]
  exact Nat.mul_lt_mul_of_lt_of_le ha (Nat.le_of_lt hb) (Nat.pow_pos B64_pos)

theorem limbs_ne_nil {n : Nat} (h : n ≠ 0) : 0 < (limbs n).length := by rw [limbs_pos h]; simp
/-- Digits whose number is great enough for their length are the number's own. -/
theorem eq_limbs {l : List Nat} (hd : Dig l) (h : 0 < l.length → B64 ^ (l.length - 1) ≤ val l) : l = limbs (val l) := by
  refine (limbs_val hd ?_).symm
  rcases Nat.eq_zero_or_pos l.length with h0 | h0
  · rw [List.eq_nil_of_length_eq_zero h0]; rfl
  · have hl : l ≠ [] := fun e => by rw [e] at h0; simp at h0
    have e := List.dropLast_concat_getLast hl
    have h1 := h h0
    have hlen : l.dropLast.length = l.length - 1 := List.length_dropLast
    have hv : val l.dropLast < B64 ^ (l.length - 1) := by
      rw [← hlen]; exact val_lt fun x hx => hd x (List.dropLast_subset _ hx)
    have hne : l.getLast hl ≠ 0 := fun hz => by
      have h2 : val l = val l.dropLast := by
        have h3 := val_snoc l.dropLast (l.getLast hl)
        rw [e, hz, Nat.mul_zero, Nat.add_zero] at h3
        exact h3
      omega
    unfold canon
    rw [List.getLastD_eq_getLast?, List.getLast?_eq_some_getLast hl]
    simpa using hne

/-- The lower and the upper half of a sum with a carry. -/
def sumLo (x y c : Nat) : Nat := (x + y + c) % B64
def sumHi (x y c : Nat) : Nat := (x + y + c) / B64
theorem sum_split (x y c : Nat) : sumLo x y c + B64 * sumHi x y c = x + y + c := Nat.mod_add_div _ _
theorem sumLo_lt (x y c : Nat) : sumLo x y c < B64 := Nat.mod_lt _ B64_pos
theorem sumHi_le {x y c : Nat} (hx : x < B64) (hy : y < B64) (hc : c ≤ 1) : sumHi x y c ≤ 1 := by
  unfold sumHi
  have : (x + y + c) / B64 < 2 := (Nat.div_lt_iff_lt_mul B64_pos).2 (by omega)
  omega
/-- The lower half of a difference with a borrow, and the borrow. -/
def subLo (x y b : Nat) : Nat := (x + B64 - y - b) % B64
def subHi (x y b : Nat) : Nat := if x < y + b then 1 else 0
theorem subLo_lt (x y b : Nat) : subLo x y b < B64 := Nat.mod_lt _ B64_pos
theorem subHi_le (x y b : Nat) : subHi x y b ≤ 1 := by unfold subHi; split <;> omega
theorem sub_split {x y b : Nat} (hx : x < B64) (hy : y < B64) (hb : b ≤ 1) : subLo x y b + y + b = x + B64 * subHi x y b := by
  unfold subLo subHi
  split
  · have h1 : x + B64 - y - b < B64 := by omega
    rw [Nat.mod_eq_of_lt h1]; omega
  · have h1 : x + B64 - y - b = (x - y - b) + B64 := by omega
    rw [h1, Nat.add_mod_right, Nat.mod_eq_of_lt (by omega)]; omega

theorem limbs_length_mono {a b : Nat} (h : a ≤ b) : (limbs a).length ≤ (limbs b).length :=
  limbs_length_le (Nat.lt_of_le_of_lt h (lt_of_limbs_length (Nat.le_refl _)))

end Go.Proofs.Ytckdbcngnghhiaa

/-
  Words for memory: a slice value that reads as a list of digits; a slice value that stands for a natural number. Lemmas on what keeps them.
-/
namespace Go.Proofs.Ytckdbcngnghhiaa
open Go.RowKit

/-- The slice value '.slice A n c' holds the digits l, in a block below B. -/
def Lim (B : Nat) (w : World) (A : Option Addr) (n c : Nat) (l : List Nat) : Prop :=
  n = l.length ∧ n ≤ c ∧ Dig l ∧ (0 < n → ∃ b off, A = some ⟨b, off, none⟩ ∧ b < B ∧ ∀ j, j < n → w.cell? ⟨b, off + j, none⟩ = some (.int .u64 ((l[j]?.getD 0 : Nat) : Int)))

/-- A value that holds the digits l. -/
def IsL (w : World) (v : Value) (l : List Nat) : Prop := ∃ A n c, v = .slice A n c ∧ Lim w.heap.size w A n c l
/-- A value that stands for the number x. -/
def IsN (w : World) (v : Value) (x : Nat) : Prop := IsL w v (limbs x)

section
variable {w w' : World} {B B' : Nat} {A : Option Addr} {n c : Nat} {l : List Nat} {v : Value}
theorem Lim.below (h : Lim B w A n c l) (hb : Below B w w') : Lim B w' A n c l :=
  ⟨h.1, h.2.1, h.2.2.1, fun hn => by
    obtain ⟨b, off, e, hlt, hc⟩ := h.2.2.2 hn
    exact ⟨b, off, e, hlt, fun j hj => (hb.cell (p := ⟨b, off + j, none⟩) hlt).trans (hc j hj)⟩⟩
theorem Lim.more (h : Lim B w A n c l) (hB : B ≤ B') : Lim B' w A n c l :=
  ⟨h.1, h.2.1, h.2.2.1, fun hn => by
    obtain ⟨b, off, e, hlt, hc⟩ := h.2.2.2 hn
    exact ⟨b, off, e, Nat.lt_of_lt_of_le hlt hB, hc⟩⟩
theorem Lim.drew (h : Lim B w A n c l) : Lim B w.drew A n c l := h
theorem IsL.below (h : IsL w v l) (hb : Below w.heap.size w w') : IsL w' v l := by
  obtain ⟨A, n, c, e, hl⟩ := h
  exact ⟨A, n, c, e, (hl.below hb).more hb.size⟩
theorem IsN.below {x : Nat} (h : IsN w v x) (hb : Below w.heap.size w w') : IsN w' v x := IsL.below h hb
theorem Lim.nil (B : Nat) (w : World) (A : Option Addr) (c : Nat) : Lim B w A 0 c [] := ⟨rfl, Nat.zero_le _, Dig.nil, fun h => absurd h (by omega)⟩
theorem IsN.zero (w : World) : IsN w (.slice none 0 0) 0 := ⟨none, 0, 0, rfl, by rw [limbs_zero]; exact Lim.nil _ _ _ _⟩
end

end Go.Proofs.Ytckdbcngnghhiaa

/-
  The contract of nat.limb.
-/
namespace Go.Proofs.Ytckdbcngnghhiaa
set_option maxRecDepth 100000
open Go.RowKit

set_option maxHeartbeats 400000 in
theorem limb_any (B : Nat) (A : Option Addr) (n c k : Nat) (l : List Nat) (w : World) (h : Lim B w A n c l) (hn : n ≤ 9223372036854775807) (hk : k ≤ 9223372036854775807) :
    Calls Try.prog 93 #[.slice A n c, .int .i64 k] w fun e w' => e = .returned (.int .u64 ((l[k]?.getD 0 : Nat) : Int)) ∧ w = w' := by
  obtain ⟨hl, hcap, hdg, hc⟩ := h
  by_cases hlt : k < n
  · obtain ⟨b, off, rfl, hb, hcell⟩ := hc (by omega)
    have h1 := hcell k hlt
    clear hcell hc hdg
    have HL := Lib.hid hl
    clear hl
    go_enter Try.func93, Try.ntmps93
    go_wp2
    go_ret
    exact ⟨rfl, rfl⟩
  · have hz : l[k]?.getD 0 = 0 := by rw [List.getElem?_eq_none (by omega)]; rfl
    have HZ := Lib.hid hz
    clear hc hdg hl hz
    go_enter Try.func93, Try.ntmps93
    go_wp2
    go_ret
    exact ⟨by rw [HZ.out]; rfl, rfl⟩

end Go.Proofs.Ytckdbcngnghhiaa

/-
  The contracts of nat.pairs and of the iterator that it hands back.
-/
namespace Go.Proofs.Ytckdbcngnghhiaa
open Go.RowKit Go.Shelf

attribute [local go_sem] Oper.semAt_some
/-- A pair of digits. -/
abbrev Pair := { x : Nat × Nat // x.1 < B64 ∧ x.2 < B64 }
/-- The pair at place j; noughts behind the end. -/
def pairAt {la lb : List Nat} (ha : Dig la) (hb : Dig lb) (j : Nat) : Pair := ⟨(la[j]?.getD 0, lb[j]?.getD 0), ha.get j, hb.get j⟩
/-- What has come when k rounds are over. -/
def upto {la lb : List Nat} (ha : Dig la) (hb : Dig lb) (k : Nat) : List Pair := (List.range k).map (pairAt ha hb)
section
variable {la lb : List Nat} (ha : Dig la) (hb : Dig lb)
end

/-- What a round keeps: all that lies below n, and the two boxes of the iterator. -/
def Keep (n₀ Ba Bb : Nat) (W W' : World) : Prop := Below n₀ W W' ∧ W'.heap[Ba]? = W.heap[Ba]? ∧ W'.heap[Bb]? = W.heap[Bb]?
theorem Keep.refl (n₀ Ba Bb : Nat) (W : World) : Keep n₀ Ba Bb W W := ⟨Below.refl _ _, rfl, rfl⟩
theorem Keep.trans {n₀ Ba Bb : Nat} {W W' W'' : World} (h : Keep n₀ Ba Bb W W') (k : Keep n₀ Ba Bb W' W'') : Keep n₀ Ba Bb W W'' := ⟨h.1.trans k.1, k.2.1.trans h.2.1, k.2.2.trans h.2.2⟩

/-- What is known behind a call of yield that has answered bv. -/
def PostY (J Jx : List Pair → World → Prop) (pre : List Pair) (n₀ Ba Bb : Nat) (W : World) (bv : Bool) (W' : World) : Prop :=
  (bv = true ∧ J pre W' ∧ Keep n₀ Ba Bb W W') ∨ (bv = false ∧ Jx pre W')

end Go.Proofs.Ytckdbcngnghhiaa

/-
  Sums digit by digit: what nat.Add reckons, and that it is the sum.
-/
namespace Go.Proofs.Ytckdbcngnghhiaa

def addStep (s : List Nat × Nat) (x : Pair) : List Nat × Nat := (s.1 ++ [sumLo x.1.1 x.1.2 s.2], sumHi x.1.1 x.1.2 s.2)
def addS (l : List Pair) : List Nat × Nat := l.foldl addStep ([], 0)
/-- The digits so far, and the carry. -/
def addD (l : List Pair) : List Nat := (addS l).1
def addC (l : List Pair) : Nat := (addS l).2
end Go.Proofs.Ytckdbcngnghhiaa

/-
  What the library's Add64 and Sub64 answer, as equations for a walk.
-/
namespace Go.Proofs.Ytckdbcngnghhiaa
set_option maxRecDepth 100000
open Go.RowKit

def tup64 (a b : Nat) : Value := .tuple #[.int .u64 (a : Int), .int .u64 (b : Int)]

theorem B64_m64 : Extern.MathBitsCarry.m64 = B64 := by unfold Extern.MathBitsCarry.m64 B64; omega

theorem add64_run (x y c : Nat) (hc : c ≤ 1) (w : World) :
    (callFunc 88 #[.int .u64 (x : Int), .int .u64 (y : Int), .int .u64 (c : Int)]).run Try.prog w = .ok (.value (.tuple #[.int .u64 (sumLo x y c : Int), .int .u64 (sumHi x y c : Int)])) w := by
  rw [run_callFunc_extern (e := add64Entry) Try.func88 (by kernel_rfl) (by kernel_rfl) (by kernel_rfl) (by kernel_rfl)]
  have key : ∀ k : Nat, k ≤ 1 → (add64Entry #[.int .u64 (x : Int), .int .u64 (y : Int), .int .u64 (k : Int)]).run Try.prog w =
      .ok (Extern.MathBitsCarry.pair ((x + y + k) % Extern.MathBitsCarry.m64) ((x + y + k) / Extern.MathBitsCarry.m64)) w := by
    intro k hk
    have : k = 0 ∨ k = 1 := by omega
    rcases this with rfl | rfl <;> rfl
  rw [key c hc, B64_m64]
  rfl

def sub64Entry : Array Value → Sem Value := fun args => do
  let (x, y, b) ← Extern.MathBitsCarry.three "Sub64" args
  pure (Extern.MathBitsCarry.pair ((x + Extern.MathBitsCarry.m64 - y - b) % Extern.MathBitsCarry.m64) (if x < y + b then 1 else 0))

end Go.Proofs.Ytckdbcngnghhiaa

/-
  The contract of nat.trim.
-/
namespace Go.Proofs.Ytckdbcngnghhiaa
open Go.RowKit

theorem val_take_zero {l : List Nat} {k : Nat} (hz : l[k]?.getD 0 = 0) (h : val (l.take (k + 1)) = val l) : val (l.take k) = val l := by
  rw [val_take_succ, hz] at h
  simpa using h

theorem take_limbs {l : List Nat} (hd : Dig l) {k : Nat} (hk : k ≤ l.length) (hv : val (l.take k) = val l) (h : 0 < k → l[k - 1]?.getD 0 ≠ 0) : l.take k = limbs (val l) := by
  rw [← hv]
  refine eq_limbs (hd.take k) fun h0 => ?_
  rw [List.length_take, Nat.min_eq_left hk] at h0 ⊢
  obtain ⟨j, rfl⟩ : ∃ j, k = j + 1 := ⟨k - 1, by omega⟩
  rw [val_take_succ, Nat.add_sub_cancel]
  have h1 := h h0
  rw [Nat.add_sub_cancel] at h1
  have h2 : B64 ^ j * 1 ≤ B64 ^ j * l[j]?.getD 0 := Nat.mul_le_mul_left _ (by omega)
  omega

end Go.Proofs.Ytckdbcngnghhiaa

/-
  What nat.Add and nat.Sub share: the greater of two lengths; a row of digits of the call's own.
-/
namespace Go.Proofs.Ytckdbcngnghhiaa
set_option maxRecDepth 100000
open Go.RowKit Go.Shelf

attribute [local go_sem] Oper.semAt_some

/-- The greater of two, behind a name. -/
def mx (a b : Nat) : Nat := max a b
theorem mx_run {P : Program} (w : World) (ts : Array TypeId) (t : TypeId) (x y : Nat) : (Builtin.max_ ts t #[.int .i64 (x : Int), .int .i64 (y : Int)]).run P w = .ok (.int .i64 (mx x y : Int)) w := by
  rw [run_max_int2]
  congr 2
  unfold mx
  split <;> omega
theorem info24 : (Try.prog.info? 84).map (fun i => (i.zero, i.size, i.bytes)) = some (some (.int .u64 0), 1, 8) := by kernel_rfl

/-- A digit as a value. -/
def encD (x : Nat) : Value := .int .u64 (x : Int)

/-- An owned row of digits reads as these digits. -/
theorem Lim.of_own {w : World} {base : Nat} {e : TypeId} {A : Option Addr} {n c : Nat} {l : List Nat} (h : w.ownsRow base e 1 (.slice A n c) n (l.map encD)) (hd : Dig l) : Lim w.heap.size w A n c l := by
  have hl : n = l.length := by have := h.1; simp at this; omega
  refine ⟨hl, ?_, hd, fun hn => ?_⟩
  · rcases h.2 with ⟨e1, h0⟩ | ⟨g, cap, cur, e1, _, _, hnc, _⟩
    · omega
    · injection e1 with _ _ e2; omega
  · have hlt := h.lt
    rcases h.2 with ⟨e1, h0⟩ | ⟨g, cap, cur, e1, _, _, hnc, _⟩
    · omega
    · injection e1 with e2 _ e3
      subst e2; subst e3
      refine ⟨g, 0, rfl, (hlt g rfl).2, fun j hj => ?_⟩
      have := h.cellAt j (by omega)
      rw [Nat.zero_add, this, List.getElem?_map, List.getElem?_eq_getElem (by omega)]
      simp [encD]

end Go.Proofs.Ytckdbcngnghhiaa

/-
  The contract of nat.Add.
-/
namespace Go.Proofs.Ytckdbcngnghhiaa
open Go.RowKit Go.Shelf

attribute [local go_sem] Oper.semAt_some
attribute [local go_sem ↓] mx_run
end Go.Proofs.Ytckdbcngnghhiaa

/-
  The contract of nat.Sub.
-/
namespace Go.Proofs.Ytckdbcngnghhiaa
open Go.RowKit Go.Shelf

attribute [local go_sem] Oper.semAt_some
attribute [local go_sem ↓] mx_run

def subStep (s : List Nat × Nat) (x : Pair) : List Nat × Nat := (s.1 ++ [subLo x.1.1 x.1.2 s.2], subHi x.1.1 x.1.2 s.2)
def subS (l : List Pair) : List Nat × Nat := l.foldl subStep ([], 0)
/-- The digits so far, and the borrow. -/
def subD (l : List Pair) : List Nat := (subS l).1
def subC (l : List Pair) : Nat := (subS l).2
/-- What nat.Sub answers: the difference and no error; or nothing and ErrRange. -/
def SubPost (w : World) (x y : Nat) (v : Value) (r : Int) : Prop := (y ≤ x ∧ r = 0 ∧ IsN w v (x - y)) ∨ (x < y ∧ r = 2 ∧ v = .slice none 0 0)

end Go.Proofs.Ytckdbcngnghhiaa

/-
  Plain arithmetic: products of digits.
-/
namespace Go.Proofs.Ytckdbcngnghhiaa

/-- The two halves of a product of digits. -/
def mulLo (x y : Nat) : Nat := x * y % B64
def mulHi (x y : Nat) : Nat := x * y / B64
theorem mulLo_lt (x y : Nat) : mulLo x y < B64 := Nat.mod_lt _ B64_pos
/-- A product of digits, a digit and a carry, in two halves. -/
def macLo (x y q c : Nat) : Nat := (x * y + q + c) % B64
def macHi (x y q c : Nat) : Nat := (x * y + q + c) / B64
theorem macLo_lt (x y q c : Nat) : macLo x y q c < B64 := Nat.mod_lt _ B64_pos
theorem mac_split (x y q c : Nat) : macLo x y q c + B64 * macHi x y q c = x * y + q + c := Nat.mod_add_div _ _
theorem macHi_lt {x y q c : Nat} (hx : x < B64) (hy : y < B64) (hq : q < B64) (hc : c < B64) : macHi x y q c < B64 := by
  unfold macHi
  rw [Nat.div_lt_iff_lt_mul B64_pos]
  have h1 : x * y ≤ (B64 - 1) * (B64 - 1) := Nat.mul_le_mul (by omega) (by omega)
  have h2 : (B64 - 1) * (B64 - 1) + (B64 - 1) + (B64 - 1) < B64 * B64 := by unfold B64; omega
  omega
theorem val_set {l : List Nat} {k : Nat} (hk : k < l.length) (d : Nat) : val (l.set k d) + B64 ^ k * l[k]?.getD 0 = val l + B64 ^ k * d := by
  induction l generalizing k with
  | nil => simp at hk
  | cons x xs ih =>
    cases k with
    | zero => simp [val_cons]; omega
    | succ k =>
      have h := ih (k := k) (by simpa using hk)
      rw [List.set_cons_succ, val_cons, val_cons, List.getElem?_cons_succ, Nat.pow_succ, Nat.mul_comm (B64 ^ k) B64, Nat.mul_assoc, Nat.mul_assoc]
      have h2 : B64 * (val (xs.set k d) + B64 ^ k * xs[k]?.getD 0) = B64 * (val xs + B64 ^ k * d) := by rw [h]
      rw [Nat.mul_add, Nat.mul_add] at h2
      omega

theorem Dig.set {l : List Nat} (h : Dig l) (k : Nat) {d : Nat} (hd : d < B64) : Dig (l.set k d) := fun x hx => by
  rcases List.mem_or_eq_of_mem_set hx with h1 | h1
  · exact h x h1
  · rw [h1]; exact hd

end Go.Proofs.Ytckdbcngnghhiaa

/-
  The contract of math/bits.Mul64.
-/
namespace Go.Proofs.Ytckdbcngnghhiaa
set_option maxRecDepth 100000
open Go.RowKit

theorem mul_split (M a b c d : Nat) : (M * a + b) * (M * c + d) = M * M * (a * c) + M * (a * d) + M * (b * c) + b * d := by
  rw [Nat.add_mul, Nat.mul_add, Nat.mul_add]
  have e1 : M * a * (M * c) = M * M * (a * c) := by ac_rfl
  have e2 : M * a * d = M * (a * d) := by ac_rfl
  have e3 : b * (M * c) = M * (b * c) := by ac_rfl
  rw [e1, e2, e3]
  omega

theorem u64_and32 (n : Int) : bits .and .u64 n 4294967295 = n % 4294967296 := by
  have h1 : (BitVec.ofInt 64 4294967295).toNat = 2 ^ 32 - 1 := by decide
  have key : (BitVec.ofInt 64 n &&& BitVec.ofInt 64 4294967295).toNat = (n % ((2 ^ 64 : Nat) : Int)).toNat % 2 ^ 32 := by
    rw [BitVec.toNat_and, BitVec.toNat_ofInt, h1, Nat.and_two_pow_sub_one_eq_mod]
  show IntKind.u64.wrap ((BitVec.ofInt 64 n &&& BitVec.ofInt 64 4294967295).toNat : Nat) = n % 4294967296
  rw [key, IntKind.wrap_u64]
  omega

theorem part_le {a b : Nat} (ha : a < 4294967296) (hb : b < 4294967296) : a * b ≤ 18446744065119617025 := by
  have : a * b ≤ 4294967295 * 4294967295 := Nat.mul_le_mul (by omega) (by omega)
  omega

/-- The upper half of a product, out of four products of halves. -/
theorem mul_hi (p q r s : Nat) (hp : p ≤ 18446744065119617025) (hq : q ≤ 18446744065119617025) (hr : r ≤ 18446744065119617025) (hs : s ≤ 18446744065119617025) :
    (((p : Int) % 18446744073709551616 + ((q : Int) % 18446744073709551616 + (s : Int) % 18446744073709551616 / 4294967296) % 18446744073709551616 / 4294967296) % 18446744073709551616 +
      (((q : Int) % 18446744073709551616 + (s : Int) % 18446744073709551616 / 4294967296) % 18446744073709551616 % 4294967296 + (r : Int) % 18446744073709551616) % 18446744073709551616 / 4294967296) % 18446744073709551616 =
    ((18446744073709551616 * p + 4294967296 * q + 4294967296 * r + s) / 18446744073709551616 : Nat) := by
  omega

theorem ret_two {a b a' b' : Int} (h : a = a') (k : b = b') : Ending.returned (.tuple #[.int .u64 a, .int .u64 b]) = .returned (.tuple #[.int .u64 a', .int .u64 b']) := by rw [h, k]

theorem mul64_hi (x y : Nat) (hx : x < B64) (hy : y < B64) :
    IntKind.u64.wrap (IntKind.u64.wrap (IntKind.u64.wrap ((x : Int) / 4294967296 * ((y : Int) / 4294967296)) + IntKind.u64.wrap (IntKind.u64.wrap ((x : Int) / 4294967296 * bits .and .u64 (y : Int) 4294967295) + IntKind.u64.wrap (bits .and .u64 (x : Int) 4294967295 * bits .and .u64 (y : Int) 4294967295) / 4294967296) / 4294967296) +
      IntKind.u64.wrap (bits .and .u64 (IntKind.u64.wrap (IntKind.u64.wrap ((x : Int) / 4294967296 * bits .and .u64 (y : Int) 4294967295) + IntKind.u64.wrap (bits .and .u64 (x : Int) 4294967295 * bits .and .u64 (y : Int) 4294967295) / 4294967296)) 4294967295 + IntKind.u64.wrap (bits .and .u64 (x : Int) 4294967295 * ((y : Int) / 4294967296))) / 4294967296) =
    ((x * y / B64 : Nat) : Int) := by
  simp only [u64_and32, IntKind.wrap_u64]
  have hx1 : x / 4294967296 < 4294967296 := by unfold B64 at hx; omega
  have hy1 : y / 4294967296 < 4294967296 := by unfold B64 at hy; omega
  have hx0 : x % 4294967296 < 4294967296 := Nat.mod_lt _ (by omega)
  have hy0 : y % 4294967296 < 4294967296 := Nat.mod_lt _ (by omega)
  have hm := mul_split 4294967296 (x / 4294967296) (x % 4294967296) (y / 4294967296) (y % 4294967296)
  rw [Nat.div_add_mod, Nat.div_add_mod] at hm
  have h := mul_hi _ _ _ _ (part_le hx1 hy1) (part_le hx1 hy0) (part_le hx0 hy1) (part_le hx0 hy0)
  have e1 : ((x : Int) / 4294967296 * ((y : Int) / 4294967296)) = ((x / 4294967296 * (y / 4294967296) : Nat) : Int) := by simp
  have e2 : ((x : Int) / 4294967296 * ((y : Int) % 4294967296)) = ((x / 4294967296 * (y % 4294967296) : Nat) : Int) := by simp
  have e3 : ((x : Int) % 4294967296 * ((y : Int) / 4294967296)) = ((x % 4294967296 * (y / 4294967296) : Nat) : Int) := by simp
  have e4 : ((x : Int) % 4294967296 * ((y : Int) % 4294967296)) = ((x % 4294967296 * (y % 4294967296) : Nat) : Int) := by simp
  rw [e1, e2, e3, e4, h, hm]
  rfl

theorem mul64_lo (x y : Nat) : IntKind.u64.wrap ((x : Int) * (y : Int)) = ((x * y % B64 : Nat) : Int) := by
  rw [IntKind.wrap_u64, show (18446744073709551616 : Int) = (B64 : Int) from rfl]
  simp

set_option maxHeartbeats 1000000 in
theorem mul64_any (x y : Nat) (w : World) (hx : x < B64) (hy : y < B64) :
    Calls Try.prog 87 #[.int .u64 (x : Int), .int .u64 (y : Int)] w fun e w' => e = .returned (.tuple #[.int .u64 (mulHi x y : Int), .int .u64 (mulLo x y : Int)]) ∧ w = w' := by
  go_enter Try.func87, Try.ntmps87
  go_wp2
  go_ret2
  exact ⟨ret_two (mul64_hi x y hx hy) (mul64_lo x y), rfl⟩

end Go.Proofs.Ytckdbcngnghhiaa

/-
  The contract of nat.addTimes: a multiple of one number is added to a row of digits of the caller's, from a place on.
-/
namespace Go.Proofs.Ytckdbcngnghhiaa
set_option maxRecDepth 100000
open Go.RowKit

theorem add64_run0 (x y : Nat) (w : World) :
    (callFunc 88 #[.int .u64 (x : Int), .int .u64 (y : Int), .int .u64 0]).run Try.prog w = .ok (.value (.tuple #[.int .u64 (sumLo x y 0 : Int), .int .u64 (sumHi x y 0 : Int)])) w := add64_run x y 0 (by omega) w

/-- A slice of digits is kept where only one block, which lies not below B, is written. -/
theorem Lim.grown {B : Nat} {w w' : World} {A : Option Addr} {n c : Nat} {l : List Nat} {g : Nat} (h : Lim B w A n c l) (hg : w.grownBy w' (some g)) (hB : B ≤ g) (hBw : B ≤ w.heap.size) : Lim B w' A n c l :=
  ⟨h.1, h.2.1, h.2.2.1, fun hn => by
    obtain ⟨b, off, e, hlt, hc⟩ := h.2.2.2 hn
    exact ⟨b, off, e, hlt, fun j hj => (World.cell?_of_block (a := ⟨b, off + j, none⟩) (hg.block b (by omega) (by simp; omega))).trans (hc j hj)⟩⟩

/-- What has been reckoned when k digits are done: the row Q and the carry c. -/
def TimesAt (P Q : List Nat) (i k x : Nat) (l : List Nat) (c : Nat) : Prop :=
  Dig Q ∧ Q.length = P.length ∧ c < B64 ∧ (∀ j, i + k ≤ j → Q[j]?.getD 0 = P[j]?.getD 0) ∧ val Q + B64 ^ (i + k) * c = val P + B64 ^ i * (x * val (l.take k))

theorem TimesAt.start {P : List Nat} (h : Dig P) (i x : Nat) (l : List Nat) : TimesAt P P i 0 x l 0 :=
  ⟨h, rfl, B64_pos, fun _ _ => rfl, by simp [val_nil]⟩

theorem TimesAt.step {P Q l : List Nat} {i k x c : Nat} (h : TimesAt P Q i k x l c) (hx : x < B64) (hl : Dig l) (hk : i + k < P.length) :
    TimesAt P (Q.set (i + k) (macLo x (l[k]?.getD 0) (Q[i + k]?.getD 0) c)) i (k + 1) x l (macHi x (l[k]?.getD 0) (Q[i + k]?.getD 0) c) := by
  obtain ⟨hd, hlen, hc, hsame, hv⟩ := h
  refine ⟨hd.set _ (macLo_lt _ _ _ _), by rw [List.length_set, hlen], macHi_lt hx (hl.get k) (hd.get _) hc, fun j hj => ?_, ?_⟩
  · rw [List.getElem?_set_ne (by omega)]; exact hsame j (by omega)
  · have hs := val_set (l := Q) (k := i + k) (by omega) (macLo x (l[k]?.getD 0) (Q[i + k]?.getD 0) c)
    have hm := mac_split x (l[k]?.getD 0) (Q[i + k]?.getD 0) c
    rw [val_take_succ, ← Nat.add_assoc, Nat.pow_succ, Nat.mul_assoc]
    generalize macLo x (l[k]?.getD 0) (Q[i + k]?.getD 0) c = lo at *
    generalize macHi x (l[k]?.getD 0) (Q[i + k]?.getD 0) c = hi at *
    generalize Q[i + k]?.getD 0 = q at *
    generalize l[k]?.getD 0 = y at *
    have h1 : B64 ^ (i + k) * lo + B64 ^ (i + k) * (B64 * hi) = B64 ^ (i + k) * (x * y) + B64 ^ (i + k) * q + B64 ^ (i + k) * c := by
      rw [← Nat.mul_add, hm, Nat.mul_add, Nat.mul_add]
    have h2 : B64 ^ i * (x * (val (l.take k) + B64 ^ k * y)) = B64 ^ i * (x * val (l.take k)) + B64 ^ (i + k) * (x * y) := by
      rw [Nat.mul_add, Nat.mul_add, Nat.pow_add]
      have : B64 ^ i * (x * (B64 ^ k * y)) = B64 ^ i * B64 ^ k * (x * y) := by ac_rfl
      rw [this]
    rw [h2]
    omega

theorem TimesAt.done {P Q l : List Nat} {i x c : Nat} (h : TimesAt P Q i l.length x l c) (hk : i + l.length < P.length) (hz : P[i + l.length]?.getD 0 = 0) :
    Dig (Q.set (i + l.length) c) ∧ (Q.set (i + l.length) c).length = P.length ∧ (∀ j, i + l.length < j → (Q.set (i + l.length) c)[j]?.getD 0 = P[j]?.getD 0) ∧ val (Q.set (i + l.length) c) = val P + B64 ^ i * (x * val l) := by
  obtain ⟨hd, hlen, hc, hsame, hv⟩ := h
  refine ⟨hd.set _ hc, by rw [List.length_set, hlen], fun j hj => ?_, ?_⟩
  · rw [List.getElem?_set_ne (by omega)]; exact hsame j (by omega)
  · have hs := val_set (l := Q) (k := i + l.length) (by omega) c
    rw [hsame _ (Nat.le_refl _), hz, Nat.mul_zero, Nat.add_zero] at hs
    rw [List.take_of_length_le (Nat.le_refl _)] at hv
    omega

end Go.Proofs.Ytckdbcngnghhiaa

/-
  The contract of nat.Mul.
-/
namespace Go.Proofs.Ytckdbcngnghhiaa
open Go.RowKit

theorem made_zero (n : Nat) : (madeCells (Value.int .u64 0).cells (n * 1)).toList = (List.replicate n 0).map encD := by
  rw [Nat.mul_one, show (Value.int .u64 0).cells = #[Value.int .u64 0] from rfl, toList_madeCells_one, List.map_replicate]
  rfl

theorem get_zeros (n j : Nat) : (List.replicate n 0)[j]?.getD 0 = 0 := by
  by_cases h : j < n <;> simp [h]

end Go.Proofs.Ytckdbcngnghhiaa

/-
  The contract of math/bits.Len64: how many binary figures a digit has.
-/
namespace Go.Proofs.Ytckdbcngnghhiaa
set_option maxRecDepth 100000
open Go.RowKit

/-- How many binary figures. -/
def blen (x : Nat) : Nat := if x = 0 then 0 else Nat.log2 x + 1
theorem blen_zero : blen 0 = 0 := rfl
theorem blen_le {x k : Nat} (h : x < 2 ^ k) : blen x ≤ k := by
  unfold blen
  split
  · omega
  · have := (Nat.log2_lt (by omega)).2 h; omega
theorem lt_blen (x : Nat) : x < 2 ^ blen x := by
  unfold blen
  split
  · omega
  · exact (Nat.log2_lt (by omega)).1 (Nat.lt_succ_self _)
theorem blen_ge {x : Nat} (h : x ≠ 0) : 2 ^ (blen x - 1) ≤ x := by
  unfold blen
  rw [if_neg h, Nat.add_sub_cancel]
  exact Nat.log2_self_le h
theorem blen_pos {x : Nat} (h : x ≠ 0) : 0 < blen x := by unfold blen; rw [if_neg h]; omega
/-- The two bounds tell it. -/
theorem blen_eq {x k : Nat} (h1 : 2 ^ k ≤ x) (h2 : x < 2 ^ (k + 1)) : blen x = k + 1 := by
  have h3 := blen_le h2
  have h4 := lt_blen x
  have h5 : 2 ^ k < 2 ^ blen x := by omega
  have := (Nat.pow_lt_pow_iff_right (a := 2) (by omega)).1 h5
  omega

theorem bitLen_blen (x : Nat) (hx : x < 18446744073709551616) : Lib.bitLen x = blen x := by
  by_cases h : x = 0
  · subst h; rfl
  · obtain ⟨h1, h2, h3⟩ := Lib.bitLenAux_bounds 64 x (by simpa using hx) h
    obtain ⟨k, hk⟩ : ∃ k, Lib.bitLen x = k + 1 := ⟨Lib.bitLenAux 64 x - 1, by unfold Lib.bitLen; omega⟩
    have h2' : 2 ^ k ≤ x := by have := h2; rw [show Lib.bitLenAux 64 x = k + 1 from hk] at this; simpa using this
    have h3' : x < 2 ^ (k + 1) := by have := h3; rw [show Lib.bitLenAux 64 x = k + 1 from hk] at this; exact this
    rw [hk, blen_eq h2' h3']

/-- One way through the table: k figures are cut off. -/
theorem len_way (x q : Int) (k D : Nat) (hx : x ≤ 18446744073709551615) (hD : D = 2 ^ k) (hq : q.toNat = x.toNat / D) (hk : k = 0 ∨ D ≤ x.toNat) (h : q.toNat < 256) (hk2 : k ≤ 56) (hlt : q.toNat < Lib.len8tab.size) :
    wrap64 ((k : Int) + wrap64 ((Lib.len8tab[q.toNat]'hlt).toNat : Int)) = (blen x.toNat : Int) := by
  have e1 : ((Lib.len8tab[q.toNat]'hlt).toNat : Int) = Lib.len8 (q.toNat : Int) := by
    unfold Lib.len8
    rw [Int.toNat_natCast, getElem?_pos Lib.len8tab q.toNat hlt]
    rfl
  have hb := Lib.bitLen_le8' (q.toNat : Int) (by omega) (by omega)
  rw [e1, Lib.len8_of _ (by omega) (by omega)]
  rw [Int.toNat_natCast] at hb ⊢
  have e2 : k + Lib.bitLen q.toNat = blen x.toNat := by
    rw [← bitLen_blen x.toNat (by omega)]
    rcases hk with rfl | hk
    · subst hD; rw [hq]; simp
    · rw [Lib.bitLen_shift k x.toNat (by rw [← hD]; exact hk) (by simp; omega), hq, hD]
  rw [← e2, IntWalk.wrap64_in ((Lib.bitLen q.toNat : Nat) : Int) ⟨by omega, by omega⟩, IntWalk.wrap64_in _ ⟨by omega, by omega⟩]
  omega

set_option maxHeartbeats 4000000 in
theorem len64_int (x : Int) (w : World) (h0 : 0 ≤ x) (h1 : x ≤ 18446744073709551615) :
    Calls Try.prog 91 #[.int .u64 x] w fun e w' => e = .returned (.int .i64 (blen x.toNat : Int)) ∧ w = w' := by
  have hs := Lib.len8tab_size
  go_enter Try.func91, Try.ntmps91
  go_wp2
  all_goals (go_ret; refine ⟨congrArg Ending.returned (congrArg (Value.int IntKind.i64) ?_), rfl⟩)
  all_goals first
    | exact len_way x _ 56 72057594037927936 h1 rfl (by omega) (.inr (by omega)) (by omega) (by omega) _
    | exact len_way x _ 48 281474976710656 h1 rfl (by omega) (.inr (by omega)) (by omega) (by omega) _
    | exact len_way x _ 40 1099511627776 h1 rfl (by omega) (.inr (by omega)) (by omega) (by omega) _
    | exact len_way x _ 32 4294967296 h1 rfl (by omega) (.inr (by omega)) (by omega) (by omega) _
    | exact len_way x _ 24 16777216 h1 rfl (by omega) (.inr (by omega)) (by omega) (by omega) _
    | exact len_way x _ 16 65536 h1 rfl (by omega) (.inr (by omega)) (by omega) (by omega) _
    | exact len_way x _ 8 256 h1 rfl (by omega) (.inr (by omega)) (by omega) (by omega) _
    | (have e := len_way x x 0 1 h1 rfl (by omega) (.inl rfl) (by omega) (by omega) (by omega)
       simpa using e)

theorem len64_any (x : Nat) (w : World) (hx : x < B64) :
    Calls Try.prog 91 #[.int .u64 (x : Int)] w fun e w' => e = .returned (.int .i64 (blen x : Int)) ∧ w = w' :=
  len64_int x w (by omega) (by unfold B64 at hx; omega)

end Go.Proofs.Ytckdbcngnghhiaa

/-
  The contracts of the small functions: Right, Few, Of, Small, Bits.
-/
namespace Go.Proofs.Ytckdbcngnghhiaa
set_option maxRecDepth 100000
set_option maxHeartbeats 400000
open Go.RowKit

theorem canon_at {l : List Nat} {j : Nat} (h : l.length = j + 1) : canon l = (l[j]?.getD 0 != 0) := by
  unfold canon
  have hl : l ≠ [] := fun e => by rw [e] at h; simp at h
  rw [List.getLastD_eq_getLast?, List.getLast?_eq_getElem?, h, Nat.add_sub_cancel, List.getElem?_eq_getElem (by omega)]
  rfl

theorem ret_i64 {a b : Int} (h : a = b) : Ending.returned (.int .i64 a) = .returned (.int .i64 b) := by rw [h]
theorem limbs_one {x : Nat} (h : x ≠ 0) (hx : x < B64) : limbs x = [x] := by
  rw [limbs_pos h, Nat.mod_eq_of_lt hx, Nat.div_eq_of_lt hx, limbs_zero]

/-- One digit in a new block. -/
theorem isN_new {x : Nat} (h : x ≠ 0) (hx : x < B64) (w : World) (t : TypeId) : IsN (w.alloc (.cells #[.int .u64 (x : Int)] t)) (.slice (some ⟨w.heap.size, 0, none⟩) 1 1) x := by
  refine ⟨_, _, _, rfl, ?_⟩
  rw [limbs_one h hx]
  refine ⟨rfl, Nat.le_refl _, Dig.cons hx Dig.nil, fun _ => ⟨_, _, rfl, by simp, fun j hj => ?_⟩⟩
  obtain rfl : j = 0 := by omega
  exact cell_one_new w _ t 0 _ rfl

theorem of_any (x : Nat) (w : World) (hx : x < B64) :
    Calls Try.prog 86 #[.int .u64 (x : Int)] w fun e w' => ∃ v, e = .returned v ∧ IsN w' v x ∧ Below w.heap.size w w' := by
  by_cases h : x = 0
  · subst h
    go_enter Try.func86, Try.ntmps86
    go_wp2
    go_ret
    exact ⟨_, rfl, IsN.zero _, Below.refl _ _⟩
  · have hb : ((x : Int) == 0) = false := by simp [h]
    go_enter Try.func86, Try.ntmps86
    go_wp2
    go_ret
    exact ⟨_, rfl, isN_new h hx w _, (Below.refl _ w).alloc (Nat.le_refl _) _⟩

theorem isN_small {w : World} {A : Option Addr} {n c x : Nat} (h : Lim w.heap.size w A n c (limbs x)) : (n ≤ 1 ↔ x < B64) := by
  rw [h.1, limbs_lt_iff, Nat.pow_one]

theorem small_any (A : Option Addr) (n c x : Nat) (w : World) (h : Lim w.heap.size w A n c (limbs x)) (hn : n ≤ 9223372036854775807) (hx : x < B64) :
    Calls Try.prog 92 #[.slice A n c] w fun e w' => e = .returned (.tuple #[.int .u64 (x : Int), .bool true]) ∧ w = w' := by
  have h1 := (isN_small h).2 hx
  have hv : ((limbs x)[0]?.getD 0) = x := by
    by_cases h0 : x = 0
    · subst h0; rw [limbs_zero]; rfl
    · rw [limbs_one h0 hx]; rfl
  have HV := Lib.hid hv
  clear hv
  go_enter Try.func92, Try.ntmps92
  go_wp2_with (go_at_call 93; refine (limb_any _ _ _ _ 0 _ _ h hn (by omega)).mono ?_; rintro e w' ⟨rfl, rfl⟩)
  go_ret2
  exact ⟨by rw [HV.out]; rfl, rfl⟩

theorem small_great (A : Option Addr) (n c x : Nat) (w : World) (h : Lim w.heap.size w A n c (limbs x)) (hn : n ≤ 9223372036854775807) (hx : B64 ≤ x) :
    Calls Try.prog 92 #[.slice A n c] w fun e w' => e = .returned (.tuple #[.int .u64 0, .bool false]) ∧ w = w' := by
  have h1 : 1 < n := by
    rcases Nat.lt_or_ge 1 n with h2 | h2
    · exact h2
    · have := (isN_small h).1 h2; omega
  go_enter Try.func92, Try.ntmps92
  go_wp2
  go_ret2
  exact ⟨rfl, rfl⟩

theorem rsmall_any (A : Option Addr) (n c x : Nat) (w : World) (h : Lim w.heap.size w A n c (limbs x)) (hn : n ≤ 9223372036854775807) (hx : x < B64) :
    Calls Try.prog 76 #[.slice A n c] w fun e w' => e = .returned (.tuple #[.int .u64 (x : Int), .bool true]) ∧ w = w' := by
  have h1 := (isN_small h).2 hx
  by_cases h0 : x = 0
  · subst h0
    have hn0 := h.1
    rw [limbs_zero] at hn0
    simp at hn0
    subst hn0
    go_enter Try.func76, Try.ntmps76
    go_wp2
    go_ret2
    exact ⟨rfl, rfl⟩
  · have hn0 := h.1
    rw [limbs_one h0 hx] at hn0 h
    simp at hn0
    subst hn0
    obtain ⟨b, off, rfl, _, hc⟩ := h.2.2.2 (by omega)
    have hc0 := hc 0 (by omega)
    simp at hc0
    clear hc h
    go_enter Try.func76, Try.ntmps76
    go_wp2
    go_ret2
    exact ⟨rfl, rfl⟩

theorem rsmall_great (A : Option Addr) (n c x : Nat) (w : World) (h : Lim w.heap.size w A n c (limbs x)) (hn : n ≤ 9223372036854775807) (hx : B64 ≤ x) :
    Calls Try.prog 76 #[.slice A n c] w fun e w' => e = .returned (.tuple #[.int .u64 0, .bool false]) ∧ w = w' := by
  have h1 : 1 < n := by
    rcases Nat.lt_or_ge 1 n with h2 | h2
    · exact h2
    · have := (isN_small h).1 h2; omega
  have hb : ((n : Int) == 0) = false := by simp; omega
  go_enter Try.func76, Try.ntmps76
  go_wp2
  go_ret2
  exact ⟨rfl, rfl⟩

end Go.Proofs.Ytckdbcngnghhiaa

/-
  The contracts of both Bits: how many binary figures a number has.
-/
namespace Go.Proofs.Ytckdbcngnghhiaa
set_option maxRecDepth 100000
open Go.RowKit

theorem B64_pow (j : Nat) : B64 ^ j = 2 ^ (64 * j) := by
  rw [show B64 = 2 ^ 64 from rfl, Nat.pow_mul]

theorem top_ne {x j : Nat} (h : (limbs x).length = j + 1) : (limbs x)[j]?.getD 0 ≠ 0 := by
  have := limbs_canon x
  rw [canon_at h] at this
  simpa using this

theorem top_split {x j : Nat} (h : (limbs x).length = j + 1) : ∃ r, r < B64 ^ j ∧ x = r + B64 ^ j * (limbs x)[j]?.getD 0 := by
  refine ⟨val ((limbs x).take j), ?_, ?_⟩
  · exact Nat.lt_of_lt_of_le (val_lt ((limbs_dig x).take j)) (Nat.pow_le_pow_right B64_pos (List.length_take_le _ _))
  · have := val_take_succ (limbs x) j
    rw [List.take_of_length_le (by omega), val_limbs] at this
    exact this

theorem blen_limbs {x j : Nat} (h : (limbs x).length = j + 1) : blen x = 64 * j + blen ((limbs x)[j]?.getD 0) := by
  obtain ⟨r, hr, hx⟩ := top_split h
  have hd := top_ne h
  generalize (limbs x)[j]?.getD 0 = d at *
  have h1 := blen_ge hd
  have h2 := lt_blen d
  obtain ⟨k, hk⟩ : ∃ k, blen d = k + 1 := ⟨blen d - 1, by have := blen_pos hd; omega⟩
  rw [hk] at h1 h2 ⊢
  rw [Nat.add_sub_cancel] at h1
  rw [B64_pow] at hr hx
  have e : 64 * j + (k + 1) = (64 * j + k) + 1 := by omega
  rw [e]
  refine blen_eq ?_ ?_
  · rw [Nat.pow_add]
    have : 2 ^ (64 * j) * 2 ^ k ≤ 2 ^ (64 * j) * d := Nat.mul_le_mul_left _ h1
    omega
  · rw [Nat.add_assoc, Nat.pow_add]
    have : 2 ^ (64 * j) * (d + 1) ≤ 2 ^ (64 * j) * 2 ^ (k + 1) := Nat.mul_le_mul_left _ h2
    rw [Nat.mul_add, Nat.mul_one] at this
    omega

theorem blen_digit {d : Nat} (h : d < B64) : blen d ≤ 64 := blen_le (by rw [show (2 : Nat) ^ 64 = B64 from rfl]; exact h)

theorem blen_half {t : Nat} (h : t ≠ 0) : blen t = blen (t / 2) + 1 := by
  by_cases h1 : t / 2 = 0
  · have : t = 1 := by omega
    subst this; rfl
  · obtain ⟨k, hk⟩ : ∃ k, blen (t / 2) = k + 1 := ⟨blen (t / 2) - 1, by have := blen_pos h1; omega⟩
    have h2 := blen_ge h1
    have h3 := lt_blen (t / 2)
    rw [hk] at h2 h3 ⊢
    rw [Nat.add_sub_cancel] at h2
    refine blen_eq ?_ ?_
    · rw [Nat.pow_succ]; omega
    · rw [Nat.pow_succ]; omega

theorem wrap_half {t : Nat} (h : t < B64) : IntKind.u64.wrap ((t : Int) / 2) = ((t / 2 : Nat) : Int) := by
  rw [IntKind.wrap_u64]
  unfold B64 at h
  omega

set_option maxHeartbeats 1000000 in
theorem rbits_any (A : Option Addr) (n c x : Nat) (w : World) (h : Lim w.heap.size w A n c (limbs x)) (hn : n ≤ 4294967296) :
    Calls Try.prog 66 #[.slice A n c] w fun e w' => e = .returned (.int .i64 (blen x : Int)) ∧ w = w' := by
  have hl := h.1
  by_cases h0 : n = 0
  · subst h0
    have e : x = 0 := by
      have := List.eq_nil_of_length_eq_zero hl.symm
      have h2 := val_limbs x
      rw [this] at h2; exact h2.symm
    subst e
    clear hl
    go_enter Try.func66, Try.ntmps66
    go_wp2
    go_ret
    exact ⟨rfl, rfl⟩
  · obtain ⟨j, rfl⟩ : ∃ j, n = j + 1 := ⟨n - 1, by omega⟩
    obtain ⟨b, off, rfl, hb, hcell⟩ := h.2.2.2 (by omega)
    have h1 := hcell j (by omega)
    have hd : (limbs x)[j]?.getD 0 < B64 := (limbs_dig x).get j
    have hbl := blen_limbs hl.symm
    have h64 := blen_digit hd
    have HB := Lib.hid hbl
    clear hcell hl hbl h h0
    generalize (limbs x)[j]?.getD 0 = d at *
    go_enter Try.func66, Try.ntmps66
    go_wp2
    go_loop [3, 4] (fun nv tv => ∃ (k t : Nat), nv = .int .i64 (k : Int) ∧ tv = .int .u64 (t : Int) ∧ k ≤ 64 * j + 64 ∧ t < B64 ∧ Hid (k + blen t = blen x)) (fun _ tv => (intOf tv).toNat)
    case atStart => exact ⟨64 * j, d, by go_num, rfl, by omega, hd, Lib.hid HB.out.symm⟩
    case round =>
      obtain ⟨k, t, rfl, rfl, hk, htB, hv⟩ := hrel
      by_cases ht : t = 0
      · subst ht
        go_wp2
        go_ret
        exact ⟨ret_i64 (by have := hv.out; rw [blen_zero] at this; omega), rfl⟩
      · have htp : 0 < t := by omega
        have hh := blen_half ht
        have hv' := hv.out
        have hkx : k + 1 ≤ 64 * j + 64 := by have := HB.out; omega
        have HH := Lib.hid hh
        have HV := Lib.hid hv'
        clear hh hv' ht
        go_wp2
        go_round
        case rel => exact ⟨k + 1, t / 2, by go_num, congrArg (Value.int .u64) (wrap_half htB), hkx, by omega, Lib.hid (by have := HH.out; have := HV.out; omega)⟩
        case measure => simp only [intOf, wrap_half htB]; omega

end Go.Proofs.Ytckdbcngnghhiaa

/-
  The contracts of cmp.Compare at uint64 and of nat.Cmp.
-/
namespace Go.Proofs.Ytckdbcngnghhiaa
open Go.RowKit Go.Shelf

attribute [local go_sem] Oper.semAt_some

/-- -1, 0 or 1. -/
def cmpN (a b : Nat) : Int := if a < b then -1 else if b < a then 1 else 0

def cmpStep (o : Int) (x : Pair) : Int := if x.1.1 = x.1.2 then o else cmpN x.1.1 x.1.2
def cmpF (l : List Pair) : Int := l.foldl cmpStep 0
theorem cmpN_top {k x y A B : Nat} (hA : A < k) (h : x < y) : A + k * x < B + k * y := by
  have h1 : k * (x + 1) ≤ k * y := Nat.mul_le_mul_left _ h
  rw [Nat.mul_add, Nat.mul_one] at h1
  omega

end Go.Proofs.Ytckdbcngnghhiaa

/-
  The contracts of the reference's Cmp and Same.
-/
namespace Go.Proofs.Ytckdbcngnghhiaa
set_option maxRecDepth 100000
open Go.RowKit

/-- Digits that are the same above a place: the digit there tells. -/
theorem lt_of_top {la lb : List Nat} (ha : Dig la) {i : Nat} (hs : ∀ j, i < j → la[j]?.getD 0 = lb[j]?.getD 0) (h : la[i]?.getD 0 < lb[i]?.getD 0) : val la < val lb := by
  have key : ∀ k, val (la.take (i + 1 + k)) < val (lb.take (i + 1 + k)) := by
    intro k
    induction k with
    | zero =>
      rw [Nat.add_zero, val_take_succ, val_take_succ]
      exact cmpN_top (Nat.lt_of_lt_of_le (val_lt (ha.take i)) (Nat.pow_le_pow_right B64_pos (List.length_take_le _ _))) h
    | succ k ih =>
      rw [← Nat.add_assoc, val_take_succ, val_take_succ, hs (i + 1 + k) (by omega)]
      omega
  have h1 := key (la.length + lb.length)
  rwa [List.take_of_length_le (by omega), List.take_of_length_le (by omega)] at h1

theorem eq_of_all {la lb : List Nat} (hl : la.length = lb.length) (hs : ∀ j : Nat, la[j]?.getD 0 = lb[j]?.getD 0) : la = lb := by
  apply List.ext_getElem hl
  intro i h1 h2
  have := hs i
  simpa [h1, h2] using this

theorem lt_of_len {x y : Nat} (h : (limbs x).length < (limbs y).length) : x < y := by
  rcases Nat.lt_or_ge x y with h1 | h1
  · exact h1
  · have := limbs_length_mono h1; omega

theorem cmpN_lt {x y : Nat} (h : x < y) : cmpN x y = -1 := by simp [cmpN, h]
theorem cmpN_gt {x y : Nat} (h : y < x) : cmpN x y = 1 := by unfold cmpN; rw [if_neg (by omega), if_pos h]
theorem cmpN_eq (x : Nat) : cmpN x x = 0 := by simp [cmpN]
theorem cmpN_zero {x y : Nat} : cmpN x y = 0 ↔ x = y := by
  unfold cmpN
  split
  · constructor <;> intro h <;> omega
  · split
    · constructor <;> intro h <;> omega
    · constructor <;> intro h <;> omega

def CmpPost (w : World) (x y : Nat) (e : Ending) (w' : World) : Prop := e = .returned (.int .i64 (cmpN x y)) ∧ Below w.heap.size w w'

set_option maxHeartbeats 1000000 in
theorem rcmp_lim (A B : Option Addr) (n c m d x y : Nat) (w : World) (ha : Lim w.heap.size w A n c (limbs x)) (hb : Lim w.heap.size w B m d (limbs y)) (hn : n ≤ 4294967296) (hm : m ≤ 4294967296) :
    Calls Try.prog 49 #[.slice A n c, .slice B m d] w (CmpPost w x y) := by
  rcases Nat.lt_trichotomy n m with h | h | h
  · have hv : cmpN x y = -1 := cmpN_lt (lt_of_len (by rw [← ha.1, ← hb.1]; exact h))
    have HV := Lib.hid hv
    have hne : ((n : Int) != (m : Int)) = true := by simp; omega
    clear hv ha hb
    go_enter Try.func49, Try.ntmps49
    go_wp2
    go_ret
    exact ⟨by rw [HV.out]; rfl, Below.refl _ _⟩
  · subst h
    have hla := Lib.hid ha.1
    have hlb := Lib.hid hb.1
    go_enter Try.func49, Try.ntmps49
    go_wp2
    go_loopw [5] (fun iv wr => ∃ (k : Nat), iv = .int .i64 ((k : Int) - 1) ∧ k ≤ n ∧ (∀ j, k ≤ j → Hid ((limbs x)[j]?.getD 0 = (limbs y)[j]?.getD 0)) ∧ Below w.heap.size w wr) (fun iv _ => (intOf iv + 1).toNat)
    case atStart => exact ⟨n, rfl, Nat.le_refl _, fun j hj => by rw [List.getElem?_eq_none (by have := hla.out; omega), List.getElem?_eq_none (by have := hlb.out; omega)]; exact Lib.hid rfl, Below.refl _ _⟩
    case round =>
      obtain ⟨k, rfl, hk, hs, hbl⟩ := hrel
      by_cases h0 : k = 0
      · subst h0
        have he : x = y := limbs_inj (eq_of_all (by rw [← hla.out, ← hlb.out]) fun j => (hs j (Nat.zero_le _)).out)
        have HE := Lib.hid he
        clear he
        go_wp2
        go_ret
        exact ⟨by rw [HE.out, cmpN_eq]; rfl, hbl⟩
      · obtain ⟨i, hi⟩ : ∃ i, k = i + 1 := ⟨k - 1, by omega⟩
        subst hi
        obtain ⟨b1, o1, rfl, hb1, hc1⟩ := (ha.below hbl).2.2.2 (by omega)
        obtain ⟨b2, o2, rfl, hb2, hc2⟩ := (hb.below hbl).2.2.2 (by omega)
        have g1 := hc1 i (by omega)
        have g2 := hc2 i (by omega)
        have hsi : ∀ j, i < j → (limbs x)[j]?.getD 0 = (limbs y)[j]?.getD 0 := fun j hj => (hs j hj).out
        have HSI := Lib.hid hsi
        clear hc1 hc2 hsi
        have e1 : ((i + 1 : Nat) : Int) - 1 = (i : Int) := by omega
        rw [e1]
        clear e1
        have hi0 : (0 : Int) ≤ (i : Int) := by omega
        have hin : (i : Int) < (n : Int) := by omega
        rcases Nat.lt_trichotomy ((limbs x)[i]?.getD 0) ((limbs y)[i]?.getD 0) with h1 | h1 | h1
        · have hv := cmpN_lt (lt_of_top (limbs_dig x) HSI.out h1)
          rw [val_limbs, val_limbs] at hv
          have HV := Lib.hid hv
          clear hv
          go_wp2
          go_quiet (fail)
          go_wp2
          go_ret
          exact ⟨by rw [HV.out]; rfl, below_drewN hbl _⟩
        · have n1 : ¬ (limbs x)[i]?.getD 0 < (limbs y)[i]?.getD 0 := by omega
          have n2 : ¬ (limbs y)[i]?.getD 0 < (limbs x)[i]?.getD 0 := by omega
          have HE := Lib.hid h1
          clear h1
          go_wp2
          go_quiet (fail)
          go_wp2
          go_quiet (fail)
          go_wp2
          go_roundw
          case rel => exact ⟨i, by go_num, by omega, fun j hj => by
            rcases Nat.eq_or_lt_of_le hj with e | e
            · subst e; exact Lib.hid HE.out
            · exact Lib.hid (HSI.out j e), below_drewN hbl _⟩
          case measure => simp [intOf]
        · have n1 : ¬ (limbs x)[i]?.getD 0 < (limbs y)[i]?.getD 0 := by omega
          have hv := cmpN_gt (lt_of_top (limbs_dig y) (fun j hj => (HSI.out j hj).symm) h1)
          rw [val_limbs, val_limbs] at hv
          have HV := Lib.hid hv
          clear hv
          go_wp2
          go_quiet (fail)
          go_wp2
          go_quiet (fail)
          go_wp2
          go_ret
          exact ⟨by rw [HV.out]; rfl, below_drewN (below_drewN hbl _) _⟩
  · have hv : cmpN x y = 1 := cmpN_gt (lt_of_len (by rw [← ha.1, ← hb.1]; exact h))
    have HV := Lib.hid hv
    have hne : ((n : Int) != (m : Int)) = true := by simp; omega
    have hnl : ¬ (n < m) := by omega
    clear hv ha hb
    go_enter Try.func49, Try.ntmps49
    go_wp2
    go_ret
    exact ⟨by rw [HV.out]; rfl, Below.refl _ _⟩

end Go.Proofs.Ytckdbcngnghhiaa

/-
  The contract of the law's 'given': are all numbers right, and of few limbs?
-/
namespace Go.Proofs.Ytckdbcngnghhiaa
open Go.RowKit

/-- A slice that came in: its address, length, capacity and digits. -/
structure Arg where
  ad : Option Addr
  n : Nat
  c : Nat
  l : List Nat
def Arg.v (a : Arg) : Value := .slice a.ad a.n a.c
def Arg.isIn (a : Arg) (w : World) : Prop := Lim w.heap.size w a.ad a.n a.c a.l ∧ a.n ≤ 9223372036854775807
/-- It is right, and of few limbs. -/
def Arg.ok (a : Arg) : Bool := decide (a.n ≤ 20) && canon a.l

end Go.Proofs.Ytckdbcngnghhiaa

/-
  The contracts of package nat in one style, over numbers: each argument is a slice that holds a number's digits; each answer is one.
-/
namespace Go.Proofs.Ytckdbcngnghhiaa
set_option maxRecDepth 100000
open Go.RowKit

/-- The slice holds the number's digits. -/
def Num (w : World) (A : Option Addr) (n c x : Nat) : Prop := Lim w.heap.size w A n c (limbs x)
theorem Num.on {w w' : World} {A : Option Addr} {n c x : Nat} (h : Num w A n c x) (hb : Below w.heap.size w w') : Num w' A n c x := (Lim.below h hb).more hb.size
theorem Num.len {w : World} {A : Option Addr} {n c x : Nat} (h : Num w A n c x) : n = (limbs x).length := h.1

/-- Digits are kept where a cell that is none is written. -/
theorem Num.set_other {w : World} {A : Option Addr} {n c x : Nat} {p : Addr} {u v : Value} (h : Num w A n c x) (hp : w.cell? p = some u) (hu : ∀ k i, u ≠ .int k i) : Num (w.setCell p v) A n c x := by
  refine ⟨h.1, h.2.1, h.2.2.1, fun h0 => ?_⟩
  obtain ⟨b, off, e, hb, hc⟩ := h.2.2.2 h0
  refine ⟨b, off, e, by simpa using hb, fun j hj => ?_⟩
  have hne : p ≠ ⟨b, off + j, none⟩ := fun e2 => by
    have h2 := hc j hj
    rw [← e2, hp] at h2
    injection h2 with h3
    exact hu _ _ h3
  rw [World.cell?_setCell_other (h := hne)]
  exact hc j hj

/-- A call has answered a number, in new memory or old, and nothing that was there has changed. -/
def GotN (w : World) (x : Nat) (e : Ending) (w' : World) : Prop := ∃ A n c, e = .returned (.slice A n c) ∧ Num w' A n c x ∧ Below w.heap.size w w'
/-- A call has answered a value that is known, and nothing that was there has changed. -/
def GotV (w : World) (v : Value) (e : Ending) (w' : World) : Prop := e = .returned v ∧ Below w.heap.size w w'
/-- A call has answered a number and a code. -/
def GotP (w : World) (x : Nat) (r : Int) (e : Ending) (w' : World) : Prop := ∃ A n c, e = .returned (.tuple #[.slice A n c, .int .i64 r]) ∧ Num w' A n c x ∧ Below w.heap.size w w'

theorem gotN_of {w w' : World} {x : Nat} {e : Ending} (h : ∃ v, e = .returned v ∧ IsN w' v x ∧ Below w.heap.size w w') : GotN w x e w' := by
  obtain ⟨v, rfl, ⟨A, n, c, rfl, hl⟩, hb⟩ := h
  exact ⟨A, n, c, rfl, hl, hb⟩

section
variable {w : World} {A B : Option Addr} {n c m d x y : Nat}
theorem rcmp_N (ha : Num w A n c x) (hb : Num w B m d y) (hx : (limbs x).length ≤ 2147483648) (hy : (limbs y).length ≤ 2147483648) : Calls Try.prog 49 #[.slice A n c, .slice B m d] w (GotV w (.int .i64 (cmpN x y))) :=
  (rcmp_lim A B n c m d x y w ha hb (by rw [ha.len]; omega) (by rw [hb.len]; omega)).mono fun _ _ h => h
theorem rbits_N (ha : Num w A n c x) (hx : (limbs x).length ≤ 2147483648) : Calls Try.prog 66 #[.slice A n c] w (GotV w (.int .i64 (blen x : Int))) :=
  (rbits_any A n c x w ha (by rw [ha.len]; omega)).mono fun _ _ ⟨he, hw⟩ => ⟨he, by rw [← hw]; exact Below.refl _ _⟩
theorem of_N (w : World) (x : Nat) (hx : x < B64) : Calls Try.prog 86 #[.int .u64 (x : Int)] w (GotN w x) :=
  (of_any x w hx).mono fun _ _ h => gotN_of h
end

end Go.Proofs.Ytckdbcngnghhiaa

/-
  Rows of integers: what a slice value reads as, what keeps it, what is answered; a row of the call's own.
-/
namespace Go.Proofs.Ytckdbcngnghhiaa
set_option maxRecDepth 100000
open Go.RowKit
set_option linter.unusedVariables false

/-- An integer as a value. -/
def encI (z : Int) : Value := .int .i64 z
/-- What 64 bits hold. -/
def Fits (z : Int) : Prop := -9223372036854775808 ≤ z ∧ z ≤ 9223372036854775807
theorem Fits.wrap {z : Int} (h : Fits z) : IntKind.i64.wrap z = z := IntWalk.i64_in z h
theorem infoI : (Try.prog.info? 2).map (fun i => (i.zero, i.size, i.bytes)) = some (some (.int .i64 0), 1, 8) := by kernel_rfl

/-- The slice value '.slice A n c' holds the integers l. -/
def IR (w : World) (A : Option Addr) (n c : Nat) (l : List Int) : Prop :=
  n = l.length ∧ n ≤ c ∧ (0 < n → ∃ b off, A = some ⟨b, off, none⟩ ∧ b < w.heap.size ∧ ∀ j, j < n → w.cell? ⟨b, off + j, none⟩ = some (.int .i64 (l[j]?.getD 0)))
theorem IR.on {w w' : World} {A : Option Addr} {n c : Nat} {l : List Int} (h : IR w A n c l) (hb : Below w.heap.size w w') : IR w' A n c l :=
  ⟨h.1, h.2.1, fun hn => by
    obtain ⟨b, off, e, hlt, hc⟩ := h.2.2 hn
    exact ⟨b, off, e, Nat.lt_of_lt_of_le hlt hb.size, fun j hj => (hb.cell (p := ⟨b, off + j, none⟩) hlt).trans (hc j hj)⟩⟩
theorem IR.nil (w : World) (A : Option Addr) (c : Nat) : IR w A 0 c [] := ⟨rfl, Nat.zero_le _, fun h => absurd h (by omega)⟩
theorem IR.of_own {w : World} {base : Nat} {e : TypeId} {A : Option Addr} {n c : Nat} {l : List Int} (h : w.ownsRow base e 1 (.slice A n c) n (l.map encI)) : IR w A n c l := by
  have hl : n = l.length := by have := h.1; simp at this; omega
  refine ⟨hl, ?_, fun hn => ?_⟩
  · rcases h.2 with ⟨e1, h0⟩ | ⟨g, cap, cur, e1, _, _, hnc, _⟩
    · omega
    · injection e1 with _ _ e2; omega
  · have hlt := h.lt
    rcases h.2 with ⟨e1, h0⟩ | ⟨g, cap, cur, e1, _, _, hnc, _⟩
    · omega
    · injection e1 with e2 _ e3
      subst e2; subst e3
      refine ⟨g, 0, rfl, (hlt g rfl).2, fun j hj => ?_⟩
      have := h.cellAt j (by omega)
      rw [Nat.zero_add, this, List.getElem?_map, List.getElem?_eq_getElem (by omega)]
      simp [encI]

/-- A row of integers. -/
def GotI (w : World) (l : List Int) (e : Ending) (w' : World) : Prop := ∃ A n c, e = .returned (.slice A n c) ∧ IR w' A n c l ∧ Below w.heap.size w w'
/-- A row of integers, and a code. -/
def GotIp (w : World) (l : List Int) (r : Int) (e : Ending) (w' : World) : Prop := ∃ A n c, e = .returned (.tuple #[.slice A n c, .int .i64 r]) ∧ IR w' A n c l ∧ Below w.heap.size w w'
end Go.Proofs.Ytckdbcngnghhiaa

/-
  Plain arithmetic: digits to the base 2 to the power of 32, as the reference reckons.
-/
namespace Go.Proofs.Ytckdbcngnghhiaa

/-- 2 to the power of 32, behind a name. -/
def H32 : Nat := 4294967296
theorem H32_pos : 0 < H32 := by unfold H32; omega
theorem H32_gt : 1 < H32 := by unfold H32; omega
theorem H32_sq : H32 * H32 = B64 := rfl
theorem H32_lt : H32 < B64 := by unfold H32 B64; omega

/-- The number of figures of 32 bits, the lowest first. -/
def valH : List Nat → Nat
  | [] => 0
  | x :: xs => x + H32 * valH xs
def DigH (l : List Nat) : Prop := ∀ x ∈ l, x < H32

theorem valH_nil : valH [] = 0 := rfl
theorem valH_cons (x : Nat) (xs : List Nat) : valH (x :: xs) = x + H32 * valH xs := rfl
theorem DigH.nil : DigH [] := fun _ h => by cases h
theorem DigH.dig {l : List Nat} (h : DigH l) : Dig l := fun x hx => Nat.lt_trans (h x hx) H32_lt
theorem DigH.snoc {x : Nat} {xs : List Nat} (h : DigH xs) (hx : x < H32) : DigH (xs ++ [x]) := fun y hy => by
  rcases List.mem_append.1 hy with hy | hy
  · exact h y hy
  · simp at hy; subst hy; exact hx
theorem DigH.get {l : List Nat} (h : DigH l) (j : Nat) : l[j]?.getD 0 < H32 := by
  by_cases hj : j < l.length
  · simp [hj]; exact h _ (List.getElem_mem hj)
  · rw [List.getElem?_eq_none (by omega)]; exact H32_pos
theorem DigH.set {l : List Nat} (h : DigH l) (k : Nat) {d : Nat} (hd : d < H32) : DigH (l.set k d) := fun x hx => by
  rcases List.mem_or_eq_of_mem_set hx with h1 | h1
  · exact h x h1
  · rw [h1]; exact hd

theorem valH_lt {l : List Nat} (hd : DigH l) : valH l < H32 ^ l.length := by
  induction l with
  | nil => simp [valH_nil]
  | cons x xs ih =>
    rw [valH_cons, List.length_cons, Nat.pow_succ, Nat.mul_comm (H32 ^ xs.length)]
    have h1 := ih fun y hy => hd y (List.mem_cons_of_mem _ hy)
    have h2 := hd x List.mem_cons_self
    have h3 : H32 * (valH xs + 1) ≤ H32 * H32 ^ xs.length := Nat.mul_le_mul_left _ h1
    rw [Nat.mul_add, Nat.mul_one] at h3
    omega

theorem valH_snoc (l : List Nat) (x : Nat) : valH (l ++ [x]) = valH l + H32 ^ l.length * x := by
  induction l with
  | nil => simp [valH_cons, valH_nil]
  | cons y ys ih =>
    rw [List.cons_append, valH_cons, ih, valH_cons, List.length_cons, Nat.pow_succ, Nat.mul_add]
    rw [← Nat.mul_assoc, Nat.mul_comm H32 (H32 ^ ys.length)]
    omega

theorem valH_take_succ (l : List Nat) (k : Nat) : valH (l.take (k + 1)) = valH (l.take k) + H32 ^ k * l[k]?.getD 0 := by
  by_cases hk : k < l.length
  · rw [List.take_succ_eq_append_getElem hk, valH_snoc, List.length_take, Nat.min_eq_left (by omega)]
    simp [hk]
  · rw [List.take_of_length_le (by omega), List.take_of_length_le (by omega), List.getElem?_eq_none (by omega)]
    simp

theorem valH_set {l : List Nat} {k : Nat} (hk : k < l.length) (d : Nat) : valH (l.set k d) + H32 ^ k * l[k]?.getD 0 = valH l + H32 ^ k * d := by
  induction l generalizing k with
  | nil => simp at hk
  | cons x xs ih =>
    cases k with
    | zero => simp [valH_cons]; omega
    | succ k =>
      have h := ih (k := k) (by simpa using hk)
      rw [List.set_cons_succ, valH_cons, valH_cons, List.getElem?_cons_succ, Nat.pow_succ, Nat.mul_comm (H32 ^ k) H32, Nat.mul_assoc, Nat.mul_assoc]
      have h2 : H32 * (valH (xs.set k d) + H32 ^ k * xs[k]?.getD 0) = H32 * (valH xs + H32 ^ k * d) := by rw [h]
      rw [Nat.mul_add, Nat.mul_add] at h2
      omega

theorem valH_zeros (n : Nat) : valH (List.replicate n 0) = 0 := by
  induction n with
  | zero => rfl
  | succ n ih => rw [List.replicate_succ, valH_cons, ih]; simp
theorem digH_zeros (n : Nat) : DigH (List.replicate n 0) := fun x hx => by rw [(List.mem_replicate.1 hx).2]; exact H32_pos

/-- The lower and the upper half of a digit. -/
def loH (x : Nat) : Nat := x % H32
def hiH (x : Nat) : Nat := x / H32
theorem loH_lt (x : Nat) : loH x < H32 := Nat.mod_lt _ H32_pos
theorem hiH_lt {x : Nat} (h : x < B64) : hiH x < H32 := by unfold hiH; rw [Nat.div_lt_iff_lt_mul H32_pos, H32_sq]; exact h
theorem half_split (x : Nat) : loH x + H32 * hiH x = x := Nat.mod_add_div _ _

/-- A number's figures. -/
def halvesL : List Nat → List Nat
  | [] => []
  | x :: xs => loH x :: hiH x :: halvesL xs
theorem halvesL_length (l : List Nat) : (halvesL l).length = 2 * l.length := by
  induction l with
  | nil => rfl
  | cons x xs ih => simp only [halvesL, List.length_cons, ih]; omega
theorem halvesL_snoc (l : List Nat) (x : Nat) : halvesL (l ++ [x]) = halvesL l ++ [loH x, hiH x] := by
  induction l with
  | nil => rfl
  | cons y ys ih => simp only [List.cons_append, halvesL, ih]
theorem halvesL_dig {l : List Nat} (h : Dig l) : DigH (halvesL l) := by
  induction l with
  | nil => exact DigH.nil
  | cons x xs ih =>
    intro y hy
    simp only [halvesL, List.mem_cons] at hy
    rcases hy with rfl | rfl | hy
    · exact loH_lt _
    · exact hiH_lt h.head
    · exact ih h.tail y hy
theorem halvesL_val (l : List Nat) : valH (halvesL l) = val l := by
  induction l with
  | nil => rfl
  | cons x xs ih =>
    simp only [halvesL, valH_cons, val_cons, ih]
    have := half_split x
    have e : H32 * (hiH x + H32 * val xs) = H32 * hiH x + B64 * val xs := by rw [Nat.mul_add, ← Nat.mul_assoc, H32_sq]
    omega

/-- Two figures as a digit. -/
def join (a b : Nat) : Nat := a + b * H32
theorem join_lt {a b : Nat} (ha : a < H32) (hb : b < H32) : join a b < B64 := by
  unfold join
  have : (b + 1) * H32 ≤ H32 * H32 := Nat.mul_le_mul_right _ hb
  rw [H32_sq, Nat.add_mul, Nat.one_mul] at this
  omega

/-- Digits of the first 2k figures. -/
def joinL (l : List Nat) (k : Nat) : List Nat := (List.range k).map fun j => join (l[2 * j]?.getD 0) (l[2 * j + 1]?.getD 0)
theorem joinL_length (l : List Nat) (k : Nat) : (joinL l k).length = k := by simp [joinL]
theorem joinL_succ (l : List Nat) (k : Nat) : joinL l (k + 1) = joinL l k ++ [join (l[2 * k]?.getD 0) (l[2 * k + 1]?.getD 0)] := by simp [joinL, List.range_succ]
theorem joinL_dig {l : List Nat} (h : DigH l) (k : Nat) : Dig (joinL l k) := fun x hx => by
  obtain ⟨j, _, rfl⟩ := List.mem_map.1 hx
  exact join_lt (h.get _) (h.get _)
theorem joinL_val (l : List Nat) (k : Nat) : val (joinL l k) = valH (l.take (2 * k)) := by
  induction k with
  | zero => simp [joinL, val_nil, valH_nil]
  | succ k ih =>
    rw [joinL_succ, val_snoc, joinL_length, ih, show 2 * (k + 1) = 2 * k + 1 + 1 by omega, valH_take_succ, valH_take_succ]
    have e : B64 ^ k = H32 ^ (2 * k) := by rw [← H32_sq, Nat.pow_mul, Nat.pow_two]
    rw [e, join, Nat.mul_add, Nat.pow_succ]
    have : H32 ^ (2 * k) * (l[2 * k + 1]?.getD 0 * H32) = H32 ^ (2 * k) * H32 * l[2 * k + 1]?.getD 0 := by ac_rfl
    omega

/-- Three figures' sum, in two parts. -/
theorem div_le_one {x y c : Nat} (hx : x < H32) (hy : y < H32) (hc : c ≤ 1) : hiH (x + y + c) ≤ 1 := by
  unfold hiH
  have : (x + y + c) / H32 < 2 := (Nat.div_lt_iff_lt_mul H32_pos).2 (by omega)
  omega

end Go.Proofs.Ytckdbcngnghhiaa

/-
  Plain arithmetic: digits by division, powers of 2, binary figures.
-/
namespace Go.Proofs.Ytckdbcngnghhiaa

/-- A number's digit at a place, by division. -/
def dig (y j : Nat) : Nat := y / B64 ^ j % B64
theorem dig_lt (y j : Nat) : dig y j < B64 := Nat.mod_lt _ B64_pos
theorem limbs_get (x j : Nat) : (limbs x)[j]?.getD 0 = dig x j := by
  induction j generalizing x with
  | zero =>
    unfold dig
    rw [Nat.pow_zero, Nat.div_one]
    by_cases h : x = 0
    · subst h; rw [limbs_zero]; simp
    · rw [limbs_pos h]; simp
  | succ j ih =>
    by_cases h : x = 0
    · subst h; rw [limbs_zero]; simp [dig]
    · rw [limbs_pos h, List.getElem?_cons_succ, ih]
      unfold dig
      rw [Nat.div_div_eq_div_mul, Nat.pow_succ, Nat.mul_comm B64]
/-- The first k digits. -/
def digs (y k : Nat) : List Nat := (List.range k).map (dig y)
theorem digs_length (y k : Nat) : (digs y k).length = k := by simp [digs]
theorem digs_succ (y k : Nat) : digs y (k + 1) = digs y k ++ [dig y k] := by simp [digs, List.range_succ]
theorem digs_dig (y k : Nat) : Dig (digs y k) := fun x hx => by
  obtain ⟨j, _, rfl⟩ := List.mem_map.1 hx
  exact dig_lt _ _
theorem digs_val (y k : Nat) : val (digs y k) = y % B64 ^ k := by
  induction k with
  | zero => simp [digs, val_nil, Nat.mod_one]
  | succ k ih =>
    rw [digs_succ, val_snoc, digs_length, ih, dig, Nat.pow_succ, Nat.mod_mul]
theorem digs_all {y k : Nat} (h : y < B64 ^ k) : val (digs y k) = y := by rw [digs_val, Nat.mod_eq_of_lt h]

theorem B64_two : B64 = 2 ^ 64 := rfl
theorem B64_pow2 (j : Nat) : B64 ^ j = 2 ^ (64 * j) := by rw [B64_two, Nat.pow_mul]

/-- 2 to a power, behind a name. -/
def pw (k : Nat) : Nat := 2 ^ k
theorem pw_succ (k : Nat) : pw (k + 1) = pw k * 2 := Nat.pow_succ ..
theorem pw_pos (k : Nat) : 0 < pw k := Nat.pow_pos (by omega)
theorem pw_lt {k : Nat} (h : k < 64) : pw k < B64 := by rw [B64_two]; exact (Nat.pow_lt_pow_iff_right (by omega)).2 h
theorem pw_limbs (n : Nat) : (List.replicate (n / 64 + 1) 0).set (n / 64) (pw (n % 64)) = limbs (2 ^ n) := by
  have hz : ∀ m, val (List.replicate m 0) = 0 := fun m => by
    induction m with
    | zero => rfl
    | succ m ih => rw [List.replicate_succ, val_cons, ih]; simp
  have h1 := val_set (l := List.replicate (n / 64 + 1) 0) (k := n / 64) (by simp) (pw (n % 64))
  have h0 : (List.replicate (n / 64 + 1) 0)[n / 64]?.getD 0 = 0 := by simp
  rw [h0, hz, Nat.mul_zero, Nat.add_zero, Nat.zero_add] at h1
  have h2 : B64 ^ (n / 64) * pw (n % 64) = 2 ^ n := by
    rw [B64_pow2, pw, ← Nat.pow_add]
    congr 1
    omega
  rw [h2] at h1
  rw [← h1]
  refine eq_limbs (Dig.set (fun x hx => by rw [(List.mem_replicate.1 hx).2]; exact B64_pos) _ (pw_lt (Nat.mod_lt _ (by omega)))) fun _ => ?_
  rw [List.length_set, List.length_replicate, Nat.add_sub_cancel, h1, ← h2]
  exact Nat.le_mul_of_pos_right _ (pw_pos _)

/-- A binary figure. -/
def bitN (x i : Nat) : Nat := x / 2 ^ i % 2
theorem bitN_lt (x i : Nat) : bitN x i < 2 := Nat.mod_lt _ (by omega)
theorem bitN_dig (x i : Nat) : dig x (i / 64) / 2 ^ (i % 64) % 2 = bitN x i := by
  have h : ∀ y s : Nat, s < 64 → y % B64 / 2 ^ s % 2 = y / 2 ^ s % 2 := fun y s hs => by
    have e : B64 = 2 ^ s * 2 ^ (64 - s) := by rw [B64_two, ← Nat.pow_add]; congr 1; omega
    rw [e, Nat.mod_mul_right_div_self]
    obtain ⟨r, hr⟩ : ∃ r, 64 - s = r + 1 := ⟨64 - s - 1, by omega⟩
    rw [hr, Nat.pow_succ, Nat.mul_comm]
    exact Nat.mod_mul_right_mod _ _ _
  unfold dig bitN
  rw [h _ _ (Nat.mod_lt _ (by omega)), B64_pow2, Nat.div_div_eq_div_mul, ← Nat.pow_add]
  congr 3
  omega

/-- Two digits, shifted down by k places, the lower digit. -/
def sh2 (x y k : Nat) : Nat := (x + B64 * y) / 2 ^ k % B64
theorem sh2_lt (x y k : Nat) : sh2 x y k < B64 := Nat.mod_lt _ B64_pos
theorem sh2_zero {x : Nat} (hx : x < B64) (y : Nat) : sh2 x y 0 = x := by
  unfold sh2
  rw [Nat.pow_zero, Nat.div_one, Nat.add_mul_mod_self_left, Nat.mod_eq_of_lt hx]
theorem sh2_succ {x : Nat} (hx : x < B64) (y k : Nat) : sh2 x y k / 2 + y / 2 ^ k % 2 * 9223372036854775808 = sh2 x y (k + 1) := by
  have h1 : (x + B64 * y) / 2 ^ k / B64 = y / 2 ^ k := by
    rw [Nat.div_div_eq_div_mul, Nat.mul_comm (2 ^ k) B64, ← Nat.div_div_eq_div_mul, Nat.add_mul_div_left _ _ B64_pos, Nat.div_eq_of_lt hx, Nat.zero_add]
  have h2 : sh2 x y (k + 1) = (x + B64 * y) / 2 ^ k / 2 % B64 := by unfold sh2; rw [Nat.pow_succ, ← Nat.div_div_eq_div_mul]
  rw [h2]
  unfold sh2
  rw [← h1]
  generalize (x + B64 * y) / 2 ^ k = u
  unfold B64
  omega

theorem sh2_dig (x i s : Nat) (hs : s < 64) : sh2 (dig x i) (dig x (i + 1)) s = x / B64 ^ i / 2 ^ s % B64 := by
  have h1 : dig x i + B64 * dig x (i + 1) = x / B64 ^ i % (B64 * B64) := by
    unfold dig
    rw [Nat.mod_mul, Nat.pow_succ, Nat.div_div_eq_div_mul]
  unfold sh2
  rw [h1]
  generalize x / B64 ^ i = m
  have e : B64 * B64 = 2 ^ s * (B64 * 2 ^ (64 - s)) := by
    have e2 : 2 ^ s * 2 ^ (64 - s) = B64 := by rw [B64_two, ← Nat.pow_add]; congr 1; omega
    calc B64 * B64 = B64 * (2 ^ s * 2 ^ (64 - s)) := by rw [e2]
      _ = 2 ^ s * (B64 * 2 ^ (64 - s)) := by ac_rfl
  rw [e, Nat.mod_mul_right_div_self]
  exact Nat.mod_mul_right_mod _ _ _

/-- A digit of what is shifted down. -/
theorem shr_dig (x n j : Nat) : sh2 (dig x (n / 64 + j)) (dig x (n / 64 + j + 1)) (n % 64) = dig (x / 2 ^ n) j := by
  rw [sh2_dig _ _ _ (Nat.mod_lt _ (by omega))]
  unfold dig
  congr 1
  rw [B64_pow2, B64_pow2, Nat.div_div_eq_div_mul, Nat.div_div_eq_div_mul, ← Nat.pow_add, ← Nat.pow_add]
  congr 2
  omega

theorem shr_lt {x n k : Nat} (h : x < B64 ^ k) : x / 2 ^ n < B64 ^ (k - n / 64) := by
  rcases Nat.lt_or_ge (n / 64) k with h1 | h1
  · rw [Nat.div_lt_iff_lt_mul (Nat.pow_pos (by omega))]
    refine Nat.lt_of_lt_of_le h ?_
    have e : B64 ^ k = B64 ^ (k - n / 64) * B64 ^ (n / 64) := by rw [← Nat.pow_add]; congr 1; omega
    rw [e]
    refine Nat.mul_le_mul_left _ ?_
    rw [B64_pow2]
    exact Nat.pow_le_pow_right (by omega) (by omega)
  · have h2 : x < 2 ^ n := by
      refine Nat.lt_of_lt_of_le h ?_
      rw [B64_pow2]
      exact Nat.pow_le_pow_right (by omega) (by omega)
    rw [Nat.div_eq_of_lt h2]
    exact Nat.pow_pos B64_pos

end Go.Proofs.Ytckdbcngnghhiaa

/-
  Plain arithmetic: a division bit by bit.
-/
namespace Go.Proofs.Ytckdbcngnghhiaa

/-- Of a quotient F: what digit t holds when all binary figures from m on are known. -/
def qd (F m t : Nat) : Nat := F / 2 ^ (max m (64 * t)) % 2 ^ (64 * (t + 1) - max m (64 * t))
theorem qd_lt (F m t : Nat) : qd F m t < B64 := by
  unfold qd
  refine Nat.lt_of_lt_of_le (Nat.mod_lt _ (Nat.pow_pos (by omega))) ?_
  rw [B64_two]
  exact Nat.pow_le_pow_right (by omega) (by omega)
theorem qd_none {F m : Nat} (h : F < 2 ^ m) (t : Nat) : qd F m t = 0 := by
  unfold qd
  have : F < 2 ^ (max m (64 * t)) := Nat.lt_of_lt_of_le h (Nat.pow_le_pow_right (by omega) (by omega))
  rw [Nat.div_eq_of_lt this, Nat.zero_mod]
theorem qd_done (F t : Nat) : qd F 0 t = dig F t := by
  unfold qd dig
  have e1 : max 0 (64 * t) = 64 * t := by omega
  have e2 : 64 * (t + 1) - 64 * t = 64 := by omega
  rw [e1, e2, B64_pow2]
  rfl
theorem qd_other {F i t : Nat} (h : t ≠ i / 64) : qd F i t = qd F (i + 1) t := by
  unfold qd
  rcases Nat.lt_or_ge t (i / 64) with h1 | h1
  · have e1 : 64 * (t + 1) - max i (64 * t) = 0 := by omega
    have e2 : 64 * (t + 1) - max (i + 1) (64 * t) = 0 := by omega
    rw [e1, e2, Nat.pow_zero, Nat.mod_one, Nat.mod_one]
  · have e1 : max i (64 * t) = 64 * t := by omega
    have e2 : max (i + 1) (64 * t) = 64 * t := by omega
    rw [e1, e2]
theorem qd_same (F i : Nat) : qd F i (i / 64) = 2 * qd F (i + 1) (i / 64) + bitN F i := by
  unfold qd bitN
  have e1 : max i (64 * (i / 64)) = i := by omega
  have e2 : max (i + 1) (64 * (i / 64)) = i + 1 := by omega
  obtain ⟨e, he⟩ : ∃ e, 64 * (i / 64 + 1) - i = e + 1 := ⟨64 * (i / 64 + 1) - i - 1, by omega⟩
  have he2 : 64 * (i / 64 + 1) - (i + 1) = e := by omega
  rw [e1, e2, he, he2, Nat.pow_succ 2 i, ← Nat.div_div_eq_div_mul, Nat.pow_succ, Nat.mul_comm (2 ^ e) 2, Nat.mod_mul]
  omega
theorem qd_room (F i : Nat) : 2 * qd F (i + 1) (i / 64) + 1 < B64 := by
  have h : qd F (i + 1) (i / 64) < 2 ^ 63 := by
    unfold qd
    refine Nat.lt_of_lt_of_le (Nat.mod_lt _ (Nat.pow_pos (by omega))) ?_
    exact Nat.pow_le_pow_right (by omega) (by omega)
  unfold B64
  omega

/-- The digits of a quotient when all binary figures from m on are known. -/
def qlist (F m n : Nat) : List Nat := (List.range n).map (qd F m)
theorem qlist_length (F m n : Nat) : (qlist F m n).length = n := by simp [qlist]
theorem qlist_dig (F m n : Nat) : Dig (qlist F m n) := fun x hx => by
  obtain ⟨j, _, rfl⟩ := List.mem_map.1 hx
  exact qd_lt _ _ _
theorem qlist_none {F m : Nat} (h : F < 2 ^ m) (n : Nat) : qlist F m n = List.replicate n 0 := by
  apply List.ext_getElem
  · simp [qlist]
  · intro i h1 h2
    simp [qlist, qd_none h]
theorem qlist_done (F n : Nat) : qlist F 0 n = digs F n := by
  unfold qlist digs
  congr 1
  funext t
  exact qd_done F t
theorem qlist_set (F i n : Nat) : (qlist F (i + 1) n).set (i / 64) (qd F i (i / 64)) = qlist F i n := by
  apply List.ext_getElem
  · simp [qlist]
  · intro j h1 h2
    rw [List.getElem_set]
    by_cases h : i / 64 = j
    · simp [h, qlist]
    · rw [if_neg h]
      simp only [qlist, List.getElem_map, List.getElem_range]
      exact (qd_other (fun e => h e.symm)).symm

/-- One binary figure of a division. -/
theorem div_step {x y : Nat} (hy : 0 < y) (i : Nat) :
    (x / 2 ^ i) % y = (if y ≤ 2 * (x / 2 ^ (i + 1) % y) + bitN x i then 2 * (x / 2 ^ (i + 1) % y) + bitN x i - y else 2 * (x / 2 ^ (i + 1) % y) + bitN x i) ∧
    bitN (x / y) i = (if y ≤ 2 * (x / 2 ^ (i + 1) % y) + bitN x i then 1 else 0) := by
  have h1 : x / 2 ^ i = 2 * (x / 2 ^ (i + 1)) + bitN x i := by
    unfold bitN
    rw [Nat.pow_succ, ← Nat.div_div_eq_div_mul]
    omega
  have hb := bitN_lt x i
  have h2 := Nat.div_add_mod (x / 2 ^ (i + 1)) y
  have hr := Nat.mod_lt (x / 2 ^ (i + 1)) hy
  have h3 : x / y / 2 ^ i = x / 2 ^ i / y := by rw [Nat.div_div_eq_div_mul, Nat.div_div_eq_div_mul, Nat.mul_comm]
  have h4 : bitN (x / y) i = x / 2 ^ i / y % 2 := by unfold bitN; rw [h3]
  rw [h4, h1]
  generalize x / 2 ^ (i + 1) % y = r at *
  generalize x / 2 ^ (i + 1) / y = q at *
  generalize x / 2 ^ (i + 1) = u at *
  generalize bitN x i = b at *
  subst h2
  have e : 2 * (y * q + r) + b = (2 * r + b) + y * (2 * q) := by
    have : y * (2 * q) = 2 * (y * q) := by ac_rfl
    omega
  rw [e, Nat.add_mul_mod_self_left, Nat.add_mul_div_left _ _ hy]
  split
  · rename_i h
    have e1 : (2 * r + b) % y = 2 * r + b - y := by rw [Nat.mod_eq_sub_mod h, Nat.mod_eq_of_lt (by omega)]
    have e2 : (2 * r + b) / y = 1 := by
      rw [Nat.div_eq_sub_div hy h, Nat.div_eq_of_lt (by omega)]
    rw [e1, e2]
    exact ⟨rfl, by omega⟩
  · rename_i h
    have e1 : (2 * r + b) % y = 2 * r + b := Nat.mod_eq_of_lt (by omega)
    have e2 : (2 * r + b) / y = 0 := Nat.div_eq_of_lt (by omega)
    rw [e1, e2]
    exact ⟨rfl, by omega⟩

end Go.Proofs.Ytckdbcngnghhiaa

/-
  The contract of the law's 'alive': it answers true.
-/
namespace Go.Proofs.Ytckdbcngnghhiaa
open Go.RowKit

end Go.Proofs.Ytckdbcngnghhiaa

/-
  A slice of integers that came in, as a list of digits; and what the laws' tests of what is given lead to.
-/
namespace Go.Proofs.Ytckdbcngnghhiaa
open Go.RowKit

section
variable {w : World} {A B : Option Addr} {n c m d x y : Nat}
end

/-- Digits that are right are a number's own. -/
theorem Lim.num {w : World} {A : Option Addr} {n c : Nat} {l : List Nat} (h : Lim w.heap.size w A n c l) (hc : canon l = true) : Num w A n c (val l) := by
  unfold Num
  rw [limbs_val h.2.2.1 hc]
  exact h

theorem Arg.isIn.on {a : Arg} {w w' : World} (h : a.isIn w) (hb : Below w.heap.size w w') : a.isIn w' := ⟨(h.1.below hb).more hb.size, h.2⟩

end Go.Proofs.Ytckdbcngnghhiaa

/-
  The contracts of the reference's Bare and Of.
-/
namespace Go.Proofs.Ytckdbcngnghhiaa
set_option maxRecDepth 100000
set_option maxHeartbeats 2000000
open Go.RowKit

theorem isL_of_own {w : World} {base : Nat} {e : TypeId} {v : Value} {n : Nat} {l : List Nat} (h : w.ownsRow base e 1 v n (l.map encD)) (hd : Dig l) : ∃ A c, v = .slice A n c ∧ Lim w.heap.size w A n c l := by
  rcases h.2 with ⟨rfl, rfl⟩ | ⟨g, cap, cur, rfl, _⟩
  · exact ⟨none, 0, rfl, Lim.of_own h hd⟩
  · exact ⟨_, _, rfl, Lim.of_own h hd⟩

/-- A slice lies in new memory: in a block from B on, if it has anything. -/
def Fresh (B : Nat) (A : Option Addr) (n : Nat) : Prop := 0 < n → ∃ b off, A = some ⟨b, off, none⟩ ∧ B ≤ b
theorem Fresh.mono {B B' : Nat} {A : Option Addr} {n : Nat} (h : Fresh B A n) (hB : B' ≤ B) : Fresh B' A n := fun h0 => by
  obtain ⟨b, off, e, hb⟩ := h h0
  exact ⟨b, off, e, Nat.le_trans hB hb⟩
theorem fresh_of_own {w : World} {base : Nat} {e : TypeId} {A : Option Addr} {n c : Nat} {xs : List Value} (h : w.ownsRow base e 1 (.slice A n c) n xs) : Fresh base A n := fun h0 => by
  rcases h.2 with ⟨_, h1⟩ | ⟨g, cap, cur, e1, hb, _⟩
  · omega
  · injection e1 with e2
    exact ⟨g, 0, e2, hb⟩
/-- A call has answered a number in new memory, and nothing that was there has changed. -/
def GotNF (w : World) (x : Nat) (e : Ending) (w' : World) : Prop := ∃ A n c, e = .returned (.slice A n c) ∧ Num w' A n c x ∧ Below w.heap.size w w' ∧ Fresh w.heap.size A n
theorem GotNF.weak {w w' : World} {x : Nat} {e : Ending} (h : GotNF w x e w') : GotN w x e w' := by
  obtain ⟨A, n, c, he, hl, hb, _⟩ := h
  exact ⟨A, n, c, he, hl, hb⟩
/-- Likewise, with a code. -/
def GotPF (w : World) (x : Nat) (r : Int) (e : Ending) (w' : World) : Prop := ∃ A n c, e = .returned (.tuple #[.slice A n c, .int .i64 r]) ∧ Num w' A n c x ∧ Below w.heap.size w w' ∧ Fresh w.heap.size A n
theorem GotPF.weak {w w' : World} {x : Nat} {r : Int} {e : Ending} (h : GotPF w x r e w') : GotP w x r e w' := by
  obtain ⟨A, n, c, he, hl, hb, _⟩ := h
  exact ⟨A, n, c, he, hl, hb⟩

theorem own_empty (w : World) (base : Nat) (h : base ≤ w.heap.size) : (w.alloc (.cells #[] 84)).ownsRow base 84 1 (.slice (some ⟨w.heap.size, 0, none⟩) 0 0) 0 [] :=
  ⟨rfl, .inr ⟨w.heap.size, 0, #[], rfl, h, heap_alloc_new w _, Nat.le_refl _, by unfold maxLen; omega, rfl, rfl⟩⟩

theorem encD_one (l : List Nat) : ∀ u ∈ l.map encD, u.oneCell' = true := fun u hu => by
  obtain ⟨x, _, rfl⟩ := List.mem_map.1 hu
  rfl

theorem bare_F (b off n c : Nat) (l : List Nat) (w : World) (h : Lim w.heap.size w (some ⟨b, off, none⟩) n c l) (hn : n ≤ 4294967296) (hc : ∀ j, j < n → w.cell? ⟨b, off + j, none⟩ = some (.int .u64 ((l[j]?.getD 0 : Nat) : Int))) (hb : 0 < n → b < w.heap.size) :
    Calls Try.prog 70 #[.slice (some ⟨b, off, none⟩) n c] w (GotNF w (val l)) := by
  obtain ⟨i0, hi, hz0, hz1, hz2⟩ := info_parts info24
  obtain ⟨hl, hcap, hdg, _⟩ := h
  have HL := Lib.hid hl
  clear hl
  go_enter Try.func70, Try.ntmps70
  go_wp2
  go_loop [3] (fun v => ∃ k : Nat, k ≤ n ∧ v = .int .i64 (k : Int) ∧ Hid (val (l.take k) = val l)) (fun v => (intOf v).toNat)
  case atStart => exact ⟨n, Nat.le_refl _, rfl, by rw [List.take_of_length_le (by have := HL.out; omega)]; exact Lib.hid rfl⟩
  case round =>
    obtain ⟨k, hk, rfl, hv⟩ := hrel
    by_cases hz : 0 < k ∧ l[k - 1]?.getD 0 = 0
    · obtain ⟨hk0, hz⟩ := hz
      obtain ⟨j, hj⟩ : ∃ j, k = j + 1 := ⟨k - 1, by omega⟩
      subst hj
      rw [Nat.add_sub_cancel] at hz
      have h1 := hc j (by omega)
      have hzb : (((l[j]?.getD 0 : Nat) : Int) == 0) = true := by simp [hz]
      have HZ := Lib.hid hz
      have HC := Lib.hid hc
      clear hz hc
      go_wp2
      go_round
      case rel => exact ⟨j, by omega, by go_num, Lib.hid (val_take_zero HZ.out hv.out)⟩
      case measure => simp [intOf]
    · have hne : 0 < k → l[k - 1]?.getD 0 ≠ 0 := fun h0 h1 => hz ⟨h0, h1⟩
      have ht := take_limbs hdg (by have := HL.out; omega) hv.out hne
      have HT := Lib.hid ht
      have hcells : ∀ (j : Nat) u, ((l.take k).map encD)[j]? = some u → (w.alloc (.cells #[] 84)).cell? ((⟨b, off, none⟩ : Addr).add j) = some u := by
        intro j u hu
        have hj : j < k := by
          have := (List.getElem?_eq_some_iff.1 hu).1
          simp at this; omega
        have hlj : j < l.length := by have := HL.out; omega
        have e1 : ((⟨b, off, none⟩ : Addr).add j) = ⟨b, off + j, none⟩ := by unfold Addr.add; split <;> simp_all
        rw [e1, World.cell?_alloc_lt w _ _ (hb (by omega)), hc j (by omega)]
        rw [List.getElem?_map, List.getElem?_take_of_lt hj, List.getElem?_eq_getElem hlj] at hu
        simp only [List.getElem?_eq_getElem hlj, Option.getD_some]
        exact hu
      have HCE := Lib.hid hcells
      have htest : (k = 0) ∨ (∃ j, k = j + 1 ∧ (((l[j]?.getD 0 : Nat) : Int) == 0) = false ∧ w.cell? ⟨b, off + j, none⟩ = some (.int .u64 ((l[j]?.getD 0 : Nat) : Int))) := by
        rcases Nat.eq_zero_or_pos k with h0 | h0
        · exact .inl h0
        · refine .inr ⟨k - 1, by omega, ?_, hc _ (by omega)⟩
          have := hne h0
          simp; omega
      have hlk : (l.take k).length = k := by rw [List.length_take, Nat.min_eq_left (by have := HL.out; omega)]
      have HLK := Lib.hid hlk
      clear hz hne ht hcells hc hlk
      rcases htest with rfl | ⟨j, rfl, hzb, h1⟩
      · go_wp2_with (at_builtin; go_must (refine wpList_append_own _ rfl _ _ 36 rfl w.heap.size 84 i0 (.int .u64 0) 1 8 Try.underlying36 hi hz0 hz1 hz2 rfl (by decide) _ _ _ rfl (own_empty w w.heap.size (Nat.le_refl _)) ⟨b, off, none⟩ (0) _ ((l.take (0)).map encD) rfl (by have := HLK.out; simp only [List.length_map]; omega) HCE.out (encD_one _) (by unfold maxLen; omega) (by omega) (by simp) ?_); intro v' w1 hown1 hgrow1 _)
        go_ret
        rw [List.nil_append] at hown1
        obtain ⟨A', c', rfl, hl'⟩ := isL_of_own hown1 (hdg.take _)
        have hfr := fresh_of_own hown1
        rw [HT.out] at hl'
        exact ⟨_, _, _, rfl, hl', ((Below.refl _ w).alloc (Nat.le_refl _) _).grown hgrow1 (by simp) (fun q e => by injection (show some w.heap.size = some q from e) with e1; omega), hfr⟩
      · go_wp2_with (at_builtin; go_must (refine wpList_append_own _ rfl _ _ 36 rfl w.heap.size 84 i0 (.int .u64 0) 1 8 Try.underlying36 hi hz0 hz1 hz2 rfl (by decide) _ _ _ rfl (own_empty w w.heap.size (Nat.le_refl _)) ⟨b, off, none⟩ (j + 1) _ ((l.take (j + 1)).map encD) rfl (by have := HLK.out; simp only [List.length_map]; omega) HCE.out (encD_one _) (by unfold maxLen; omega) (by omega) (by simp) ?_); intro v' w1 hown1 hgrow1 _)
        go_ret
        rw [List.nil_append] at hown1
        obtain ⟨A', c', rfl, hl'⟩ := isL_of_own hown1 (hdg.take _)
        have hfr := fresh_of_own hown1
        rw [HT.out] at hl'
        exact ⟨_, _, _, rfl, hl', ((Below.refl _ w).alloc (Nat.le_refl _) _).grown hgrow1 (by simp) (fun q e => by injection (show some w.heap.size = some q from e) with e1; omega), hfr⟩

theorem bare_any (b off n c : Nat) (l : List Nat) (w : World) (h : Lim w.heap.size w (some ⟨b, off, none⟩) n c l) (hn : n ≤ 4294967296) (hc : ∀ j, j < n → w.cell? ⟨b, off + j, none⟩ = some (.int .u64 ((l[j]?.getD 0 : Nat) : Int))) (hb : 0 < n → b < w.heap.size) :
    Calls Try.prog 70 #[.slice (some ⟨b, off, none⟩) n c] w (GotN w (val l)) := (bare_F b off n c l w h hn hc hb).mono fun _ _ h => h.weak

theorem lim_one {x : Nat} (hx : x < B64) (w : World) : Lim (w.alloc (.cells #[.int .u64 (x : Int)] 84)).heap.size (w.alloc (.cells #[.int .u64 (x : Int)] 84)) (some ⟨w.heap.size, 0, none⟩) 1 1 [x] := by
  refine ⟨rfl, Nat.le_refl _, Dig.cons hx Dig.nil, fun _ => ⟨_, _, rfl, by simp, fun j hj => ?_⟩⟩
  obtain rfl : j = 0 := by omega
  exact cell_one_new w _ 84 0 _ rfl

theorem GotN.from {w w1 : World} {x : Nat} {e : Ending} {w' : World} (h : GotN w1 x e w') (hb : Below w.heap.size w w1) : GotN w x e w' := by
  obtain ⟨A, n, c, he, hl, hb'⟩ := h
  exact ⟨A, n, c, he, hl, hb.trans (hb'.mono hb.size)⟩

theorem rof_N (w : World) (x : Nat) (hx : x < B64) : Calls Try.prog 68 #[.int .u64 (x : Int)] w (GotN w x) := by
  have hl := lim_one hx w
  have hv : val [x] = x := by simp [val_cons, val_nil]
  have hB := bare_any w.heap.size 0 1 1 [x] _ hl (by omega) (fun j hj => by
    obtain rfl : j = 0 := by omega
    exact cell_one_new w _ 84 0 _ rfl) (fun _ => by simp)
  rw [hv] at hB
  have HB := Lib.hid hB
  clear hB hl hv
  go_enter Try.func68, Try.ntmps68
  go_wp2_with fail
  refine HB.out.mono ?_
  rintro e w' h
  obtain ⟨A, n, c, rfl, hl, hb⟩ := h.from ((Below.refl _ w).alloc (Nat.le_refl _) _)
  go_wp2_with fail
  go_ret
  exact ⟨A, n, c, rfl, hl, hb⟩

end Go.Proofs.Ytckdbcngnghhiaa

/-
  The contracts of the reference's at, halves and whole.
-/
namespace Go.Proofs.Ytckdbcngnghhiaa
set_option maxRecDepth 100000
set_option maxHeartbeats 2000000
open Go.RowKit

theorem at_any (B : Nat) (A : Option Addr) (n c k : Nat) (l : List Nat) (w : World) (h : Lim B w A n c l) (hn : n ≤ 9223372036854775807) (hk : k ≤ 9223372036854775807) :
    Calls Try.prog 71 #[.slice A n c, .int .i64 k] w fun e w' => e = .returned (.int .u64 ((l[k]?.getD 0 : Nat) : Int)) ∧ w = w' := by
  obtain ⟨hl, hcap, hdg, hc⟩ := h
  by_cases hlt : k < n
  · obtain ⟨b, off, rfl, hb, hcell⟩ := hc (by omega)
    have h1 := hcell k hlt
    clear hcell hc hdg
    have HL := Lib.hid hl
    clear hl
    go_enter Try.func71, Try.ntmps71
    go_wp2
    go_ret
    exact ⟨rfl, rfl⟩
  · have hz : l[k]?.getD 0 = 0 := by rw [List.getElem?_eq_none (by omega)]; rfl
    have HZ := Lib.hid hz
    clear hc hdg hl hz
    go_enter Try.func71, Try.ntmps71
    go_wp2
    go_ret
    exact ⟨by rw [HZ.out]; rfl, rfl⟩

theorem tmod_lo (x : Nat) : ((x : Int)).tmod 4294967296 = (loH x : Int) := by
  unfold loH H32
  rw [Int.tmod_eq_emod_of_nonneg (by omega)]
  omega
theorem wrap_hi {x : Nat} (h : x < B64) : IntKind.u64.wrap ((x : Int) / 4294967296) = (hiH x : Int) := by
  rw [IntKind.wrap_u64]
  unfold hiH H32
  unfold B64 at h
  omega

theorem halves_any (A : Option Addr) (n c : Nat) (l : List Nat) (w : World) (h : Lim w.heap.size w A n c l) (hn : n ≤ 2147483648) :
    Calls Try.prog 51 #[.slice A n c] w fun e w' => ∃ A' c', e = .returned (.slice A' (2 * n) c') ∧ Lim w'.heap.size w' A' (2 * n) c' (halvesL l) ∧ Below w.heap.size w w' := by
  obtain ⟨i0, hi, hz0, hz1, hz2⟩ := info_parts info24
  have HL := Lib.hid h.1
  go_enter Try.func51, Try.ntmps51
  go_wp2
  go_loopw [3, 4] (fun ov iv wr => ∃ k : Nat, k ≤ n ∧ iv = .int .i64 (k : Int) ∧ wr.ownsRow w.heap.size 84 1 ov (2 * k) ((halvesL (l.take k)).map encD) ∧ Below w.heap.size w wr) (fun _ iv _ => n - (intOf iv).toNat)
  case atStart => exact ⟨0, Nat.zero_le _, rfl, own_empty w _ (Nat.le_refl _), (Below.refl _ w).alloc (Nat.le_refl _) _⟩
  case round =>
    obtain ⟨k, hk, rfl, hown, hbl⟩ := hrel
    by_cases hlt : k < n
    · obtain ⟨b, off, rfl, hb, hcell⟩ := (h.below hbl).2.2.2 (by omega)
      have h1 := hcell k hlt
      have hdk : l[k]?.getD 0 < B64 := h.2.2.1.get k
      clear hcell
      have HO := Lib.hid hown
      clear hown
      have hk0 : (0 : Int) ≤ (k : Int) := by omega
      have hkn : (k : Int) < (n : Int) := by omega
      go_wp2
      go_region_law ((refine step_append_lies _ rfl _ _ 35 rfl w.heap.size 84 i0 (.int .u64 0) 1 8 Try.underlying35 hi hz0 hz1 hz2 rfl (by decide) _ _ _ rfl ((HO.out.alloc _).drew) ⟨wr.heap.size, 0, none⟩ 2 2 [.int .u64 (((l[k]?.getD 0 : Nat) : Int).tmod 4294967296), .int .u64 (IntKind.u64.wrap (((l[k]?.getD 0 : Nat) : Int) / 4294967296))] rfl rfl (fun j u h => cell_two_new wr _ _ 84 j u h) (by simp [Value.oneCell']) (by omega) (by unfold maxLen; omega) (by omega) (by simp; have := hbl.size; omega) _ rfl ?_; intro g cap w1 hown1 hgrow1 hat hlt1))
      all_goals
        go_wp2
        go_roundw
        case rel =>
          refine ⟨k + 1, by omega, by go_num, ?_, ?_⟩
          · have e : halvesL (l.take (k + 1)) = halvesL (l.take k) ++ [loH (l[k]?.getD 0), hiH (l[k]?.getD 0)] := by
              have hkl : k < l.length := by have := HL.out; omega
              rw [List.take_succ_eq_append_getElem hkl, halvesL_snoc]
              simp [hkl]
            rw [e, List.map_append]
            rw [tmod_lo, wrap_hi hdk] at hown1
            exact hown1
          · exact (below_drewN (hbl.alloc hbl.size _) 1).grown hgrow1 (by simp; have := hbl.size; omega) (fun q e => (HO.out.lt q e).1)
        case measure => simp [intOf]; omega
    · obtain rfl : k = n := by omega
      go_wp2
      go_ret
      rw [List.take_of_length_le (by have := HL.out; omega)] at hown
      obtain ⟨A', c', rfl, hl'⟩ := isL_of_own hown (halvesL_dig h.2.2.1).dig
      exact ⟨A', c', rfl, hl', hbl⟩

end Go.Proofs.Ytckdbcngnghhiaa

/-
  The contract of the reference's whole: figures of 32 bits as a number.
-/
namespace Go.Proofs.Ytckdbcngnghhiaa
set_option maxRecDepth 100000
open Go.RowKit

theorem bare_limF {g off n c : Nat} {l : List Nat} {w : World} (h : Lim w.heap.size w (some ⟨g, off, none⟩) n c l) (hn : n ≤ 4294967296) : Calls Try.prog 70 #[.slice (some ⟨g, off, none⟩) n c] w (GotNF w (val l)) := by
  refine bare_F g off n c l w h hn (fun j hj => ?_) (fun h0 => ?_)
  · obtain ⟨b, o, e, _, hc⟩ := h.2.2.2 (by omega)
    injection e with e
    injection e with e1 e2
    subst e1; subst e2
    exact hc j hj
  · obtain ⟨b, o, e, hb, _⟩ := h.2.2.2 h0
    injection e with e
    injection e with e1 e2
    omega

theorem bare_lim {g off n c : Nat} {l : List Nat} {w : World} (h : Lim w.heap.size w (some ⟨g, off, none⟩) n c l) (hn : n ≤ 4294967296) : Calls Try.prog 70 #[.slice (some ⟨g, off, none⟩) n c] w (GotN w (val l)) := (bare_limF h hn).mono fun _ _ h => h.weak

theorem wrap_join {a b : Nat} (ha : a < H32) (hb : b < H32) : IntKind.u64.wrap ((a : Int) + IntKind.u64.wrap ((b : Int) * 4294967296)) = (join a b : Int) := by
  have := join_lt ha hb
  simp only [IntKind.wrap_u64]
  unfold join H32 at *
  unfold B64 at this
  omega

set_option maxHeartbeats 2000000 in
theorem whole_F (A : Option Addr) (n c : Nat) (l : List Nat) (w : World) (h : Lim w.heap.size w A n c l) (hd : DigH l) (hn : n ≤ 4294967296) :
    Calls Try.prog 52 #[.slice A n c] w (GotNF w (valH l)) := by
  obtain ⟨i0, hi, hz0, hz1, hz2⟩ := info_parts info24
  have HL := Lib.hid h.1
  go_enter Try.func52, Try.ntmps52
  go_wp2
  go_loopw [3, 4] (fun ov iv wr => ∃ k g cap : Nat, 2 * k ≤ n + 1 ∧ iv = .int .i64 ((2 * k : Nat) : Int) ∧ ov = .slice (some ⟨g, 0, none⟩) k cap ∧ wr.ownsRow w.heap.size 84 1 (.slice (some ⟨g, 0, none⟩) k cap) k ((joinL l k).map encD) ∧ Below w.heap.size w wr) (fun _ iv _ => n - (intOf iv).toNat)
  case atStart => exact ⟨0, w.heap.size, 0, by omega, rfl, rfl, own_empty w _ (Nat.le_refl _), (Below.refl _ w).alloc (Nat.le_refl _) _⟩
  case round =>
    obtain ⟨k, g, cap, hk, rfl, rfl, hown, hbl⟩ := hrel
    by_cases hlt : 2 * k < n
    · obtain ⟨b, off, rfl, hb, hcell⟩ := (h.below hbl).2.2.2 (by omega)
      have h1 := hcell (2 * k) hlt
      have hda : l[2 * k]?.getD 0 < H32 := hd.get _
      have hdb : l[2 * k + 1]?.getD 0 < H32 := hd.get _
      have hgl := hown.lt g rfl
      have HO := Lib.hid hown
      clear hown
      by_cases hlt2 : 2 * k + 1 < n
      · have h2 := hcell (2 * k + 1) hlt2
        clear hcell
        go_wp2_with (at_builtin; refine wpList_append_lies _ rfl _ _ 36 rfl w.heap.size 84 i0 (.int .u64 0) 1 8 Try.underlying36 hi hz0 hz1 hz2 rfl (by decide) _ _ _ rfl (HO.out.alloc _) ⟨wr.heap.size, 0, none⟩ 1 1 [.int .u64 (IntKind.u64.wrap (((l[2 * k]?.getD 0 : Nat) : Int) + IntKind.u64.wrap (((l[2 * k + 1]?.getD 0 : Nat) : Int) * 4294967296)))] rfl rfl (cell_one_new _ _ _) (by simp [Value.oneCell']) (by omega) (by unfold maxLen; omega) (by omega) (by simp; have := hbl.size; omega) _ rfl ?_; intro g1 cap1 w1 hown1 hgrow1 hat hlt1)
        go_roundw
        case rel =>
          refine ⟨k + 1, g1, cap1, by omega, by go_num, rfl, ?_, ?_⟩
          · rw [joinL_succ, List.map_append]
            rw [wrap_join hda hdb] at hown1
            exact hown1
          · exact (hbl.alloc hbl.size _).grown hgrow1 (by simp; have := hbl.size; omega) (fun q e => by injection (show some g = some q from e) with e1; omega)
        case measure => simp [intOf]; omega
      · clear hcell
        have hz1' : l[2 * k + 1]?.getD 0 = 0 := by rw [List.getElem?_eq_none (by have := HL.out; omega)]; rfl
        have HZ := Lib.hid hz1'
        clear hz1'
        go_wp2_with (at_builtin; refine wpList_append_lies _ rfl _ _ 36 rfl w.heap.size 84 i0 (.int .u64 0) 1 8 Try.underlying36 hi hz0 hz1 hz2 rfl (by decide) _ _ _ rfl (HO.out.alloc _) ⟨wr.heap.size, 0, none⟩ 1 1 [.int .u64 ((l[2 * k]?.getD 0 : Nat) : Int)] rfl rfl (cell_one_new _ _ _) (by simp [Value.oneCell']) (by omega) (by unfold maxLen; omega) (by omega) (by simp; have := hbl.size; omega) _ rfl ?_; intro g1 cap1 w1 hown1 hgrow1 hat hlt1)
        go_roundw
        case rel =>
          refine ⟨k + 1, g1, cap1, by omega, by go_num, rfl, ?_, ?_⟩
          · rw [joinL_succ, List.map_append]
            rw [show join (l[2 * k]?.getD 0) (l[2 * k + 1]?.getD 0) = l[2 * k]?.getD 0 from by rw [HZ.out]; simp [join]]
            exact hown1
          · exact (hbl.alloc hbl.size _).grown hgrow1 (by simp; have := hbl.size; omega) (fun q e => by injection (show some g = some q from e) with e1; omega)
        case measure => simp [intOf]; omega
    · have hlim := Lim.of_own hown (joinL_dig hd k)
      have hv : val (joinL l k) = valH l := by rw [joinL_val, List.take_of_length_le (by have := HL.out; omega)]
      have HV := Lib.hid hv
      clear hv hown
      go_wp2_with fail
      refine (bare_limF hlim (by omega)).mono ?_
      rintro e w1 ⟨A1, n1, c1, rfl, hl1, b1, f1⟩
      go_wp2_with fail
      go_ret
      rw [HV.out] at hl1
      exact ⟨A1, n1, c1, rfl, hl1, hbl.trans (b1.mono hbl.size), f1.mono hbl.size⟩

theorem whole_any (A : Option Addr) (n c : Nat) (l : List Nat) (w : World) (h : Lim w.heap.size w A n c l) (hd : DigH l) (hn : n ≤ 4294967296) :
    Calls Try.prog 52 #[.slice A n c] w (GotN w (valH l)) := (whole_F A n c l w h hd hn).mono fun _ _ h => h.weak

end Go.Proofs.Ytckdbcngnghhiaa

/-
  The contract of the reference's Add.
-/
namespace Go.Proofs.Ytckdbcngnghhiaa
set_option maxRecDepth 100000
open Go.RowKit

attribute [local go_sem ↓] mx_run

/-- A call has answered a slice of figures, and nothing that was there has changed. -/
def GotF (w : World) (l : List Nat) (e : Ending) (w' : World) : Prop := ∃ A n c, e = .returned (.slice A n c) ∧ Lim w'.heap.size w' A n c l ∧ Below w.heap.size w w'
theorem halves_F {w : World} {A : Option Addr} {n c x : Nat} (h : Num w A n c x) (hx : (limbs x).length ≤ 2147483648) : Calls Try.prog 51 #[.slice A n c] w (GotF w (halvesL (limbs x))) :=
  (halves_any A n c _ w h (by rw [h.len]; exact hx)).mono fun _ _ ⟨A', c', he, hl, hb⟩ => ⟨A', _, c', he, hl, hb⟩
theorem Lim.on {w w' : World} {A : Option Addr} {n c : Nat} {l : List Nat} (h : Lim w.heap.size w A n c l) (hb : Below w.heap.size w w') : Lim w'.heap.size w' A n c l := (h.below hb).more hb.size

theorem radd_lo (a b c : Nat) : (IntKind.u64.wrap (IntKind.u64.wrap ((a : Int) + (b : Int)) + (c : Int))).tmod 4294967296 = (loH (a + b + c) : Int) := by
  simp only [IntKind.wrap_u64]
  rw [Int.tmod_eq_emod_of_nonneg (by omega)]
  unfold loH H32
  omega
theorem radd_hi {a b c : Nat} (ha : a < H32) (hb : b < H32) (hc : c ≤ 1) : IntKind.u64.wrap ((IntKind.u64.wrap (IntKind.u64.wrap ((a : Int) + (b : Int)) + (c : Int))).tdiv 4294967296) = (hiH (a + b + c) : Int) := by
  simp only [IntKind.wrap_u64]
  rw [Int.tdiv_eq_ediv_of_nonneg (by omega)]
  unfold hiH
  unfold H32 at *
  omega

/-- What has been reckoned when k figures are done: the figures D and the carry c. -/
def AddAt (la lb D : List Nat) (k c : Nat) : Prop := DigH D ∧ D.length = k ∧ c ≤ 1 ∧ valH D + H32 ^ k * c = valH (la.take k) + valH (lb.take k)
theorem AddAt.start (la lb : List Nat) : AddAt la lb [] 0 0 := ⟨DigH.nil, rfl, by omega, by simp [valH_nil]⟩
theorem AddAt.step {la lb D : List Nat} {k c : Nat} (ha : DigH la) (hb : DigH lb) (h : AddAt la lb D k c) :
    AddAt la lb (D ++ [loH (la[k]?.getD 0 + lb[k]?.getD 0 + c)]) (k + 1) (hiH (la[k]?.getD 0 + lb[k]?.getD 0 + c)) := by
  obtain ⟨h1, h2, h3, h4⟩ := h
  refine ⟨h1.snoc (loH_lt _), by simp [h2], div_le_one (ha.get k) (hb.get k) h3, ?_⟩
  rw [valH_snoc, h2, valH_take_succ, valH_take_succ, Nat.pow_succ, Nat.mul_assoc]
  have hs := half_split (la[k]?.getD 0 + lb[k]?.getD 0 + c)
  generalize loH (la[k]?.getD 0 + lb[k]?.getD 0 + c) = lo at *
  generalize hiH (la[k]?.getD 0 + lb[k]?.getD 0 + c) = hi at *
  have h5 : H32 ^ k * lo + H32 ^ k * (H32 * hi) = H32 ^ k * la[k]?.getD 0 + H32 ^ k * lb[k]?.getD 0 + H32 ^ k * c := by
    rw [← Nat.mul_add, hs, Nat.mul_add, Nat.mul_add]
  omega
theorem AddAt.done {la lb D : List Nat} {c N : Nat} (ha : DigH la) (hb : DigH lb) (hN : max la.length lb.length ≤ N) (h : AddAt la lb D (N + 1) c) : valH D = valH la + valH lb := by
  obtain ⟨h1, h2, h3, h4⟩ := h
  rw [List.take_of_length_le (by omega), List.take_of_length_le (by omega)] at h4
  have h5 := Nat.lt_of_lt_of_le (valH_lt ha) (Nat.pow_le_pow_right (n := H32) H32_pos (show la.length ≤ N by omega))
  have h6 := Nat.lt_of_lt_of_le (valH_lt hb) (Nat.pow_le_pow_right (n := H32) H32_pos (show lb.length ≤ N by omega))
  have hc : c = 0 ∨ c = 1 := by omega
  have hg : 2 ≤ H32 := by have := H32_gt; omega
  rw [Nat.pow_succ] at h4
  generalize H32 ^ N = P at *
  generalize H32 = Q at *
  have h8 : P * 2 ≤ P * Q := Nat.mul_le_mul_left _ hg
  rcases hc with rfl | rfl
  · rw [Nat.mul_zero, Nat.add_zero] at h4; exact h4
  · rw [Nat.mul_one] at h4; omega

set_option maxHeartbeats 4000000 in
theorem radd_F {w : World} {A B : Option Addr} {n c m d x y : Nat} (ha : Num w A n c x) (hb : Num w B m d y) (hx : (limbs x).length ≤ 1000000) (hy : (limbs y).length ≤ 1000000) : Calls Try.prog 48 #[.slice A n c, .slice B m d] w (GotNF w (x + y)) := by
  obtain ⟨i0, hi, hz0, hz1, hz2⟩ := info_parts info24
  go_enter Try.func48, Try.ntmps48
  go_wp2_with fail
  refine (halves_F ha (by omega)).mono ?_
  rintro e w1 ⟨A1, n1, c1, rfl, h1, b1⟩
  go_wp2_with fail
  refine (halves_F (hb.on b1) (by omega)).mono ?_
  rintro e w2 ⟨A2, n2, c2, rfl, h2, b2⟩
  replace h1 := h1.on b2
  have cc := b1.trans (b2.mono b1.size)
  clear b1 b2 ha hb
  have hv1 : valH (halvesL (limbs x)) = x := by rw [halvesL_val, val_limbs]
  have hv2 : valH (halvesL (limbs y)) = y := by rw [halvesL_val, val_limbs]
  have hd1 := halvesL_dig (limbs_dig x)
  have hd2 := halvesL_dig (limbs_dig y)
  have hn1 : n1 ≤ 2000000 := by have := h1.1; rw [halvesL_length] at this; omega
  have hn2 : n2 ≤ 2000000 := by have := h2.1; rw [halvesL_length] at this; omega
  have hE : valH (halvesL (limbs x)) + valH (halvesL (limbs y)) = x + y := by rw [hv1, hv2]
  have HE := Lib.hid hE
  clear hv1 hv2 hx hy hE
  generalize halvesL (limbs x) = la at *
  generalize halvesL (limbs y) = lb at *
  have hmx : mx n1 n2 ≤ 2000000 := by unfold mx; omega
  have hmm : max la.length lb.length ≤ mx n1 n2 := by have := h1.1; have := h2.1; unfold mx; omega
  have HM := Lib.hid hmm
  clear hmm
  go_wp2_with fail
  go_loopw [7, 8, 9] (fun ov cv iv wr => ∃ (k : Nat) (v : Nat) (D : List Nat) (g cap : Nat), k ≤ mx n1 n2 + 1 ∧ iv = .int .i64 (k : Int) ∧ cv = .int .u64 (v : Int) ∧ ov = .slice (some ⟨g, 0, none⟩) k cap ∧ AddAt la lb D k v ∧ wr.ownsRow w2.heap.size 84 1 (.slice (some ⟨g, 0, none⟩) k cap) k (D.map encD) ∧ Below w2.heap.size w2 wr) (fun _ _ iv _ => mx n1 n2 + 1 - (intOf iv).toNat)
  case atStart => exact ⟨0, 0, [], w2.heap.size, 0, by omega, rfl, rfl, rfl, AddAt.start _ _, own_empty w2 _ (Nat.le_refl _), (Below.refl _ w2).alloc (Nat.le_refl _) _⟩
  case round =>
    obtain ⟨k, v, D, g, cap, hk, rfl, rfl, rfl, hA, hown, hbl⟩ := hrel
    by_cases hlt : k < mx n1 n2 + 1
    · have hp := hd1.get k
      have hq := hd2.get k
      have hv1 : v ≤ 1 := hA.2.2.1
      have hgl := hown.lt g rfl
      have HA := Lib.hid hA
      have HO := Lib.hid hown
      clear hA hown
      go_wp2_with fail
      refine (at_any _ _ _ _ _ _ _ (h1.on hbl) (by omega) (by omega)).mono ?_
      rintro e w3 ⟨rfl, rfl⟩
      go_wp2_with fail
      refine (at_any _ _ _ _ _ _ _ (h2.on hbl) (by omega) (by omega)).mono ?_
      rintro e w3 ⟨rfl, rfl⟩
      go_wp2_with (at_builtin; refine wpList_append_lies _ rfl _ _ 35 rfl w2.heap.size 84 i0 (.int .u64 0) 1 8 Try.underlying35 hi hz0 hz1 hz2 rfl (by decide) _ _ _ rfl (HO.out.alloc _) ⟨wr.heap.size, 0, none⟩ 1 1 [.int .u64 ((IntKind.u64.wrap (IntKind.u64.wrap (((la[k]?.getD 0 : Nat) : Int) + ((lb[k]?.getD 0 : Nat) : Int)) + (v : Int))).tmod 4294967296)] rfl rfl (cell_one_new _ _ _) (by simp [Value.oneCell']) (by omega) (by unfold maxLen; omega) (by omega) (by simp; have := hbl.size; omega) _ rfl ?_; intro g1 cap1 w4 hown1 hgrow1 hat hlt1)
      go_roundw
      case rel =>
        refine ⟨k + 1, hiH (la[k]?.getD 0 + lb[k]?.getD 0 + v), _, g1, cap1, by omega, by go_num, by rw [radd_hi hp hq hv1], rfl, HA.out.step hd1 hd2, ?_, ?_⟩
        · rw [radd_lo] at hown1
          rw [List.map_append]
          exact hown1
        · exact (hbl.alloc hbl.size _).grown hgrow1 (by simp; have := hbl.size; omega) (fun q e => by injection (show some g = some q from e) with e1; omega)
      case measure => simp [intOf]; omega
    · obtain rfl : k = mx n1 n2 + 1 := by omega
      have hlim := Lim.of_own hown hA.1.dig
      have hD := hA.1
      have hval := hA.done hd1 hd2 HM.out
      rw [HE.out] at hval
      have HV := Lib.hid hval
      clear hval hA hown
      go_wp2_with fail
      refine (whole_F _ _ _ _ _ hlim hD (by omega)).mono ?_
      rintro e w3 ⟨A3, n3, c3, rfl, h3, b3, f3⟩
      go_wp2_with fail
      go_ret
      rw [HV.out] at h3
      exact ⟨A3, n3, c3, rfl, h3, cc.trans ((hbl.trans (b3.mono hbl.size)).mono cc.size), f3.mono (Nat.le_trans cc.size hbl.size)⟩

theorem radd_N {w : World} {A B : Option Addr} {n c m d x y : Nat} (ha : Num w A n c x) (hb : Num w B m d y) (hx : (limbs x).length ≤ 1000000) (hy : (limbs y).length ≤ 1000000) : Calls Try.prog 48 #[.slice A n c, .slice B m d] w (GotN w (x + y)) := (radd_F ha hb hx hy).mono fun _ _ h => h.weak

end Go.Proofs.Ytckdbcngnghhiaa
