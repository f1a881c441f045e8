/-
  Several texts in one: RCmp, Given, N, Alive, Row, Fr, FrR, FrA, FrI, B1, RB, FrB, B2, B3, B4, B5, M10, MathH, MathD, MathQ, Bare, Halves, Whole, RAdd.
-/
import Derived.BigQuiet
import Derived.WalkSmall
import Derived.Deep.QuietTactic
import Derived.Test.YtpephogadljncaaGreatA1
import Derived.OpenShut
import Derived.Laws.Rows
import Derived.WalkKit
import Derived.ProofKit
import Derived.ShutString
import Derived.ChangeOld
import Derived.Below
import Derived.Lib.SmallJoins
import Derived.WalkSpells
import Derived.WalkLawsBesides
import Derived.Lib.Hide
import Derived.Lib.SliceRun
import Derived.Deep.RegionHeld3
import Derived.Deep.AppendLies
import Derived.Deep.DeepCutAuto
import Derived.Deep.CutBlock
import Derived.Deep.Draws
import Derived.Laws.OwnMore
import Derived.Test.YtpephogadljncaaGreatRows
import Derived.SizedLaws
import Derived.Deep.RegionLaw

/-
  The contracts of the reference's Cmp and Same.
-/
namespace Go.Proofs.YtpephogadljncaaGreat
set_option maxRecDepth 100000
open Go.RowKit

/-- Digits that are the same above a place: the digit there tells. -/
theorem lt_of_top {la lb : List Nat} (ha : Dig la) {i : Nat} (hs : ∀ j, i < j → la[j]?.getD 0 = lb[j]?.getD 0) (h : la[i]?.getD 0 < lb[i]?.getD 0) : val la < val lb := by
  have key : ∀ k, val (la.take (i + 1 + k)) < val (lb.take (i + 1 + k)) := by
    intro k
    induction k with
    | zero =>
      rw [Nat.add_zero, val_take_succ, val_take_succ]
      exact cmpN_top (Nat.lt_of_lt_of_le (val_lt (ha.take i)) (Nat.pow_le_pow_right B64_pos (List.length_take_le _ _))) h
    | succ k ih =>
      rw [← Nat.add_assoc, val_take_succ, val_take_succ, hs (i + 1 + k) (by omega)]
      omega
  have h1 := key (la.length + lb.length)
  rwa [List.take_of_length_le (by omega), List.take_of_length_le (by omega)] at h1

theorem eq_of_all {la lb : List Nat} (hl : la.length = lb.length) (hs : ∀ j : Nat, la[j]?.getD 0 = lb[j]?.getD 0) : la = lb := by
  apply List.ext_getElem hl
  intro i h1 h2
  have := hs i
  simpa [h1, h2] using this

theorem lt_of_len {x y : Nat} (h : (limbs x).length < (limbs y).length) : x < y := by
  rcases Nat.lt_or_ge x y with h1 | h1
  · exact h1
  · have := limbs_length_mono h1; omega

theorem cmpN_lt {x y : Nat} (h : x < y) : cmpN x y = -1 := by simp [cmpN, h]
theorem cmpN_gt {x y : Nat} (h : y < x) : cmpN x y = 1 := by unfold cmpN; rw [if_neg (by omega), if_pos h]
theorem cmpN_eq (x : Nat) : cmpN x x = 0 := by simp [cmpN]
theorem cmpN_zero {x y : Nat} : cmpN x y = 0 ↔ x = y := by
  unfold cmpN
  split
  · constructor <;> intro h <;> omega
  · split
    · constructor <;> intro h <;> omega
    · constructor <;> intro h <;> omega

def CmpPost (w : World) (x y : Nat) (e : Ending) (w' : World) : Prop := e = .returned (.int .i64 (cmpN x y)) ∧ Below w.heap.size w w'

set_option maxHeartbeats 1000000 in
theorem rcmp_lim (A B : Option Addr) (n c m d x y : Nat) (w : World) (ha : Lim w.heap.size w A n c (limbs x)) (hb : Lim w.heap.size w B m d (limbs y)) (hn : n ≤ 4294967296) (hm : m ≤ 4294967296) :
    Calls Tryz.prog 25 #[.slice A n c, .slice B m d] w (CmpPost w x y) := by
  rcases Nat.lt_trichotomy n m with h | h | h
  · have hv : cmpN x y = -1 := cmpN_lt (lt_of_len (by rw [← ha.1, ← hb.1]; exact h))
    have HV := Lib.hid hv
    have hne : ((n : Int) != (m : Int)) = true := by simp; omega
    clear hv ha hb
    go_enter Tryz.func25, Tryz.ntmps25
    go_wp2
    go_ret
    exact ⟨by rw [HV.out]; rfl, Below.refl _ _⟩
  · subst h
    have hla := Lib.hid ha.1
    have hlb := Lib.hid hb.1
    go_enter Tryz.func25, Tryz.ntmps25
    go_wp2
    go_loopw [5] (fun iv wr => ∃ (k : Nat), iv = .int .i64 ((k : Int) - 1) ∧ k ≤ n ∧ (∀ j, k ≤ j → Hid ((limbs x)[j]?.getD 0 = (limbs y)[j]?.getD 0)) ∧ Below w.heap.size w wr) (fun iv _ => (intOf iv + 1).toNat)
    case atStart => exact ⟨n, rfl, Nat.le_refl _, fun j hj => by rw [List.getElem?_eq_none (by have := hla.out; omega), List.getElem?_eq_none (by have := hlb.out; omega)]; exact Lib.hid rfl, Below.refl _ _⟩
    case round =>
      obtain ⟨k, rfl, hk, hs, hbl⟩ := hrel
      by_cases h0 : k = 0
      · subst h0
        have he : x = y := limbs_inj (eq_of_all (by rw [← hla.out, ← hlb.out]) fun j => (hs j (Nat.zero_le _)).out)
        have HE := Lib.hid he
        clear he
        go_wp2
        go_ret
        exact ⟨by rw [HE.out, cmpN_eq]; rfl, hbl⟩
      · obtain ⟨i, hi⟩ : ∃ i, k = i + 1 := ⟨k - 1, by omega⟩
        subst hi
        obtain ⟨b1, o1, rfl, hb1, hc1⟩ := (ha.below hbl).2.2.2 (by omega)
        obtain ⟨b2, o2, rfl, hb2, hc2⟩ := (hb.below hbl).2.2.2 (by omega)
        have g1 := hc1 i (by omega)
        have g2 := hc2 i (by omega)
        have hsi : ∀ j, i < j → (limbs x)[j]?.getD 0 = (limbs y)[j]?.getD 0 := fun j hj => (hs j hj).out
        have HSI := Lib.hid hsi
        clear hc1 hc2 hsi
        have e1 : ((i + 1 : Nat) : Int) - 1 = (i : Int) := by omega
        rw [e1]
        clear e1
        have hi0 : (0 : Int) ≤ (i : Int) := by omega
        have hin : (i : Int) < (n : Int) := by omega
        rcases Nat.lt_trichotomy ((limbs x)[i]?.getD 0) ((limbs y)[i]?.getD 0) with h1 | h1 | h1
        · have hv := cmpN_lt (lt_of_top (limbs_dig x) HSI.out h1)
          rw [val_limbs, val_limbs] at hv
          have HV := Lib.hid hv
          clear hv
          go_wp2
          go_quiet (fail)
          go_wp2
          go_ret
          exact ⟨by rw [HV.out]; rfl, below_drewN hbl _⟩
        · have n1 : ¬ (limbs x)[i]?.getD 0 < (limbs y)[i]?.getD 0 := by omega
          have n2 : ¬ (limbs y)[i]?.getD 0 < (limbs x)[i]?.getD 0 := by omega
          have HE := Lib.hid h1
          clear h1
          go_wp2
          go_quiet (fail)
          go_wp2
          go_quiet (fail)
          go_wp2
          go_roundw
          case rel => exact ⟨i, by go_num, by omega, fun j hj => by
            rcases Nat.eq_or_lt_of_le hj with e | e
            · subst e; exact Lib.hid HE.out
            · exact Lib.hid (HSI.out j e), below_drewN hbl _⟩
          case measure => simp [intOf]
        · have n1 : ¬ (limbs x)[i]?.getD 0 < (limbs y)[i]?.getD 0 := by omega
          have hv := cmpN_gt (lt_of_top (limbs_dig y) (fun j hj => (HSI.out j hj).symm) h1)
          rw [val_limbs, val_limbs] at hv
          have HV := Lib.hid hv
          clear hv
          go_wp2
          go_quiet (fail)
          go_wp2
          go_quiet (fail)
          go_wp2
          go_ret
          exact ⟨by rw [HV.out]; rfl, below_drewN (below_drewN hbl _) _⟩
  · have hv : cmpN x y = 1 := cmpN_gt (lt_of_len (by rw [← ha.1, ← hb.1]; exact h))
    have HV := Lib.hid hv
    have hne : ((n : Int) != (m : Int)) = true := by simp; omega
    have hnl : ¬ (n < m) := by omega
    clear hv ha hb
    go_enter Tryz.func25, Tryz.ntmps25
    go_wp2
    go_ret
    exact ⟨by rw [HV.out]; rfl, Below.refl _ _⟩

/-- Same: are the numbers the same? -/
theorem same_lim (A B : Option Addr) (n c m d x y : Nat) (r : Bool) (w : World) (ha : Lim w.heap.size w A n c (limbs x)) (hb : Lim w.heap.size w B m d (limbs y)) (hn : n ≤ 4294967296) (hm : m ≤ 4294967296) (hr : decide (x = y) = r) :
    Calls Tryz.prog 10 #[.slice A n c, .slice B m d] w fun e w' => e = .returned (.bool r) ∧ Below w.heap.size w w' := by
  have HR := Lib.hid hr
  clear hr
  go_enter Tryz.func10, Tryz.ntmps10
  go_wp2_with (go_at_call 25; refine (rcmp_lim _ _ _ _ _ _ x y _ ha hb hn hm).mono ?_; rintro e w' ⟨rfl, hbl⟩)
  go_ret
  refine ⟨ret_bool ?_, hbl⟩
  rw [← HR.out, Bool.eq_iff_iff]
  simp [cmpN_zero]

end Go.Proofs.YtpephogadljncaaGreat

/-
  The contract of the law's 'given': are all numbers right, and of few limbs?
-/
namespace Go.Proofs.YtpephogadljncaaGreat
open Go.RowKit

/-- A slice that came in: its address, length, capacity and digits. -/
structure Arg where
  ad : Option Addr
  n : Nat
  c : Nat
  l : List Nat
def Arg.v (a : Arg) : Value := .slice a.ad a.n a.c
def Arg.isIn (a : Arg) (w : World) : Prop := Lim w.heap.size w a.ad a.n a.c a.l ∧ a.n ≤ 9223372036854775807
/-- It is right, and of few limbs. -/
def Arg.ok (a : Arg) : Bool := decide (a.n ≤ 20) && canon a.l

end Go.Proofs.YtpephogadljncaaGreat

/-
  The contracts of package nat in one style, over numbers: each argument is a slice that holds a number's digits; each answer is one.
-/
namespace Go.Proofs.YtpephogadljncaaGreat
set_option maxRecDepth 100000
open Go.RowKit

/-- The slice holds the number's digits. -/
def Num (w : World) (A : Option Addr) (n c x : Nat) : Prop := Lim w.heap.size w A n c (limbs x)
theorem Num.on {w w' : World} {A : Option Addr} {n c x : Nat} (h : Num w A n c x) (hb : Below w.heap.size w w') : Num w' A n c x := (Lim.below h hb).more hb.size
theorem Num.len {w : World} {A : Option Addr} {n c x : Nat} (h : Num w A n c x) : n = (limbs x).length := h.1

/-- Digits are kept where a cell that is none is written. -/
theorem Num.set_other {w : World} {A : Option Addr} {n c x : Nat} {p : Addr} {u v : Value} (h : Num w A n c x) (hp : w.cell? p = some u) (hu : ∀ k i, u ≠ .int k i) : Num (w.setCell p v) A n c x := by
  refine ⟨h.1, h.2.1, h.2.2.1, fun h0 => ?_⟩
  obtain ⟨b, off, e, hb, hc⟩ := h.2.2.2 h0
  refine ⟨b, off, e, by simpa using hb, fun j hj => ?_⟩
  have hne : p ≠ ⟨b, off + j, none⟩ := fun e2 => by
    have h2 := hc j hj
    rw [← e2, hp] at h2
    injection h2 with h3
    exact hu _ _ h3
  rw [World.cell?_setCell_other (h := hne)]
  exact hc j hj

/-- A call has answered a number, in new memory or old, and nothing that was there has changed. -/
def GotN (w : World) (x : Nat) (e : Ending) (w' : World) : Prop := ∃ A n c, e = .returned (.slice A n c) ∧ Num w' A n c x ∧ Below w.heap.size w w'
/-- A call has answered a value that is known, and nothing that was there has changed. -/
def GotV (w : World) (v : Value) (e : Ending) (w' : World) : Prop := e = .returned v ∧ Below w.heap.size w w'
/-- A call has answered a number and a code. -/
def GotP (w : World) (x : Nat) (r : Int) (e : Ending) (w' : World) : Prop := ∃ A n c, e = .returned (.tuple #[.slice A n c, .int .i64 r]) ∧ Num w' A n c x ∧ Below w.heap.size w w'

theorem gotN_of {w w' : World} {x : Nat} {e : Ending} (h : ∃ v, e = .returned v ∧ IsN w' v x ∧ Below w.heap.size w w') : GotN w x e w' := by
  obtain ⟨v, rfl, ⟨A, n, c, rfl, hl⟩, hb⟩ := h
  exact ⟨A, n, c, rfl, hl, hb⟩

section
variable {w : World} {A B : Option Addr} {n c m d x y : Nat}

theorem add_N (ha : Num w A n c x) (hb : Num w B m d y) (hx : (limbs x).length ≤ 2147483648) (hy : (limbs y).length ≤ 2147483648) : Calls Tryz.prog 27 #[.slice A n c, .slice B m d] w (GotN w (x + y)) :=
  (add_lim A B n c m d x y w ha hb (by rw [ha.len]; omega) (by rw [hb.len]; omega)).mono fun _ _ h => gotN_of h
theorem mul_N (ha : Num w A n c x) (hb : Num w B m d y) (hx : (limbs x).length ≤ 2147483648) (hy : (limbs y).length ≤ 2147483648) : Calls Tryz.prog 28 #[.slice A n c, .slice B m d] w (GotN w (x * y)) :=
  (mul_lim A B n c m d _ _ w ha hb (by rw [ha.len]; omega) (by rw [hb.len]; omega)).mono fun _ _ h => by rw [val_limbs, val_limbs] at h; exact gotN_of h
theorem sub_N (ha : Num w A n c x) (hb : Num w B m d y) (hx : (limbs x).length ≤ 2147483648) (hy : (limbs y).length ≤ 2147483648) (h : y ≤ x) : Calls Tryz.prog 44 #[.slice A n c, .slice B m d] w (GotP w (x - y) 0) :=
  (sub_lim A B n c m d x y w ha hb (by rw [ha.len]; omega) (by rw [hb.len]; omega)).mono fun _ _ ⟨v, r, he, hp, hbl⟩ => by
    rcases hp with ⟨_, rfl, A', n', c', rfl, hl⟩ | ⟨h2, _⟩
    · exact ⟨A', n', c', he, hl, hbl⟩
    · omega
theorem sub_less_N (ha : Num w A n c x) (hb : Num w B m d y) (hx : (limbs x).length ≤ 2147483648) (hy : (limbs y).length ≤ 2147483648) (h : x < y) : Calls Tryz.prog 44 #[.slice A n c, .slice B m d] w (GotV w (.tuple #[.slice none 0 0, .int .i64 2])) :=
  (sub_lim A B n c m d x y w ha hb (by rw [ha.len]; omega) (by rw [hb.len]; omega)).mono fun _ _ ⟨v, r, he, hp, hbl⟩ => by
    rcases hp with ⟨h2, _⟩ | ⟨_, rfl, rfl⟩
    · omega
    · exact ⟨he, hbl⟩
theorem cmp_N (ha : Num w A n c x) (hb : Num w B m d y) (hx : (limbs x).length ≤ 2147483648) (hy : (limbs y).length ≤ 2147483648) : Calls Tryz.prog 33 #[.slice A n c, .slice B m d] w (GotV w (.int .i64 (cmpN x y))) :=
  (cmp_lists A B n c m d _ _ w ha hb (by rw [ha.len]; omega) (by rw [hb.len]; omega)).mono fun _ _ h => by rw [val_limbs, val_limbs] at h; exact h
theorem rcmp_N (ha : Num w A n c x) (hb : Num w B m d y) (hx : (limbs x).length ≤ 2147483648) (hy : (limbs y).length ≤ 2147483648) : Calls Tryz.prog 25 #[.slice A n c, .slice B m d] w (GotV w (.int .i64 (cmpN x y))) :=
  (rcmp_lim A B n c m d x y w ha hb (by rw [ha.len]; omega) (by rw [hb.len]; omega)).mono fun _ _ h => h
theorem same_N (ha : Num w A n c x) (hb : Num w B m d y) (hx : (limbs x).length ≤ 2147483648) (hy : (limbs y).length ≤ 2147483648) (h : x = y) : Calls Tryz.prog 10 #[.slice A n c, .slice B m d] w (GotV w (.bool true)) :=
  (same_lim A B n c m d x y true w ha hb (by rw [ha.len]; omega) (by rw [hb.len]; omega) (by simp [h])).mono fun _ _ h => h
theorem same_not_N (ha : Num w A n c x) (hb : Num w B m d y) (hx : (limbs x).length ≤ 2147483648) (hy : (limbs y).length ≤ 2147483648) (h : x ≠ y) : Calls Tryz.prog 10 #[.slice A n c, .slice B m d] w (GotV w (.bool false)) :=
  (same_lim A B n c m d x y false w ha hb (by rw [ha.len]; omega) (by rw [hb.len]; omega) (by simp [h])).mono fun _ _ h => h
theorem rright_N (ha : Num w A n c x) (hx : (limbs x).length ≤ 2147483648) : Calls Tryz.prog 5 #[.slice A n c] w (GotV w (.bool true)) :=
  (rright_any _ A n c _ true w ha (by rw [ha.len]; omega) (limbs_canon x)).mono fun _ _ ⟨he, hw⟩ => ⟨he, by rw [← hw]; exact Below.refl _ _⟩
theorem bits_N (ha : Num w A n c x) (hx : (limbs x).length ≤ 2147483648) : Calls Tryz.prog 115 #[.slice A n c] w (GotV w (.int .i64 (blen x : Int))) :=
  (bits_any A n c x w ha (by rw [ha.len]; omega)).mono fun _ _ ⟨he, hw⟩ => ⟨he, by rw [← hw]; exact Below.refl _ _⟩
theorem rbits_N (ha : Num w A n c x) (hx : (limbs x).length ≤ 2147483648) : Calls Tryz.prog 68 #[.slice A n c] w (GotV w (.int .i64 (blen x : Int))) :=
  (rbits_any A n c x w ha (by rw [ha.len]; omega)).mono fun _ _ ⟨he, hw⟩ => ⟨he, by rw [← hw]; exact Below.refl _ _⟩
theorem of_N (w : World) (x : Nat) (hx : x < B64) : Calls Tryz.prog 32 #[.int .u64 (x : Int)] w (GotN w x) :=
  (of_any x w hx).mono fun _ _ h => gotN_of h
theorem small_N (ha : Num w A n c x) (hx : x < B64) : Calls Tryz.prog 102 #[.slice A n c] w (GotV w (.tuple #[.int .u64 (x : Int), .bool true])) :=
  (small_any A n c x w ha (by have := (isN_small ha).2 hx; omega) hx).mono fun _ _ ⟨he, hw⟩ => ⟨he, by rw [← hw]; exact Below.refl _ _⟩
end

theorem limbs_B64 : limbs B64 = [0, 1] := by
  rw [limbs_pos (by have := B64_pos; omega), Nat.mod_self, Nat.div_self B64_pos, limbs_one (by omega) B64_gt]
theorem limbs_B64_sq : limbs (B64 * B64) = [0, 0, 1] := by
  rw [limbs_pos (by have := Nat.mul_pos B64_pos B64_pos; omega), Nat.mul_mod_left, Nat.mul_div_cancel _ B64_pos, limbs_B64]
theorem blen_B64 : blen B64 = 65 := blen_eq (k := 64) (by rw [show (2 : Nat) ^ 64 = B64 from rfl]; exact Nat.le_refl _) (by rw [show (2 : Nat) ^ (64 + 1) = B64 * 2 from rfl]; have := B64_pos; omega)

end Go.Proofs.YtpephogadljncaaGreat

/-
  The contract of the law's 'alive': it answers true.
-/
namespace Go.Proofs.YtpephogadljncaaGreat
set_option maxRecDepth 100000
open Go.RowKit

theorem seven_lt : (7 : Nat) < B64 := by unfold B64; omega
theorem of_one (w : World) : Calls Tryz.prog 32 #[.int .u64 1] w (GotN w 1) := of_N w 1 B64_gt
theorem of_seven (w : World) : Calls Tryz.prog 32 #[.int .u64 7] w (GotN w 7) := of_N w 7 seven_lt
theorem small_seven {w : World} {A : Option Addr} {n c : Nat} (ha : Num w A n c 7) : Calls Tryz.prog 102 #[.slice A n c] w (GotV w (.tuple #[.int .u64 7, .bool true])) := small_N (x := 7) ha seven_lt
theorem top_digit (w : World) : Num (w.alloc (.cells #[.int .u64 18446744073709551615] 37)) (some ⟨w.heap.size, 0, none⟩) 1 1 (B64 - 1) := by
  obtain ⟨A, n, c, e, hl⟩ := isN_new (x := B64 - 1) (by have := B64_gt; omega) (by have := B64_gt; omega) w 37
  injection e with e1 e2 e3
  subst e1; subst e2; subst e3
  exact hl
theorem len_small {x k : Nat} (h : x < B64 ^ k) (hk : k ≤ 2147483648) : (limbs x).length ≤ 2147483648 := Nat.le_trans (limbs_length_le h) hk
theorem cmp_seven {w : World} {A B : Option Addr} {n c m d : Nat} (ha : Num w A n c B64) (hb : Num w B m d 7) : Calls Tryz.prog 33 #[.slice A n c, .slice B m d] w (GotV w (.int .i64 1)) := by
  have h := cmp_N ha hb (by rw [limbs_B64]; simp) (len_small (k := 1) (by unfold B64; omega) (by omega))
  rwa [cmpN_gt (by unfold B64; omega)] at h
theorem bits_B64 {w : World} {A : Option Addr} {n c : Nat} (ha : Num w A n c B64) : Calls Tryz.prog 115 #[.slice A n c] w (GotV w (.int .i64 65)) := by
  have h := bits_N ha (by rw [limbs_B64]; simp)
  rwa [blen_B64] at h

end Go.Proofs.YtpephogadljncaaGreat

/-
  A slice of integers that came in, as a list of digits; and what the laws' tests of what is given lead to.
-/
namespace Go.Proofs.YtpephogadljncaaGreat
set_option maxRecDepth 100000
open Go.RowKit

theorem block_lt {w : World} {b o : Nat} {v : Value} (h : w.cell? ⟨b, o, none⟩ = some v) : b < w.heap.size := by
  rcases Nat.lt_or_ge b w.heap.size with h1 | h1
  · exact h1
  · simp [World.cell?, Array.getElem?_eq_none h1] at h

theorem arg_of_row {w : World} {a : Option Addr} {len cap : Nat} {zs : List Int}
    (h : (a = none ∧ len = 0 ∧ cap = 0 ∧ zs = []) ∨ ∃ x, a = some x ∧ len ≤ cap ∧ cap ≤ maxLen ∧ zs.length = cap ∧ (∀ i, i < zs.length → w.cell? (x.add i) = some (.int .u64 (zs.getD i 0))) ∧ ∀ n ∈ zs, (Lit.int .u64 n).wf = true) :
    ∃ l, Lim w.heap.size w a len cap l ∧ len ≤ 9223372036854775807 := by
  rcases h with ⟨rfl, rfl, rfl, rfl⟩ | ⟨x, rfl, hl, hm, hz, hc, hw⟩
  · exact ⟨[], Lim.nil _ _ _ _, by omega⟩
  · refine ⟨(zs.take len).map Int.toNat, ⟨by simp; omega, hl, ?_, fun h0 => ?_⟩, by unfold maxLen at hm; omega⟩
    · intro y hy
      obtain ⟨z, hz1, rfl⟩ := List.mem_map.1 hy
      have := bounds_u64 (hw z (List.mem_of_mem_take hz1))
      unfold B64
      omega
    · obtain ⟨b, off, rfl, hcell⟩ := ints_at hc (by omega)
      refine ⟨b, off, rfl, block_lt (hcell 0 (by omega)), fun j hj => ?_⟩
      rw [hcell j (by omega)]
      have hb := bounds_u64 (hw (zs[j]'(by omega)) (List.getElem_mem _))
      have hj2 : j < zs.length := by omega
      rw [List.getElem?_map, List.getElem?_take_of_lt hj, List.getElem?_eq_getElem hj2]
      simp only [List.getD_eq_getElem?_getD, List.getElem?_eq_getElem hj2, Option.getD_some, Option.map_some]
      rw [Int.toNat_of_nonneg hb.1]

theorem num_zero (w : World) : Num w none 0 0 0 := by
  unfold Num
  rw [limbs_zero]
  exact Lim.nil _ _ _ _

section
variable {w : World} {A B : Option Addr} {n c m d x y : Nat}
theorem cmp_lt_N (ha : Num w A n c x) (hb : Num w B m d y) (hx : (limbs x).length ≤ 2147483648) (hy : (limbs y).length ≤ 2147483648) (h : x < y) : Calls Tryz.prog 33 #[.slice A n c, .slice B m d] w (GotV w (.int .i64 (-1))) := by
  have := cmp_N ha hb hx hy
  rwa [cmpN_lt h] at this
theorem cmp_gt_N (ha : Num w A n c x) (hb : Num w B m d y) (hx : (limbs x).length ≤ 2147483648) (hy : (limbs y).length ≤ 2147483648) (h : y < x) : Calls Tryz.prog 33 #[.slice A n c, .slice B m d] w (GotV w (.int .i64 1)) := by
  have := cmp_N ha hb hx hy
  rwa [cmpN_gt h] at this
theorem cmp_eq_N (ha : Num w A n c x) (hb : Num w B m d y) (hx : (limbs x).length ≤ 2147483648) (hy : (limbs y).length ≤ 2147483648) (h : x = y) : Calls Tryz.prog 33 #[.slice A n c, .slice B m d] w (GotV w (.int .i64 0)) := by
  have := cmp_N ha hb hx hy
  rwa [cmpN_zero.2 h] at this
end

/-- Digits that are right are a number's own. -/
theorem Lim.num {w : World} {A : Option Addr} {n c : Nat} {l : List Nat} (h : Lim w.heap.size w A n c l) (hc : canon l = true) : Num w A n c (val l) := by
  unfold Num
  rw [limbs_val h.2.2.1 hc]
  exact h

theorem ok_parts {a : Arg} (h : a.ok = true) : a.n ≤ 20 ∧ canon a.l = true := by
  unfold Arg.ok at h
  simpa using h

theorem Arg.isIn.on {a : Arg} {w w' : World} (h : a.isIn w) (hb : Below w.heap.size w w') : a.isIn w' := ⟨(h.1.below hb).more hb.size, h.2⟩

end Go.Proofs.YtpephogadljncaaGreat

/-
  An integer that came in: its side, and its digits.
-/
namespace Go.Proofs.YtpephogadljncaaGreat
set_option maxRecDepth 100000
open Go.ChangeShapes Go.WideShapes Go.ChangeAt Go.RowKit Go.Joins

theorem open_zed {H : Type} {enc : TypeId × Value → H} {W : World} {base b0 : Nat} {held : Bool} {r : Reach} {v : Value} {d : DataW H} {p : List MemPlace} (hv : Value.okWide Tryz.prog W r b0 42 v) (h : DataW.Trod enc Tryz.prog W base (fun _ => true) held 42 v d p) :
    ∃ (b : Bool) (a : Option Addr) (len cap : Nat) (l : List Nat), v = .agg #[.bool b, .slice a len cap] ∧ Lim W.heap.size W a len cap l ∧ len ≤ 9223372036854775807 := by
  obtain ⟨v0, v1, y0, y1, n, rfl, _, _, h0, h1⟩ := open_agg2 Tryz.underlying42 (by kernel_rfl) (by kernel_rfl) hv h
  obtain ⟨b, hb, _⟩ := DataW.trod_bool Tryz.underlying4 h0
  injection hb with hb _
  subst hb
  rcases open_ints Tryz.underlying24 Tryz.underlying37 (by kernel_rfl) h1 with ⟨hcs, _⟩ | ⟨x, l, c, zs, hcs, _, hl, hm, hz, _, hcell, hwz⟩
  · injection hcs with hcs _
    subst hcs
    obtain ⟨l, hl, hs⟩ := arg_of_row (w := W) (a := none) (len := 0) (cap := 0) (zs := []) (.inl ⟨rfl, rfl, rfl, rfl⟩)
    exact ⟨b, none, 0, 0, l, rfl, hl, hs⟩
  · injection hcs with hcs _
    subst hcs
    obtain ⟨l', hl', hs⟩ := arg_of_row (w := W) (a := some x) (len := l) (cap := c) (zs := zs) (.inr ⟨x, rfl, hl, hm, by simpa using hz, hcell, hwz⟩)
    exact ⟨b, some x, l, c, l', rfl, hl', hs⟩

end Go.Proofs.YtpephogadljncaaGreat

/-
  A rational that came in: its side, and the digits of both its numbers.
-/
namespace Go.Proofs.YtpephogadljncaaGreat
set_option maxRecDepth 100000
open Go.ChangeShapes Go.WideShapes Go.ChangeAt Go.RowKit Go.Joins

theorem open_nat {H : Type} {enc : TypeId × Value → H} {W : World} {base : Nat} {held : Bool} {v : Value} {y : DataW H × List MemPlace} {n : Nat} (h : DataW.trod enc Tryz.prog W base (fun _ => true) held n 24 [v] = some y) :
    ∃ (a : Option Addr) (len cap : Nat) (l : List Nat), v = .slice a len cap ∧ Lim W.heap.size W a len cap l ∧ len ≤ 9223372036854775807 := by
  rcases open_ints Tryz.underlying24 Tryz.underlying37 (by kernel_rfl) h with ⟨hcs, _⟩ | ⟨x, l, c, zs, hcs, _, hl, hm, hz, _, hcell, hwz⟩
  · injection hcs with hcs _
    subst hcs
    obtain ⟨l, hl, hs⟩ := arg_of_row (w := W) (a := none) (len := 0) (cap := 0) (zs := []) (.inl ⟨rfl, rfl, rfl, rfl⟩)
    exact ⟨none, 0, 0, l, rfl, hl, hs⟩
  · injection hcs with hcs _
    subst hcs
    obtain ⟨l', hl', hs⟩ := arg_of_row (w := W) (a := some x) (len := l) (cap := c) (zs := zs) (.inr ⟨x, rfl, hl, hm, by simpa using hz, hcell, hwz⟩)
    exact ⟨some x, l, c, l', rfl, hl', hs⟩

theorem open_rat {H : Type} {enc : TypeId × Value → H} {W : World} {base b0 : Nat} {held : Bool} {r : Reach} {v : Value} {d : DataW H} {p : List MemPlace} (hv : Value.okWide Tryz.prog W r b0 48 v) (h : DataW.Trod enc Tryz.prog W base (fun _ => true) held 48 v d p) :
    ∃ (b : Bool) (a : Option Addr) (len cap : Nat) (l : List Nat) (a2 : Option Addr) (len2 cap2 : Nat) (l2 : List Nat), v = .agg #[.bool b, .slice a len cap, .slice a2 len2 cap2] ∧ Lim W.heap.size W a len cap l ∧ len ≤ 9223372036854775807 ∧ Lim W.heap.size W a2 len2 cap2 l2 ∧ len2 ≤ 9223372036854775807 := by
  obtain ⟨cs, rfl, hsz⟩ := okWide_struct Tryz.underlying48 hv
  obtain ⟨c0, c1, c2, rfl⟩ := array3 (hsz.trans (by kernel_rfl))
  obtain ⟨fuel, hf⟩ := h
  obtain ⟨y0, y1, n, _, _, h0, h1⟩ := trod_struct2 Tryz.underlying48 hf
  have k0 : Tryz.prog.cellsOf 42 = 2 := by kernel_rfl
  have k1 : Tryz.prog.cellsOf 24 = 1 := by kernel_rfl
  have k2 : Tryz.prog.cellsOf 4 = 1 := by kernel_rfl
  simp only [Value.cells, k0, k1] at h0 h1
  obtain ⟨z0, z1, m, _, _, g0, g1⟩ := trod_struct2 Tryz.underlying42 h0
  simp only [k1, k2] at g0 g1
  obtain ⟨b, hb, _⟩ := DataW.trod_bool Tryz.underlying4 g0
  obtain ⟨a, len, cap, l, e1, hl, hs⟩ := open_nat (v := c1) g1
  obtain ⟨a2, len2, cap2, l2, e2, hl2, hs2⟩ := open_nat (v := c2) h1
  injection hb with hb _
  subst hb e1 e2
  exact ⟨b, a, len, cap, l, a2, len2, cap2, l2, rfl, hl, hs, hl2, hs2⟩

end Go.Proofs.YtpephogadljncaaGreat

/-
  A number, two integers, two numbers that came in.
-/
namespace Go.Proofs.YtpephogadljncaaGreat
set_option maxRecDepth 100000
open Go.ChangeShapes Go.WideShapes Go.ChangeAt Go.RowKit Go.Joins

theorem open_natT {H : Type} {enc : TypeId × Value → H} {W : World} {base b0 : Nat} {held : Bool} {r : Reach} {v : Value} {d : DataW H} {p : List MemPlace} (hv : Value.okWide Tryz.prog W r b0 24 v) (h : DataW.Trod enc Tryz.prog W base (fun _ => true) held 24 v d p) :
    ∃ (a : Option Addr) (len cap : Nat) (l : List Nat), v = .slice a len cap ∧ Lim W.heap.size W a len cap l ∧ len ≤ 9223372036854775807 := by
  obtain ⟨a, len, cap, rfl⟩ := okWide_slice Tryz.underlying24 hv
  obtain ⟨fuel, hf⟩ := h
  exact open_nat hf



end Go.Proofs.YtpephogadljncaaGreat

/-
  What a [2]int64 that is handed over is.
-/
namespace Go.Proofs.YtpephogadljncaaGreat
open Go.ChangeShapes Go.WideShapes Go.ChangeAt Go.RowKit Go.Joins

theorem array_two {α : Type} {cs : Array α} (h : cs.size = 2) : ∃ a b, cs = #[a, b] := by
  obtain ⟨l⟩ := cs
  have h2 : l.length = 2 := h
  match l, h2 with
  | [a, b], _ => exact ⟨a, b, rfl⟩

end Go.Proofs.YtpephogadljncaaGreat

/-
  Rows of integers: what a slice value reads as, what keeps it, what is answered; a row of the call's own.
-/
namespace Go.Proofs.YtpephogadljncaaGreat
set_option maxRecDepth 100000
open Go.RowKit
set_option linter.unusedVariables false

/-- An integer as a value. -/
def encI (z : Int) : Value := .int .i64 z
/-- What 64 bits hold. -/
def Fits (z : Int) : Prop := -9223372036854775808 ≤ z ∧ z ≤ 9223372036854775807
theorem Fits.wrap {z : Int} (h : Fits z) : IntKind.i64.wrap z = z := IntWalk.i64_in z h
theorem infoI : (Tryz.prog.info? 2).map (fun i => (i.zero, i.size, i.bytes)) = some (some (.int .i64 0), 1, 8) := by kernel_rfl

/-- The slice value '.slice A n c' holds the integers l. -/
def IR (w : World) (A : Option Addr) (n c : Nat) (l : List Int) : Prop :=
  n = l.length ∧ n ≤ c ∧ (0 < n → ∃ b off, A = some ⟨b, off, none⟩ ∧ b < w.heap.size ∧ ∀ j, j < n → w.cell? ⟨b, off + j, none⟩ = some (.int .i64 (l[j]?.getD 0)))
theorem IR.on {w w' : World} {A : Option Addr} {n c : Nat} {l : List Int} (h : IR w A n c l) (hb : Below w.heap.size w w') : IR w' A n c l :=
  ⟨h.1, h.2.1, fun hn => by
    obtain ⟨b, off, e, hlt, hc⟩ := h.2.2 hn
    exact ⟨b, off, e, Nat.lt_of_lt_of_le hlt hb.size, fun j hj => (hb.cell (p := ⟨b, off + j, none⟩) hlt).trans (hc j hj)⟩⟩
theorem IR.nil (w : World) (A : Option Addr) (c : Nat) : IR w A 0 c [] := ⟨rfl, Nat.zero_le _, fun h => absurd h (by omega)⟩
theorem IR.of_own {w : World} {base : Nat} {e : TypeId} {A : Option Addr} {n c : Nat} {l : List Int} (h : w.ownsRow base e 1 (.slice A n c) n (l.map encI)) : IR w A n c l := by
  have hl : n = l.length := by have := h.1; simp at this; omega
  refine ⟨hl, ?_, fun hn => ?_⟩
  · rcases h.2 with ⟨e1, h0⟩ | ⟨g, cap, cur, e1, _, _, hnc, _⟩
    · omega
    · injection e1 with _ _ e2; omega
  · have hlt := h.lt
    rcases h.2 with ⟨e1, h0⟩ | ⟨g, cap, cur, e1, _, _, hnc, _⟩
    · omega
    · injection e1 with e2 _ e3
      subst e2; subst e3
      refine ⟨g, 0, rfl, (hlt g rfl).2, fun j hj => ?_⟩
      have := h.cellAt j (by omega)
      rw [Nat.zero_add, this, List.getElem?_map, List.getElem?_eq_getElem (by omega)]
      simp [encI]

/-- A row of integers. -/
def GotI (w : World) (l : List Int) (e : Ending) (w' : World) : Prop := ∃ A n c, e = .returned (.slice A n c) ∧ IR w' A n c l ∧ Below w.heap.size w w'
/-- A row of integers, and a code. -/
def GotIp (w : World) (l : List Int) (r : Int) (e : Ending) (w' : World) : Prop := ∃ A n c, e = .returned (.tuple #[.slice A n c, .int .i64 r]) ∧ IR w' A n c l ∧ Below w.heap.size w w'
end Go.Proofs.YtpephogadljncaaGreat

/-
  Rows of bytes: what a slice value reads as, what keeps it; a row of the call's own.
-/
namespace Go.Proofs.YtpephogadljncaaGreat
set_option maxRecDepth 100000
open Go.RowKit
set_option linter.unusedVariables false

theorem mem_at {α : Type} {L : List α} {d : α} {j : Nat} (h : j < L.length) : L[j]?.getD d ∈ L := by rw [List.getElem?_eq_getElem h]; exact List.getElem_mem h
theorem at_mem {α : Type} {L : List α} (d : α) {x : α} (h : x ∈ L) : ∃ j, j < L.length ∧ L[j]?.getD d = x := by
  obtain ⟨j, hj, e⟩ := List.mem_iff_getElem.1 h
  exact ⟨j, hj, by rw [List.getElem?_eq_getElem hj]; exact e⟩
theorem map_at {α β : Type} {L : List α} {f : α → β} {d : α} {e : β} {j : Nat} (h : j < L.length) : (L.map f)[j]?.getD e = f (L[j]?.getD d) := by
  rw [List.getElem?_map, List.getElem?_eq_getElem h]; rfl
/-- A byte as a value. -/
def encB (x : Nat) : Value := .int .u8 (x : Int)
/-- The slice value '.slice A n c' holds the bytes l. -/
def BR (w : World) (A : Option Addr) (n c : Nat) (l : List Nat) : Prop :=
  n = l.length ∧ n ≤ c ∧ (∀ x ∈ l, x < 256) ∧ (0 < n → ∃ b off, A = some ⟨b, off, none⟩ ∧ b < w.heap.size ∧ ∀ j, j < n → w.cell? ⟨b, off + j, none⟩ = some (.int .u8 ((l[j]?.getD 0 : Nat) : Int)))
theorem BR.on {w w' : World} {A : Option Addr} {n c : Nat} {l : List Nat} (h : BR w A n c l) (hb : Below w.heap.size w w') : BR w' A n c l :=
  ⟨h.1, h.2.1, h.2.2.1, fun hn => by
    obtain ⟨b, off, e, hlt, hc⟩ := h.2.2.2 hn
    exact ⟨b, off, e, Nat.lt_of_lt_of_le hlt hb.size, fun j hj => (hb.cell (p := ⟨b, off + j, none⟩) hlt).trans (hc j hj)⟩⟩
theorem BR.nil (w : World) (A : Option Addr) (c : Nat) : BR w A 0 c [] := ⟨rfl, Nat.zero_le _, fun _ h => by simp at h, fun h => absurd h (by omega)⟩
theorem BR.cell {w : World} {b off n c j : Nat} {l : List Nat} (h : BR w (some ⟨b, off, none⟩) n c l) (hj : j < n) : w.cell? ⟨b, off + j, none⟩ = some (.int .u8 ((l[j]?.getD 0 : Nat) : Int)) := by
  obtain ⟨b', off', e, hlt, hc⟩ := h.2.2.2 (by omega)
  injection e with e
  injection e with e1 e2
  subst e1
  subst e2
  exact hc j hj
theorem BR.some {w : World} {A : Option Addr} {n c : Nat} {l : List Nat} (h : BR w A n c l) (hn : 0 < n) : ∃ b off, A = some ⟨b, off, none⟩ ∧ b < w.heap.size := by
  obtain ⟨b, off, e, hlt, hc⟩ := h.2.2.2 hn
  exact ⟨b, off, e, hlt⟩
theorem BR.at {w : World} {A : Option Addr} {n c : Nat} {l : List Nat} (h : BR w A n c l) {j : Nat} (hj : j < n) : l[j]?.getD 0 < 256 := h.2.2.1 _ (mem_at (by rw [← h.1]; exact hj))
theorem infoB : (Tryz.prog.info? 5).map (fun i => (i.zero, i.size, i.bytes)) = some (some (.int .u8 0), 1, 1) := by kernel_rfl
theorem BR.of_own {w : World} {base : Nat} {e : TypeId} {A : Option Addr} {n c : Nat} {l : List Nat} (h : w.ownsRow base e 1 (.slice A n c) n (l.map encB)) (hl8 : ∀ x ∈ l, x < 256) : BR w A n c l := by
  have hl : n = l.length := by have := h.1; simp at this; omega
  refine ⟨hl, ?_, hl8, fun hn => ?_⟩
  · rcases h.2 with ⟨e1, h0⟩ | ⟨g, cap, cur, e1, _, _, hnc, _⟩
    · omega
    · injection e1 with _ _ e2; omega
  · have hlt := h.lt
    rcases h.2 with ⟨e1, h0⟩ | ⟨g, cap, cur, e1, _, _, hnc, _⟩
    · omega
    · injection e1 with e2 _ e3
      subst e2; subst e3
      refine ⟨g, 0, rfl, (hlt g rfl).2, fun j hj => ?_⟩
      have := h.cellAt j (by omega)
      rw [Nat.zero_add, this, List.getElem?_map, List.getElem?_eq_getElem (by omega)]
      simp [encB]
/-- A row of bytes is answered; with a code. -/
def GotB (w : World) (l : List Nat) (e : Ending) (w' : World) : Prop := ∃ A n c, e = .returned (.slice A n c) ∧ BR w' A n c l ∧ Below w.heap.size w w'
def GotBr (w : World) (l : List Nat) (r : Int) (e : Ending) (w' : World) : Prop := ∃ A n c, e = .returned (.tuple #[.slice A n c, .int .i64 r]) ∧ BR w' A n c l ∧ Below w.heap.size w w'
theorem addr_add (b o j : Nat) : (⟨b, o, none⟩ : Addr).add j = ⟨b, o + j, none⟩ := by unfold Addr.add; split; (rename_i h0; subst h0; rfl); rfl
/-- The cells of a row, as an append wants them. -/
theorem br_news {w W : World} {b off n c : Nat} {l : List Nat} (h : BR w (some ⟨b, off, none⟩) n c l) (hb : Below w.heap.size w W) : ∀ j u, (l.map encB)[j]? = some u → W.cell? ((⟨b, off, none⟩ : Addr).add j) = some u := by
  intro j u e
  rw [List.getElem?_map] at e
  rcases hj : l[j]? with _ | z
  · rw [hj] at e; cases e
  · rw [hj] at e; injection e with e
    have hlt : j < l.length := (List.getElem?_eq_some_iff.1 hj).1
    have h1 := (h.on hb).cell (j := j) (by rw [h.1]; exact hlt)
    rw [hj] at h1
    rw [← e, addr_add]
    exact h1
/-- Nothing is appended. -/
theorem run_append_zero {P : Program} (w : World) (t ty e : TypeId) (i : TypeInfo) (ht : P.underlying t = some (.slice e)) (hi : P.info? e = some i) (A B : Option Addr) (n c d : Nat) (hn : n ≤ c) :
    (Builtin.append_ #[t, t] ty #[.slice A n c, .slice B 0 d]).run P w = .ok (.slice A n c) w := by
  simp only [Builtin.append_]
  rcases A with _ | a <;> rcases B with _ | b <;> simp [run_underlying ht, sizeOf, typeInfo, hi, Builtin.firstCells, Builtin.lenOf, hn, storeCells, Result.andThen, go_sem]
theorem wpList_append_zero {P : Program} (w : World) {ops : Array Oper} {rest : List Oper} {o : Oper} {a : Act} {Q : Exit → Act → World → Prop} (hgd : o.guard = none) (s x : Operand) (t : TypeId)
    (ho : o.op = .call { callee := .builtin .append, args := #[s, x], argTypes := #[t, t] }) (e : TypeId) (i : TypeInfo) (ht : P.underlying t = some (.slice e)) (hi : P.info? e = some i)
    (A B : Option Addr) (n c d : Nat) (hs : a.eval s = .slice A n c) (hx : a.eval x = .slice B 0 d) (hn : n ≤ c)
    (h : wpList P ops Q rest (a.put o.dst (.slice A n c)) w) : wpList P ops Q (o :: rest) a w :=
  wpList_plain hgd fun K hK => by
    have hr := run_append_zero (P := P) w t o.type e i ht hi A B n c d hn
    unfold Oper.wp execOp
    simp only [ho, resolve, invoke, builtin, Sem.run_bind, Sem.run_pure, Result.andThen_ok, List.map_toArray, List.map_cons, List.map_nil, hs, hx, hr]
    exact hK _ _ h
end Go.Proofs.YtpephogadljncaaGreat

/-
  Rows of bytes that came in; small arrays of integers.
-/
namespace Go.Proofs.YtpephogadljncaaGreat
open Go.ChangeShapes Go.WideShapes Go.ChangeAt Go.RowKit Go.Joins

theorem cell_blockB {w : World} {b o : Nat} {v : Value} (h : w.cell? ⟨b, o, none⟩ = some v) : b < w.heap.size := by
  rcases Nat.lt_or_ge b w.heap.size with h1 | h1
  · exact h1
  · simp [World.cell?, Array.getElem?_eq_none h1] at h
theorem br_row {w : World} {a : Option Addr} {len cap : Nat} {zs : List Int}
    (h : (a = none ∧ len = 0 ∧ cap = 0 ∧ zs = []) ∨ ∃ x, a = some x ∧ len ≤ cap ∧ cap ≤ maxLen ∧ zs.length = cap ∧ (∀ i, i < zs.length → w.cell? (x.add i) = some (.int .u8 (zs.getD i 0))) ∧ ∀ n ∈ zs, (Lit.int .u8 n).wf = true) :
    ∃ l, BR w a len cap l ∧ len ≤ 9223372036854775807 := by
  rcases h with ⟨rfl, rfl, rfl, rfl⟩ | ⟨x, rfl, hl, hm, hz, hc, hw⟩
  · exact ⟨[], BR.nil _ _ _, by omega⟩
  · refine ⟨(zs.take len).map Int.toNat, ⟨by simp; omega, hl, ?_, fun h0 => ?_⟩, by unfold maxLen at hm; omega⟩
    · intro y hy
      obtain ⟨z, hz1, rfl⟩ := List.mem_map.1 hy
      have := bounds_u8 (hw z (List.mem_of_mem_take hz1))
      omega
    · obtain ⟨b, off, rfl, hcell⟩ := ints_at hc (by omega)
      refine ⟨b, off, rfl, cell_blockB (hcell 0 (by omega)), fun j hj => ?_⟩
      rw [hcell j (by omega)]
      have hb := bounds_u8 (hw (zs[j]'(by omega)) (List.getElem_mem _))
      have hj2 : j < zs.length := by omega
      rw [List.getElem?_map, List.getElem?_take_of_lt hj, List.getElem?_eq_getElem hj2]
      simp only [List.getD_eq_getElem?_getD, List.getElem?_eq_getElem hj2, Option.getD_some, Option.map_some]
      rw [Int.toNat_of_nonneg hb.1]
/-- How a row of that capacity is read. -/
def Read {H : Type} (cap : Nat) (d : DataW H) : Prop := cap = 0 ∨ ∃ es ss, d = .slice es ss ∧ es.length + ss.length = cap
section
variable {H : Type} {enc : TypeId × Value → H} {W : World} {base : Nat} {held : Bool} {v : Value} {y : DataW H × List MemPlace} {n : Nat}
end





end Go.Proofs.YtpephogadljncaaGreat

/-
  The contracts of the ninth reference: Signed, Den, power, part, many.
-/
namespace Go.Proofs.YtpephogadljncaaGreat
open Go.RowKit
set_option linter.unusedVariables false
set_option linter.unusedSimpArgs false

/-- A tree's number of a decade. -/
def p9 (n i j : Nat) : Nat := (2 * n + 9 * (2 * j + 1)) * (128 / n) * 10 ^ i
theorem p9_le {n i j : Nat} (h1 : 1 ≤ n) (hn : n ≤ 128) (hi : i ≤ 6) (hj : j < n) : (2 * n + 9 * (2 * j + 1)) * (128 / n) ≤ 400000 ∧ 10 ^ i ≤ 1000000 ∧ p9 n i j ≤ 400000000000 := by
  have a1 : 128 / n ≤ 128 := Nat.div_le_self _ _
  have a2 : (2 * n + 9 * (2 * j + 1)) * (128 / n) ≤ 2570 * 128 := Nat.mul_le_mul (by omega) a1
  have a3 : 10 ^ i ≤ 10 ^ 6 := Nat.pow_le_pow_right (by omega) hi
  have a4 : p9 n i j ≤ 2570 * 128 * 10 ^ 6 := Nat.mul_le_mul a2 a3
  refine ⟨Nat.le_trans a2 (by decide), Nat.le_trans a3 (by decide), Nat.le_trans a4 (by decide)⟩
/-- How many numbers a decade has, on a side. -/
def many9 (s : Bool) (i : Nat) : Nat := if s then 2 ^ i else 2 ^ (i + 1)
theorem many9_le (s : Bool) {i : Nat} (hi : i ≤ 6) : 1 ≤ many9 s i ∧ many9 s i ≤ 128 := by
  have a : 1 ≤ 2 ^ i := Nat.pow_pos (by omega)
  have b : 2 ^ i ≤ 2 ^ 6 := Nat.pow_le_pow_right (by omega) hi
  unfold many9
  cases s
  · rw [if_neg (by decide), Nat.pow_succ]; omega
  · rw [if_pos rfl]; omega
/-- The denominator of a kind; of none 0. -/
def den9 (k : Int) : Int := if k = 0 ∨ k = 1 then 2560000000 else if k = 2 ∨ k = 3 then 255 else 0
end Go.Proofs.YtpephogadljncaaGreat

/-
  The contract of the ninth reference: tree.
-/
namespace Go.Proofs.YtpephogadljncaaGreat
open Go.RowKit
set_option linter.unusedVariables false
set_option linter.unusedSimpArgs false

/-- The first m of a decade's numbers below nought, and above it. -/
def dnk (n i m : Nat) : List Int := (List.range m).map fun r => -(p9 n i (n - 1 - r) : Int)
def upk (n i m : Nat) : List Int := (List.range m).map fun r => (p9 n i r : Int)
/-- The first k decades, from above; from below. -/
def downs (s : Bool) (k : Nat) : List Int := (List.range k).flatMap fun r => dnk (many9 s (6 - r)) (6 - r) (many9 s (6 - r))
def ups (s : Bool) (k : Nat) : List Int := (List.range k).flatMap fun r => upk (many9 s r) r (many9 s r)
def low9 (s : Bool) : List Int := if s then downs s 7 else []
def tree9 (s : Bool) : List Int := low9 s ++ [0] ++ ups s 7 ++ [2560000000]
theorem dnk_succ (n i m : Nat) : dnk n i (m + 1) = dnk n i m ++ [-(p9 n i (n - 1 - m) : Int)] := by unfold dnk; rw [List.range_succ, List.map_append]; rfl
theorem upk_succ (n i m : Nat) : upk n i (m + 1) = upk n i m ++ [(p9 n i m : Int)] := by unfold upk; rw [List.range_succ, List.map_append]; rfl
theorem dnk_len (n i m : Nat) : (dnk n i m).length = m := by unfold dnk; simp
theorem upk_len (n i m : Nat) : (upk n i m).length = m := by unfold upk; simp
theorem downs_succ (s : Bool) (k : Nat) : downs s (k + 1) = downs s k ++ dnk (many9 s (6 - k)) (6 - k) (many9 s (6 - k)) := by unfold downs; rw [List.range_succ, List.flatMap_append]; simp
theorem ups_succ (s : Bool) (k : Nat) : ups s (k + 1) = ups s k ++ upk (many9 s k) k (many9 s k) := by unfold ups; rw [List.range_succ, List.flatMap_append]; simp
theorem downs_len (s : Bool) : ∀ k, k ≤ 7 → (downs s k).length ≤ 128 * k
  | 0, _ => by simp [downs]
  | k + 1, h => by
    rw [downs_succ, List.length_append, dnk_len]
    have := downs_len s k (by omega)
    have := (many9_le s (i := 6 - k) (by omega)).2
    omega
theorem ups_len (s : Bool) : ∀ k, k ≤ 7 → (ups s k).length ≤ 128 * k
  | 0, _ => by simp [ups]
  | k + 1, h => by
    rw [ups_succ, List.length_append, upk_len]
    have := ups_len s k (by omega)
    have := (many9_le s (i := k) (by omega)).2
    omega

/-- A value that is a row of the call's own (its blocks from t on), which holds l; below t all is as it was. -/
def Grown (t : Nat) (w W : World) (v : Value) (l : List Int) : Prop :=
  ∃ g cap N, v = .slice (some ⟨g, 0, none⟩) N cap ∧ W.ownsRow t 2 1 (.slice (some ⟨g, 0, none⟩) N cap) N (l.map encI) ∧ Below t w W ∧ t ≤ W.heap.size
theorem own_len {t : Nat} {W : World} {v : Value} {N : Nat} {l : List Int} (h : W.ownsRow t 2 1 v N (l.map encI)) : N = l.length := by have := h.1; simp at this; omega
theorem Grown.push {t : Nat} {w W w1 : World} {g N g1 cap1 : Nat} {l : List Int} {z : Int} {o : Obj} (hbl : Below t w W) (hts : t ≤ W.heap.size) (hwt : w.heap.size = t) (hg : t ≤ g)
    (hown1 : w1.ownsRow t 2 1 (.slice (some ⟨g1, 0, none⟩) (N + 1) cap1) (N + 1) (l.map encI ++ [.int .i64 z])) (hgrow1 : (W.alloc o).grownBy w1 (some g)) :
    Grown t w w1 (.slice (some ⟨g1, 0, none⟩) (N + 1) cap1) (l ++ [z]) := by
  have h1 : Below t w w1 := (hbl.alloc (by omega) _).grown hgrow1 (by simp; omega) (fun q e => by injection (show some g = some q from e) with e1; omega)
  refine ⟨g1, cap1, N + 1, rfl, ?_, h1, ?_⟩
  · rw [List.map_append]; exact hown1
  · have := h1.size; omega
theorem Grown.ir {t : Nat} {w W : World} {A : Option Addr} {n c : Nat} {l : List Int} (h : Grown t w W (.slice A n c) l) : IR W A n c l ∧ Below t w W := by
  obtain ⟨g, cap, N, e, hO, hb, hs⟩ := h
  injection e with e1 e2 e3
  subst e1
  subst e2
  subst e3
  exact ⟨IR.of_own hO, hb⟩
theorem own_after {t : Nat} {w W W' : World} {g cap n : Nat} {xs : List Value} (hO : W.ownsRow t 2 1 (.slice (some ⟨g, 0, none⟩) n cap) n xs) (hbl : Below t w W) (hts : t ≤ W.heap.size) (b : Below W.heap.size W W') :
    W'.ownsRow t 2 1 (.slice (some ⟨g, 0, none⟩) n cap) n xs ∧ Below t w W' ∧ t ≤ W'.heap.size ∧ t ≤ g := by
  have hl := hO.lt g rfl
  refine ⟨?_, hbl.trans (b.mono hts), Nat.le_trans hts b.size, hl.1⟩
  obtain ⟨h1, h2⟩ := hO
  refine ⟨h1, ?_⟩
  rcases h2 with h2 | ⟨g', cap', cur, hv, hg, hh, r⟩
  · exact Or.inl h2
  · refine Or.inr ⟨g', cap', cur, hv, hg, ?_, r⟩
    have : g' = g := by injection hv with e; injection e with e2; injection e2 with e3; exact e3.symm
    subst this
    rw [b.block g' hl.2]; exact hh

end Go.Proofs.YtpephogadljncaaGreat

/-
  The contracts of the ninth reference: Book.
-/
namespace Go.Proofs.YtpephogadljncaaGreat
open Go.RowKit
set_option linter.unusedVariables false
set_option linter.unusedSimpArgs false

def linek (m : Nat) : List Int := (List.range m).map fun (c : Nat) => 2 * (c : Int) - 255
def ulinek (m : Nat) : List Int := (List.range m).map fun (c : Nat) => (c : Int)
theorem linek_succ (m : Nat) : linek (m + 1) = linek m ++ [2 * (m : Int) - 255] := by unfold linek; rw [List.range_succ, List.map_append]; rfl
theorem ulinek_succ (m : Nat) : ulinek (m + 1) = ulinek m ++ [(m : Int)] := by unfold ulinek; rw [List.range_succ, List.map_append]; rfl
theorem linek_len (m : Nat) : (linek m).length = m := by unfold linek; simp
theorem ulinek_len (m : Nat) : (ulinek m).length = m := by unfold ulinek; simp
/-- A kind's numbers. -/
def book9 (k : Int) : List Int := if k = 0 then tree9 true else if k = 1 then tree9 false else if k = 2 then linek 256 else if k = 3 then ulinek 256 else []
/-- Is there such a kind? -/
def Kind9 (k : Int) : Prop := k = 0 ∨ k = 1 ∨ k = 2 ∨ k = 3
instance (k : Int) : Decidable (Kind9 k) := by unfold Kind9; infer_instance
def code9 (k : Int) : Int := if Kind9 k then 0 else 1

end Go.Proofs.YtpephogadljncaaGreat

/-
  The contracts of the ninth reference: Signed, Den, Gap, Same.
-/
namespace Go.Proofs.YtpephogadljncaaGreat
set_option maxRecDepth 100000
open Go.RowKit
set_option linter.unusedVariables false
set_option linter.unusedSimpArgs false

/-- The greater of two, behind a name. -/
def mxI (a b : Int) : Int := max a b
theorem mxI_run {P : Program} (w : World) (ts : Array TypeId) (t : TypeId) (x y : Int) : (Builtin.max_ ts t #[.int .i64 x, .int .i64 y]).run P w = .ok (.int .i64 (mxI x y)) w := by
  rw [run_max_int2]
  congr 2
  unfold mxI
  split <;> omega
/-- The greatest of the first m gaps. -/
def gk (L : List Int) : Nat → Int
  | 0 => 0
  | m + 1 => mxI (gk L m) (L[m + 1]?.getD 0 - L[m]?.getD 0)
def gap9 (k : Int) : Int := gk (book9 k) ((book9 k).length - 1)
def sig9 (k : Int) : Bool := decide (k = 0 ∨ k = 2)
theorem book9_small : ∀ k : Int, ∀ x ∈ book9 k, -400000000000 ≤ x ∧ x ≤ 400000000000 := by
  intro k x hx
  have h : ∀ L : List Int, L.all (fun x => decide (-400000000000 ≤ x ∧ x ≤ 400000000000)) = true → x ∈ L → -400000000000 ≤ x ∧ x ≤ 400000000000 := fun L a b => of_decide_eq_true (List.all_eq_true.1 a x b)
  unfold book9 at hx
  split at hx
  · exact h _ (by decide +kernel) hx
  split at hx
  · exact h _ (by decide +kernel) hx
  split at hx
  · exact h _ (by decide +kernel) hx
  split at hx
  · exact h _ (by decide +kernel) hx
  · cases hx
theorem book9_len (k : Int) : (book9 k).length ≤ 256 := by
  unfold book9
  split
  · decide +kernel
  split
  · decide +kernel
  split
  · decide +kernel
  split
  · decide +kernel
  · simp
theorem book9_at (k : Int) (j : Nat) : -400000000000 ≤ (book9 k)[j]?.getD 0 ∧ (book9 k)[j]?.getD 0 ≤ 400000000000 := by
  rcases Nat.lt_or_ge j (book9 k).length with h | h
  · rw [List.getElem?_eq_getElem h]
    exact book9_small k _ (List.getElem_mem h)
  · rw [List.getElem?_eq_none h]; decide



attribute [local go_sem ↓] mxI_run

set_option maxHeartbeats 4000000 in
theorem rsame9_N {w : World} {A B : Option Addr} {n c m d : Nat} {L : List Int} (hA : IR w A n c L) (hB : IR w B m d L) (hl : L.length ≤ 256) :
    Calls Tryz.prog 9 #[.slice A n c, .slice B m d] w (GotV w (.bool true)) := by
  obtain rfl : n = m := by rw [hA.1, hB.1]
  have hn2 : n ≤ 256 := by rw [hA.1]; exact hl
  clear hl
  go_enter Tryz.func9, Tryz.ntmps9
  go_wp2_with fail
  go_loopw [5] (fun iv wr => ∃ i : Nat, i ≤ n ∧ iv = .int .i64 (i : Int) ∧ Below w.heap.size w wr) (fun iv _ => 256 - (intOf iv).toNat)
  case atStart => exact ⟨0, by omega, rfl, Below.refl _ _⟩
  case round =>
    obtain ⟨i, hi, rfl, hbl⟩ := hrel
    by_cases hlt : i < n
    · obtain ⟨b1, o1, rfl, hb1, hc1⟩ := (hA.on hbl).2.2 (by omega)
      obtain ⟨b2, o2, rfl, hb2, hc2⟩ := (hB.on hbl).2.2 (by omega)
      have h1 := hc1 i hlt
      have h2 := hc2 i hlt
      have k3 : IntKind.i64.wrap ((i : Int) + 1) = ((i + 1 : Nat) : Int) := by rw [IntWalk.i64_in _ (by omega)]; omega
      clear hc1 hc2
      generalize L[i]?.getD 0 = x at *
      go_wp2_with fail
      go_region_held3 (fun w' => w'.cell? ⟨b1, o1 + i, none⟩ = some (.int .i64 x) ∧ w'.cell? ⟨b2, o2 + i, none⟩ = some (.int .i64 x)) (exact ⟨h1, h2⟩) (fail)
      go_wp2_with fail
      go_roundw
      case rel => exact ⟨i + 1, by omega, rfl, below_drewN hbl 1⟩
      case measure => simp [intOf] <;> omega
    · go_wp2_with fail
      go_ret
      exact ⟨rfl, hbl⟩
end Go.Proofs.YtpephogadljncaaGreat

/-
  The place of the nearest number of a codebook: what it is, that there is one alone, how far it is, how it rises.
-/
namespace Go.Proofs.YtpephogadljncaaGreat

/-- The place of the least of d 0 to d m, the lowest of these. -/
def lpl (d : Nat → Int) : Nat → Nat
  | 0 => 0
  | m + 1 => if d (m + 1) < d (lpl d m) then m + 1 else lpl d m
theorem lpl_le (d : Nat → Int) : ∀ m, lpl d m ≤ m
  | 0 => Nat.le_refl 0
  | m + 1 => by unfold lpl; split; exact Nat.le_refl _; exact Nat.le_succ_of_le (lpl_le d m)
theorem lpl_least (d : Nat → Int) : ∀ m c, c ≤ m → d (lpl d m) ≤ d c ∧ (c < lpl d m → d (lpl d m) < d c)
  | 0, c, h => by obtain rfl : c = 0 := by omega
                  exact ⟨Int.le_refl _, fun h => absurd h (Nat.not_lt_zero _)⟩
  | m + 1, c, h => by
    have ih := lpl_least d m
    have hl := lpl_le d m
    unfold lpl
    split
    · rename_i hlt
      rcases Nat.lt_or_ge m c with h1 | h1
      · obtain rfl : c = m + 1 := by omega
        exact ⟨Int.le_refl _, fun h => absurd h (Nat.lt_irrefl _)⟩
      · have := (ih c h1).1
        exact ⟨by omega, fun _ => by omega⟩
    · rename_i hlt
      rcases Nat.lt_or_ge m c with h1 | h1
      · obtain rfl : c = m + 1 := by omega
        exact ⟨by omega, fun h => by omega⟩
      · exact ih c h1
theorem lpl_uniq {d : Nat → Int} {m b : Nat} (hb : b ≤ m) (h : ∀ c, c ≤ m → d b ≤ d c ∧ (c < b → d b < d c)) : lpl d m = b := by
  have h1 := lpl_least d m b hb
  have h2 := h (lpl d m) (lpl_le d m)
  rcases Nat.lt_trichotomy (lpl d m) b with e | e | e
  · have := h2.2 e; have := h1.1; omega
  · exact e
  · have := h1.2 e; have := h2.1; omega
theorem lpl_scale {d : Nat → Int} {t : Int} (ht : 0 < t) : ∀ m, lpl (fun c => t * d c) m = lpl d m
  | 0 => rfl
  | m + 1 => by
    have ih := lpl_scale (d := d) ht m
    unfold lpl
    rw [ih]
    have e : (t * d (m + 1) < t * d (lpl d m)) ↔ d (m + 1) < d (lpl d m) := ⟨fun h => Int.lt_of_mul_lt_mul_left h (Int.le_of_lt ht), fun h => Int.mul_lt_mul_of_pos_left h ht⟩
    by_cases h : d (m + 1) < d (lpl d m)
    · rw [if_pos h, if_pos (e.2 h)]
    · rw [if_neg h, if_neg (fun x => h (e.1 x))]
/-- A kind's number. -/
def num10 (k : Int) (c : Nat) : Int := (book9 k)[c]?.getD 0
/-- How far a code's number is from a share, times both denominators. -/
def dst (k num den : Int) (c : Nat) : Int := ((num * den9 k - num10 k c * den).natAbs : Int)
/-- The code of a share. -/
def near10 (k num den : Int) : Nat := lpl (dst k num den) 255
/-- Is it a share? -/
def Shr (k num den : Int) : Prop := Kind9 k ∧ 1 ≤ den ∧ num ≤ den ∧ -den ≤ num ∧ (0 ≤ num ∨ sig9 k = true)
instance (k num den : Int) : Decidable (Shr k num den) := by unfold Shr; infer_instance
theorem near10_le (k num den : Int) : near10 k num den ≤ 255 := lpl_le _ _
theorem near10_least {k num den : Int} {c : Nat} (h : c ≤ 255) : dst k num den (near10 k num den) ≤ dst k num den c ∧ (c < near10 k num den → dst k num den (near10 k num den) < dst k num den c) := lpl_least _ 255 c h

def rising (L : List Int) : Bool := (List.range 255).all fun j => decide (L[j]?.getD 0 < L[j + 1]?.getD 0)
def gapped (L : List Int) (g : Int) : Bool := (List.range 255).all fun j => decide (L[j + 1]?.getD 0 - L[j]?.getD 0 ≤ g)
theorem facts10 {k : Int} (h : Kind9 k) : (book9 k).length = 256 ∧ num10 k 255 = den9 k ∧ rising (book9 k) = true ∧ gapped (book9 k) (gap9 k) = true ∧ (if sig9 k then decide (2 * (num10 k 0 + den9 k) ≤ gap9 k) else decide (num10 k 0 = 0)) = true ∧ (if sig9 k then decide (-den9 k ≤ num10 k 0) else decide (num10 k 0 = 0)) = true ∧ 0 < den9 k := by
  rcases h with rfl | rfl | rfl | rfl <;> decide +kernel
theorem den9_bd (k : Int) : 0 ≤ den9 k ∧ den9 k ≤ 2560000000 := by unfold den9; split <;> (try split) <;> omega
theorem gap9_bd (k : Int) : 0 ≤ gap9 k ∧ gap9 k ≤ 800000000000 := by
  have h : ∀ L : List Int, (∀ j : Nat, -400000000000 ≤ L[j]?.getD 0 ∧ L[j]?.getD 0 ≤ 400000000000) → ∀ m, 0 ≤ gk L m ∧ gk L m ≤ 800000000000 := by
    intro L hL m
    induction m with
    | zero => exact ⟨Int.le_refl 0, by show (0 : Int) ≤ _; omega⟩
    | succ m ih =>
      have a := hL (m + 1)
      have b := hL m
      show 0 ≤ mxI _ _ ∧ mxI _ _ ≤ _
      unfold mxI
      omega
  exact h _ (book9_at k) _
theorem num10_bd (k : Int) (c : Nat) : -400000000000 ≤ num10 k c ∧ num10 k c ≤ 400000000000 := book9_at k c
theorem num10_step {k : Int} (h : Kind9 k) {j : Nat} (hj : j < 255) : num10 k j < num10 k (j + 1) ∧ num10 k (j + 1) - num10 k j ≤ gap9 k := by
  obtain ⟨_, _, h1, h2, _⟩ := facts10 h
  exact ⟨of_decide_eq_true (List.all_eq_true.1 h1 j (List.mem_range.2 hj)), of_decide_eq_true (List.all_eq_true.1 h2 j (List.mem_range.2 hj))⟩
theorem num10_up {k : Int} (h : Kind9 k) {a : Nat} : ∀ {b : Nat}, a < b → b ≤ 255 → num10 k a < num10 k b := by
  intro b
  induction b with
  | zero => intro hb; omega
  | succ b ih =>
    intro hb h5
    have hs := (num10_step h (j := b) (by omega)).1
    rcases Nat.lt_or_ge a b with e | e
    · have := ih e (by omega); omega
    · obtain rfl : a = b := by omega
      exact hs
/-- What is just a code's number has that code. -/
theorem near10_own {k num den : Int} {c : Nat} (h : Kind9 k) (hd : 0 < den) (hc : c ≤ 255) (e : num * den9 k = num10 k c * den) : near10 k num den = c := by
  refine lpl_uniq hc fun i hi => ?_
  have e0 : dst k num den c = 0 := by unfold dst; omega
  have e1 : 0 ≤ dst k num den i := by unfold dst; omega
  refine ⟨by omega, fun hl => ?_⟩
  have hm := Int.mul_lt_mul_of_pos_right (num10_up h hl hc) hd
  unfold dst at *
  omega
theorem near10_den {k den : Int} (h : Kind9 k) (hd : 0 < den) : near10 k den den = 255 := near10_own h hd (Nat.le_refl _) (by rw [(facts10 h).2.1, Int.mul_comm])
theorem near10_num {k t : Int} {c : Nat} (h : Kind9 k) (ht : 0 < t) (hc : c ≤ 255) : near10 k (num10 k c * t) (den9 k * t) = c :=
  near10_own h (Int.mul_pos (facts10 h).2.2.2.2.2.2 ht) hc (by rw [Int.mul_assoc, Int.mul_comm t])
theorem near10_scale {k num den t : Int} (ht : 0 < t) : near10 k (num * t) (den * t) = near10 k num den := by
  have e : dst k (num * t) (den * t) = fun c => t * dst k num den c := by
    funext c
    unfold dst
    have e1 : num * t * den9 k - num10 k c * (den * t) = t * (num * den9 k - num10 k c * den) := by rw [Int.mul_sub]; congr 1 <;> ac_rfl
    rw [e1, Int.natAbs_mul, Int.natCast_mul, Int.natAbs_of_nonneg (Int.le_of_lt ht)]
  unfold near10
  rw [e]
  exact lpl_scale ht 255
theorem near10_mono {k a b den : Int} (h : Kind9 k) (hd : 0 < den) (hab : a ≤ b) : near10 k a den ≤ near10 k b den := by
  rcases Nat.lt_or_ge (near10 k b den) (near10 k a den) with e | e
  · exfalso
    have h1 := (near10_least (k := k) (num := a) (den := den) (near10_le k b den)).2 e
    have h2 := (near10_least (k := k) (num := b) (den := den) (near10_le k a den)).1
    have h3 := Int.mul_lt_mul_of_pos_right (num10_up h e (near10_le k a den)) hd
    have h4 := Int.mul_le_mul_of_nonneg_right hab (den9_bd k).1
    unfold dst at h1 h2
    omega
  · exact e
theorem shr_scale {k num den t : Int} (ht : 0 < t) : Shr k (num * t) (den * t) ↔ Shr k num den := by
  have a1 : 1 ≤ den * t ↔ 1 ≤ den := ⟨fun h => by
      rcases Int.lt_or_le 0 den with e | e
      · omega
      · have := Int.mul_le_mul_of_nonneg_right e (Int.le_of_lt ht); omega, fun h => by have := Int.mul_le_mul_of_nonneg_right h (Int.le_of_lt ht); omega⟩
  have a2 : num * t ≤ den * t ↔ num ≤ den := ⟨fun h => Int.le_of_mul_le_mul_right h ht, fun h => Int.mul_le_mul_of_nonneg_right h (Int.le_of_lt ht)⟩
  have a3 : -(den * t) ≤ num * t ↔ -den ≤ num := ⟨fun h => Int.le_of_mul_le_mul_right (by rw [Int.neg_mul]; exact h) ht, fun h => by have := Int.mul_le_mul_of_nonneg_right h (Int.le_of_lt ht); rw [Int.neg_mul] at this; exact this⟩
  have a4 : 0 ≤ num * t ↔ 0 ≤ num := ⟨fun h => Int.le_of_mul_le_mul_right (by rw [Int.zero_mul]; exact h) ht, fun h => Int.mul_nonneg h (Int.le_of_lt ht)⟩
  unfold Shr
  rw [a1, a2, a3, a4]
theorem shr_own {k t : Int} {c : Nat} (h : Kind9 k) (ht : 0 < t) (hc : c ≤ 255) : Shr k (num10 k c * t) (den9 k * t) := by
  rw [shr_scale ht]
  obtain ⟨_, h1, _, _, _, h2, h3⟩ := facts10 h
  have u : num10 k c ≤ den9 k := by
    rcases Nat.lt_or_ge c 255 with e | e
    · have := num10_up h e (Nat.le_refl _); omega
    · obtain rfl : c = 255 := by omega
      omega
  have l : num10 k 0 ≤ num10 k c := by
    rcases Nat.eq_zero_or_pos c with e | e
    · subst e; exact Int.le_refl _
    · exact Int.le_of_lt (num10_up h e hc)
  refine ⟨h, by omega, u, ?_, ?_⟩
  · cases hs : sig9 k with
    | true => rw [hs] at h2; have := of_decide_eq_true (by simpa using h2 : decide (-den9 k ≤ num10 k 0) = true); omega
    | false => rw [hs] at h2; have := of_decide_eq_true (by simpa using h2 : decide (num10 k 0 = 0) = true); omega
  · cases hs : sig9 k with
    | true => exact .inr rfl
    | false => rw [hs] at h2; have := of_decide_eq_true (by simpa using h2 : decide (num10 k 0 = 0) = true); exact .inl (by omega)
theorem between10 {y : Nat → Int} {x : Int} : ∀ m, x ≤ y 0 ∨ (∃ j, j < m ∧ y j ≤ x ∧ x ≤ y (j + 1)) ∨ y m ≤ x
  | 0 => by rcases Int.le_total x (y 0) with h | h; exact .inl h; exact .inr (.inr h)
  | m + 1 => by
    rcases between10 (y := y) (x := x) m with h | ⟨j, h⟩ | h
    · exact .inl h
    · exact .inr (.inl ⟨j, by omega, h.2⟩)
    · rcases Int.le_total x (y (m + 1)) with h' | h'
      · exact .inr (.inl ⟨m, by omega, h, h'⟩)
      · exact .inr (.inr h')
theorem near10_half {k num den : Int} (h : Shr k num den) : dst k num den (near10 k num den) + dst k num den (near10 k num den) ≤ gap9 k * den := by
  obtain ⟨hk, hd, h1, h2, h3⟩ := h
  obtain ⟨_, f1, _, _, f2, _, f3⟩ := facts10 hk
  have hL := fun c hc => (near10_least (k := k) (num := num) (den := den) (c := c) hc).1
  have g0 : 0 ≤ gap9 k * den := Int.mul_nonneg (gap9_bd k).1 (by omega)
  have u : num * den9 k ≤ den9 k * den := by rw [Int.mul_comm (den9 k)]; exact Int.mul_le_mul_of_nonneg_right h1 (Int.le_of_lt f3)
  rcases between10 (y := fun c => num10 k c * den) (x := num * den9 k) 255 with e | ⟨j, hj, e1, e2⟩ | e
  · have h0 := hL 0 (by omega)
    cases hs : sig9 k with
    | true =>
      rw [hs] at f2
      have f2 := of_decide_eq_true (by simpa using f2 : decide (2 * (num10 k 0 + den9 k) ≤ gap9 k) = true)
      have l := Int.mul_le_mul_of_nonneg_right h2 (Int.le_of_lt f3)
      have m := Int.mul_le_mul_of_nonneg_right f2 (show (0 : Int) ≤ den by omega)
      rw [Int.neg_mul, Int.mul_comm den] at l
      rw [Int.mul_assoc, Int.add_mul] at m
      unfold dst at *
      omega
    | false =>
      rw [hs] at f2
      have f2 := of_decide_eq_true (by simpa using f2 : decide (num10 k 0 = 0) = true)
      have hn : 0 ≤ num := by rcases h3 with h3 | h3; exact h3; rw [hs] at h3; cases h3
      have l := Int.mul_nonneg hn (Int.le_of_lt f3)
      unfold dst at *
      rw [f2, Int.zero_mul] at e h0
      omega
  · have h0 := hL j (by omega)
    have h1 := hL (j + 1) (by omega)
    have m := Int.mul_le_mul_of_nonneg_right (num10_step hk hj).2 (show (0 : Int) ≤ den by omega)
    rw [Int.sub_mul] at m
    unfold dst at *
    omega
  · have h0 := hL 255 (by omega)
    simp only [f1] at e
    unfold dst at *
    rw [f1] at h0
    omega
theorem near10_tie {k num den : Int} {c : Nat} (hc : c ≤ 255) (h : ¬ dst k num den (near10 k num den) < dst k num den c) : dst k num den (near10 k num den) = dst k num den c ∧ near10 k num den ≤ c := by
  have l := near10_least (k := k) (num := num) (den := den) hc
  refine ⟨by omega, ?_⟩
  rcases Nat.lt_or_ge c (near10 k num den) with e | e
  · exact absurd (l.2 e) h
  · exact e
end Go.Proofs.YtpephogadljncaaGreat

/-
  Plain arithmetic: digits to the base 2 to the power of 32, as the reference reckons.
-/
namespace Go.Proofs.YtpephogadljncaaGreat

/-- 2 to the power of 32, behind a name. -/
def H32 : Nat := 4294967296
theorem H32_pos : 0 < H32 := by unfold H32; omega
theorem H32_gt : 1 < H32 := by unfold H32; omega
theorem H32_sq : H32 * H32 = B64 := rfl
theorem H32_lt : H32 < B64 := by unfold H32 B64; omega

/-- The number of figures of 32 bits, the lowest first. -/
def valH : List Nat → Nat
  | [] => 0
  | x :: xs => x + H32 * valH xs
def DigH (l : List Nat) : Prop := ∀ x ∈ l, x < H32

theorem valH_nil : valH [] = 0 := rfl
theorem valH_cons (x : Nat) (xs : List Nat) : valH (x :: xs) = x + H32 * valH xs := rfl
theorem DigH.nil : DigH [] := fun _ h => by cases h
theorem DigH.dig {l : List Nat} (h : DigH l) : Dig l := fun x hx => Nat.lt_trans (h x hx) H32_lt
theorem DigH.snoc {x : Nat} {xs : List Nat} (h : DigH xs) (hx : x < H32) : DigH (xs ++ [x]) := fun y hy => by
  rcases List.mem_append.1 hy with hy | hy
  · exact h y hy
  · simp at hy; subst hy; exact hx
theorem DigH.get {l : List Nat} (h : DigH l) (j : Nat) : l[j]?.getD 0 < H32 := by
  by_cases hj : j < l.length
  · simp [hj]; exact h _ (List.getElem_mem hj)
  · rw [List.getElem?_eq_none (by omega)]; exact H32_pos
theorem DigH.set {l : List Nat} (h : DigH l) (k : Nat) {d : Nat} (hd : d < H32) : DigH (l.set k d) := fun x hx => by
  rcases List.mem_or_eq_of_mem_set hx with h1 | h1
  · exact h x h1
  · rw [h1]; exact hd

theorem valH_lt {l : List Nat} (hd : DigH l) : valH l < H32 ^ l.length := by
  induction l with
  | nil => simp [valH_nil]
  | cons x xs ih =>
    rw [valH_cons, List.length_cons, Nat.pow_succ, Nat.mul_comm (H32 ^ xs.length)]
    have h1 := ih fun y hy => hd y (List.mem_cons_of_mem _ hy)
    have h2 := hd x List.mem_cons_self
    have h3 : H32 * (valH xs + 1) ≤ H32 * H32 ^ xs.length := Nat.mul_le_mul_left _ h1
    rw [Nat.mul_add, Nat.mul_one] at h3
    omega

theorem valH_snoc (l : List Nat) (x : Nat) : valH (l ++ [x]) = valH l + H32 ^ l.length * x := by
  induction l with
  | nil => simp [valH_cons, valH_nil]
  | cons y ys ih =>
    rw [List.cons_append, valH_cons, ih, valH_cons, List.length_cons, Nat.pow_succ, Nat.mul_add]
    rw [← Nat.mul_assoc, Nat.mul_comm H32 (H32 ^ ys.length)]
    omega

theorem valH_take_succ (l : List Nat) (k : Nat) : valH (l.take (k + 1)) = valH (l.take k) + H32 ^ k * l[k]?.getD 0 := by
  by_cases hk : k < l.length
  · rw [List.take_succ_eq_append_getElem hk, valH_snoc, List.length_take, Nat.min_eq_left (by omega)]
    simp [hk]
  · rw [List.take_of_length_le (by omega), List.take_of_length_le (by omega), List.getElem?_eq_none (by omega)]
    simp

theorem valH_take_lt {l : List Nat} (h : DigH l) (k : Nat) : valH (l.take k) < H32 ^ k :=
  Nat.lt_of_lt_of_le (valH_lt fun x hx => h x (List.mem_of_mem_take hx)) (Nat.pow_le_pow_right H32_pos (List.length_take_le _ _))

theorem valH_set {l : List Nat} {k : Nat} (hk : k < l.length) (d : Nat) : valH (l.set k d) + H32 ^ k * l[k]?.getD 0 = valH l + H32 ^ k * d := by
  induction l generalizing k with
  | nil => simp at hk
  | cons x xs ih =>
    cases k with
    | zero => simp [valH_cons]; omega
    | succ k =>
      have h := ih (k := k) (by simpa using hk)
      rw [List.set_cons_succ, valH_cons, valH_cons, List.getElem?_cons_succ, Nat.pow_succ, Nat.mul_comm (H32 ^ k) H32, Nat.mul_assoc, Nat.mul_assoc]
      have h2 : H32 * (valH (xs.set k d) + H32 ^ k * xs[k]?.getD 0) = H32 * (valH xs + H32 ^ k * d) := by rw [h]
      rw [Nat.mul_add, Nat.mul_add] at h2
      omega

theorem valH_zeros (n : Nat) : valH (List.replicate n 0) = 0 := by
  induction n with
  | zero => rfl
  | succ n ih => rw [List.replicate_succ, valH_cons, ih]; simp
theorem digH_zeros (n : Nat) : DigH (List.replicate n 0) := fun x hx => by rw [(List.mem_replicate.1 hx).2]; exact H32_pos

/-- The lower and the upper half of a digit. -/
def loH (x : Nat) : Nat := x % H32
def hiH (x : Nat) : Nat := x / H32
theorem loH_lt (x : Nat) : loH x < H32 := Nat.mod_lt _ H32_pos
theorem hiH_lt {x : Nat} (h : x < B64) : hiH x < H32 := by unfold hiH; rw [Nat.div_lt_iff_lt_mul H32_pos, H32_sq]; exact h
theorem half_split (x : Nat) : loH x + H32 * hiH x = x := Nat.mod_add_div _ _

/-- A number's figures. -/
def halvesL : List Nat → List Nat
  | [] => []
  | x :: xs => loH x :: hiH x :: halvesL xs
theorem halvesL_length (l : List Nat) : (halvesL l).length = 2 * l.length := by
  induction l with
  | nil => rfl
  | cons x xs ih => simp only [halvesL, List.length_cons, ih]; omega
theorem halvesL_snoc (l : List Nat) (x : Nat) : halvesL (l ++ [x]) = halvesL l ++ [loH x, hiH x] := by
  induction l with
  | nil => rfl
  | cons y ys ih => simp only [List.cons_append, halvesL, ih]
theorem halvesL_dig {l : List Nat} (h : Dig l) : DigH (halvesL l) := by
  induction l with
  | nil => exact DigH.nil
  | cons x xs ih =>
    intro y hy
    simp only [halvesL, List.mem_cons] at hy
    rcases hy with rfl | rfl | hy
    · exact loH_lt _
    · exact hiH_lt h.head
    · exact ih h.tail y hy
theorem halvesL_val (l : List Nat) : valH (halvesL l) = val l := by
  induction l with
  | nil => rfl
  | cons x xs ih =>
    simp only [halvesL, valH_cons, val_cons, ih]
    have := half_split x
    have e : H32 * (hiH x + H32 * val xs) = H32 * hiH x + B64 * val xs := by rw [Nat.mul_add, ← Nat.mul_assoc, H32_sq]
    omega

/-- Two figures as a digit. -/
def join (a b : Nat) : Nat := a + b * H32
theorem join_lt {a b : Nat} (ha : a < H32) (hb : b < H32) : join a b < B64 := by
  unfold join
  have : (b + 1) * H32 ≤ H32 * H32 := Nat.mul_le_mul_right _ hb
  rw [H32_sq, Nat.add_mul, Nat.one_mul] at this
  omega

/-- Digits of the first 2k figures. -/
def joinL (l : List Nat) (k : Nat) : List Nat := (List.range k).map fun j => join (l[2 * j]?.getD 0) (l[2 * j + 1]?.getD 0)
theorem joinL_length (l : List Nat) (k : Nat) : (joinL l k).length = k := by simp [joinL]
theorem joinL_succ (l : List Nat) (k : Nat) : joinL l (k + 1) = joinL l k ++ [join (l[2 * k]?.getD 0) (l[2 * k + 1]?.getD 0)] := by simp [joinL, List.range_succ]
theorem joinL_dig {l : List Nat} (h : DigH l) (k : Nat) : Dig (joinL l k) := fun x hx => by
  obtain ⟨j, _, rfl⟩ := List.mem_map.1 hx
  exact join_lt (h.get _) (h.get _)
theorem joinL_val (l : List Nat) (k : Nat) : val (joinL l k) = valH (l.take (2 * k)) := by
  induction k with
  | zero => simp [joinL, val_nil, valH_nil]
  | succ k ih =>
    rw [joinL_succ, val_snoc, joinL_length, ih, show 2 * (k + 1) = 2 * k + 1 + 1 by omega, valH_take_succ, valH_take_succ]
    have e : B64 ^ k = H32 ^ (2 * k) := by rw [← H32_sq, Nat.pow_mul, Nat.pow_two]
    rw [e, join, Nat.mul_add, Nat.pow_succ]
    have : H32 ^ (2 * k) * (l[2 * k + 1]?.getD 0 * H32) = H32 ^ (2 * k) * H32 * l[2 * k + 1]?.getD 0 := by ac_rfl
    omega

/-- Three figures' sum, in two parts. -/
theorem div_le_one {x y c : Nat} (hx : x < H32) (hy : y < H32) (hc : c ≤ 1) : hiH (x + y + c) ≤ 1 := by
  unfold hiH
  have : (x + y + c) / H32 < 2 := (Nat.div_lt_iff_lt_mul H32_pos).2 (by omega)
  omega

end Go.Proofs.YtpephogadljncaaGreat

/-
  Plain arithmetic: digits by division, powers of 2, binary figures.
-/
namespace Go.Proofs.YtpephogadljncaaGreat

/-- A number's digit at a place, by division. -/
def dig (y j : Nat) : Nat := y / B64 ^ j % B64
theorem dig_lt (y j : Nat) : dig y j < B64 := Nat.mod_lt _ B64_pos
theorem limbs_get (x j : Nat) : (limbs x)[j]?.getD 0 = dig x j := by
  induction j generalizing x with
  | zero =>
    unfold dig
    rw [Nat.pow_zero, Nat.div_one]
    by_cases h : x = 0
    · subst h; rw [limbs_zero]; simp
    · rw [limbs_pos h]; simp
  | succ j ih =>
    by_cases h : x = 0
    · subst h; rw [limbs_zero]; simp [dig]
    · rw [limbs_pos h, List.getElem?_cons_succ, ih]
      unfold dig
      rw [Nat.div_div_eq_div_mul, Nat.pow_succ, Nat.mul_comm B64]
/-- The first k digits. -/
def digs (y k : Nat) : List Nat := (List.range k).map (dig y)
theorem digs_length (y k : Nat) : (digs y k).length = k := by simp [digs]
theorem digs_succ (y k : Nat) : digs y (k + 1) = digs y k ++ [dig y k] := by simp [digs, List.range_succ]
theorem digs_dig (y k : Nat) : Dig (digs y k) := fun x hx => by
  obtain ⟨j, _, rfl⟩ := List.mem_map.1 hx
  exact dig_lt _ _
theorem digs_get {y k j : Nat} (h : j < k) : (digs y k)[j]?.getD 0 = dig y j := by simp [digs, h]
theorem digs_val (y k : Nat) : val (digs y k) = y % B64 ^ k := by
  induction k with
  | zero => simp [digs, val_nil, Nat.mod_one]
  | succ k ih =>
    rw [digs_succ, val_snoc, digs_length, ih, dig, Nat.pow_succ, Nat.mod_mul]
theorem digs_all {y k : Nat} (h : y < B64 ^ k) : val (digs y k) = y := by rw [digs_val, Nat.mod_eq_of_lt h]

theorem B64_two : B64 = 2 ^ 64 := rfl
theorem B64_pow2 (j : Nat) : B64 ^ j = 2 ^ (64 * j) := by rw [B64_two, Nat.pow_mul]

/-- 2 to a power, behind a name. -/
def pw (k : Nat) : Nat := 2 ^ k
theorem pw_zero : pw 0 = 1 := rfl
theorem pw_succ (k : Nat) : pw (k + 1) = pw k * 2 := Nat.pow_succ ..
theorem pw_pos (k : Nat) : 0 < pw k := Nat.pow_pos (by omega)
theorem pw_lt {k : Nat} (h : k < 64) : pw k < B64 := by rw [B64_two]; exact (Nat.pow_lt_pow_iff_right (by omega)).2 h
theorem pw_limbs (n : Nat) : (List.replicate (n / 64 + 1) 0).set (n / 64) (pw (n % 64)) = limbs (2 ^ n) := by
  have hz : ∀ m, val (List.replicate m 0) = 0 := fun m => by
    induction m with
    | zero => rfl
    | succ m ih => rw [List.replicate_succ, val_cons, ih]; simp
  have h1 := val_set (l := List.replicate (n / 64 + 1) 0) (k := n / 64) (by simp) (pw (n % 64))
  have h0 : (List.replicate (n / 64 + 1) 0)[n / 64]?.getD 0 = 0 := by simp
  rw [h0, hz, Nat.mul_zero, Nat.add_zero, Nat.zero_add] at h1
  have h2 : B64 ^ (n / 64) * pw (n % 64) = 2 ^ n := by
    rw [B64_pow2, pw, ← Nat.pow_add]
    congr 1
    omega
  rw [h2] at h1
  rw [← h1]
  refine eq_limbs (Dig.set (fun x hx => by rw [(List.mem_replicate.1 hx).2]; exact B64_pos) _ (pw_lt (Nat.mod_lt _ (by omega)))) fun _ => ?_
  rw [List.length_set, List.length_replicate, Nat.add_sub_cancel, h1, ← h2]
  exact Nat.le_mul_of_pos_right _ (pw_pos _)

/-- A binary figure. -/
def bitN (x i : Nat) : Nat := x / 2 ^ i % 2
theorem bitN_lt (x i : Nat) : bitN x i < 2 := Nat.mod_lt _ (by omega)
theorem bitN_dig (x i : Nat) : dig x (i / 64) / 2 ^ (i % 64) % 2 = bitN x i := by
  have h : ∀ y s : Nat, s < 64 → y % B64 / 2 ^ s % 2 = y / 2 ^ s % 2 := fun y s hs => by
    have e : B64 = 2 ^ s * 2 ^ (64 - s) := by rw [B64_two, ← Nat.pow_add]; congr 1; omega
    rw [e, Nat.mod_mul_right_div_self]
    obtain ⟨r, hr⟩ : ∃ r, 64 - s = r + 1 := ⟨64 - s - 1, by omega⟩
    rw [hr, Nat.pow_succ, Nat.mul_comm]
    exact Nat.mod_mul_right_mod _ _ _
  unfold dig bitN
  rw [h _ _ (Nat.mod_lt _ (by omega)), B64_pow2, Nat.div_div_eq_div_mul, ← Nat.pow_add]
  congr 3
  omega

/-- Two digits, shifted down by k places, the lower digit. -/
def sh2 (x y k : Nat) : Nat := (x + B64 * y) / 2 ^ k % B64
theorem sh2_lt (x y k : Nat) : sh2 x y k < B64 := Nat.mod_lt _ B64_pos
theorem sh2_zero {x : Nat} (hx : x < B64) (y : Nat) : sh2 x y 0 = x := by
  unfold sh2
  rw [Nat.pow_zero, Nat.div_one, Nat.add_mul_mod_self_left, Nat.mod_eq_of_lt hx]
theorem sh2_succ {x : Nat} (hx : x < B64) (y k : Nat) : sh2 x y k / 2 + y / 2 ^ k % 2 * 9223372036854775808 = sh2 x y (k + 1) := by
  have h1 : (x + B64 * y) / 2 ^ k / B64 = y / 2 ^ k := by
    rw [Nat.div_div_eq_div_mul, Nat.mul_comm (2 ^ k) B64, ← Nat.div_div_eq_div_mul, Nat.add_mul_div_left _ _ B64_pos, Nat.div_eq_of_lt hx, Nat.zero_add]
  have h2 : sh2 x y (k + 1) = (x + B64 * y) / 2 ^ k / 2 % B64 := by unfold sh2; rw [Nat.pow_succ, ← Nat.div_div_eq_div_mul]
  rw [h2]
  unfold sh2
  rw [← h1]
  generalize (x + B64 * y) / 2 ^ k = u
  unfold B64
  omega

theorem sh2_dig (x i s : Nat) (hs : s < 64) : sh2 (dig x i) (dig x (i + 1)) s = x / B64 ^ i / 2 ^ s % B64 := by
  have h1 : dig x i + B64 * dig x (i + 1) = x / B64 ^ i % (B64 * B64) := by
    unfold dig
    rw [Nat.mod_mul, Nat.pow_succ, Nat.div_div_eq_div_mul]
  unfold sh2
  rw [h1]
  generalize x / B64 ^ i = m
  have e : B64 * B64 = 2 ^ s * (B64 * 2 ^ (64 - s)) := by
    have e2 : 2 ^ s * 2 ^ (64 - s) = B64 := by rw [B64_two, ← Nat.pow_add]; congr 1; omega
    calc B64 * B64 = B64 * (2 ^ s * 2 ^ (64 - s)) := by rw [e2]
      _ = 2 ^ s * (B64 * 2 ^ (64 - s)) := by ac_rfl
  rw [e, Nat.mod_mul_right_div_self]
  exact Nat.mod_mul_right_mod _ _ _

/-- A digit of what is shifted down. -/
theorem shr_dig (x n j : Nat) : sh2 (dig x (n / 64 + j)) (dig x (n / 64 + j + 1)) (n % 64) = dig (x / 2 ^ n) j := by
  rw [sh2_dig _ _ _ (Nat.mod_lt _ (by omega))]
  unfold dig
  congr 1
  rw [B64_pow2, B64_pow2, Nat.div_div_eq_div_mul, Nat.div_div_eq_div_mul, ← Nat.pow_add, ← Nat.pow_add]
  congr 2
  omega

theorem shr_lt {x n k : Nat} (h : x < B64 ^ k) : x / 2 ^ n < B64 ^ (k - n / 64) := by
  rcases Nat.lt_or_ge (n / 64) k with h1 | h1
  · rw [Nat.div_lt_iff_lt_mul (Nat.pow_pos (by omega))]
    refine Nat.lt_of_lt_of_le h ?_
    have e : B64 ^ k = B64 ^ (k - n / 64) * B64 ^ (n / 64) := by rw [← Nat.pow_add]; congr 1; omega
    rw [e]
    refine Nat.mul_le_mul_left _ ?_
    rw [B64_pow2]
    exact Nat.pow_le_pow_right (by omega) (by omega)
  · have h2 : x < 2 ^ n := by
      refine Nat.lt_of_lt_of_le h ?_
      rw [B64_pow2]
      exact Nat.pow_le_pow_right (by omega) (by omega)
    rw [Nat.div_eq_of_lt h2]
    exact Nat.pow_pos B64_pos

end Go.Proofs.YtpephogadljncaaGreat

/-
  Plain arithmetic: a division bit by bit.
-/
namespace Go.Proofs.YtpephogadljncaaGreat

/-- Of a quotient F: what digit t holds when all binary figures from m on are known. -/
def qd (F m t : Nat) : Nat := F / 2 ^ (max m (64 * t)) % 2 ^ (64 * (t + 1) - max m (64 * t))
theorem qd_lt (F m t : Nat) : qd F m t < B64 := by
  unfold qd
  refine Nat.lt_of_lt_of_le (Nat.mod_lt _ (Nat.pow_pos (by omega))) ?_
  rw [B64_two]
  exact Nat.pow_le_pow_right (by omega) (by omega)
theorem qd_none {F m : Nat} (h : F < 2 ^ m) (t : Nat) : qd F m t = 0 := by
  unfold qd
  have : F < 2 ^ (max m (64 * t)) := Nat.lt_of_lt_of_le h (Nat.pow_le_pow_right (by omega) (by omega))
  rw [Nat.div_eq_of_lt this, Nat.zero_mod]
theorem qd_done (F t : Nat) : qd F 0 t = dig F t := by
  unfold qd dig
  have e1 : max 0 (64 * t) = 64 * t := by omega
  have e2 : 64 * (t + 1) - 64 * t = 64 := by omega
  rw [e1, e2, B64_pow2]
  rfl
theorem qd_other {F i t : Nat} (h : t ≠ i / 64) : qd F i t = qd F (i + 1) t := by
  unfold qd
  rcases Nat.lt_or_ge t (i / 64) with h1 | h1
  · have e1 : 64 * (t + 1) - max i (64 * t) = 0 := by omega
    have e2 : 64 * (t + 1) - max (i + 1) (64 * t) = 0 := by omega
    rw [e1, e2, Nat.pow_zero, Nat.mod_one, Nat.mod_one]
  · have e1 : max i (64 * t) = 64 * t := by omega
    have e2 : max (i + 1) (64 * t) = 64 * t := by omega
    rw [e1, e2]
theorem qd_same (F i : Nat) : qd F i (i / 64) = 2 * qd F (i + 1) (i / 64) + bitN F i := by
  unfold qd bitN
  have e1 : max i (64 * (i / 64)) = i := by omega
  have e2 : max (i + 1) (64 * (i / 64)) = i + 1 := by omega
  obtain ⟨e, he⟩ : ∃ e, 64 * (i / 64 + 1) - i = e + 1 := ⟨64 * (i / 64 + 1) - i - 1, by omega⟩
  have he2 : 64 * (i / 64 + 1) - (i + 1) = e := by omega
  rw [e1, e2, he, he2, Nat.pow_succ 2 i, ← Nat.div_div_eq_div_mul, Nat.pow_succ, Nat.mul_comm (2 ^ e) 2, Nat.mod_mul]
  omega
theorem qd_room (F i : Nat) : 2 * qd F (i + 1) (i / 64) + 1 < B64 := by
  have h : qd F (i + 1) (i / 64) < 2 ^ 63 := by
    unfold qd
    refine Nat.lt_of_lt_of_le (Nat.mod_lt _ (Nat.pow_pos (by omega))) ?_
    exact Nat.pow_le_pow_right (by omega) (by omega)
  unfold B64
  omega

/-- The digits of a quotient when all binary figures from m on are known. -/
def qlist (F m n : Nat) : List Nat := (List.range n).map (qd F m)
theorem qlist_length (F m n : Nat) : (qlist F m n).length = n := by simp [qlist]
theorem qlist_dig (F m n : Nat) : Dig (qlist F m n) := fun x hx => by
  obtain ⟨j, _, rfl⟩ := List.mem_map.1 hx
  exact qd_lt _ _ _
theorem qlist_get {F m n t : Nat} (h : t < n) : (qlist F m n)[t]?.getD 0 = qd F m t := by simp [qlist, h]
theorem qlist_none {F m : Nat} (h : F < 2 ^ m) (n : Nat) : qlist F m n = List.replicate n 0 := by
  apply List.ext_getElem
  · simp [qlist]
  · intro i h1 h2
    simp [qlist, qd_none h]
theorem qlist_done (F n : Nat) : qlist F 0 n = digs F n := by
  unfold qlist digs
  congr 1
  funext t
  exact qd_done F t
theorem qlist_set (F i n : Nat) : (qlist F (i + 1) n).set (i / 64) (qd F i (i / 64)) = qlist F i n := by
  apply List.ext_getElem
  · simp [qlist]
  · intro j h1 h2
    rw [List.getElem_set]
    by_cases h : i / 64 = j
    · simp [h, qlist]
    · rw [if_neg h]
      simp only [qlist, List.getElem_map, List.getElem_range]
      exact (qd_other (fun e => h e.symm)).symm

/-- One binary figure of a division. -/
theorem div_step {x y : Nat} (hy : 0 < y) (i : Nat) :
    (x / 2 ^ i) % y = (if y ≤ 2 * (x / 2 ^ (i + 1) % y) + bitN x i then 2 * (x / 2 ^ (i + 1) % y) + bitN x i - y else 2 * (x / 2 ^ (i + 1) % y) + bitN x i) ∧
    bitN (x / y) i = (if y ≤ 2 * (x / 2 ^ (i + 1) % y) + bitN x i then 1 else 0) := by
  have h1 : x / 2 ^ i = 2 * (x / 2 ^ (i + 1)) + bitN x i := by
    unfold bitN
    rw [Nat.pow_succ, ← Nat.div_div_eq_div_mul]
    omega
  have hb := bitN_lt x i
  have h2 := Nat.div_add_mod (x / 2 ^ (i + 1)) y
  have hr := Nat.mod_lt (x / 2 ^ (i + 1)) hy
  have h3 : x / y / 2 ^ i = x / 2 ^ i / y := by rw [Nat.div_div_eq_div_mul, Nat.div_div_eq_div_mul, Nat.mul_comm]
  have h4 : bitN (x / y) i = x / 2 ^ i / y % 2 := by unfold bitN; rw [h3]
  rw [h4, h1]
  generalize x / 2 ^ (i + 1) % y = r at *
  generalize x / 2 ^ (i + 1) / y = q at *
  generalize x / 2 ^ (i + 1) = u at *
  generalize bitN x i = b at *
  subst h2
  have e : 2 * (y * q + r) + b = (2 * r + b) + y * (2 * q) := by
    have : y * (2 * q) = 2 * (y * q) := by ac_rfl
    omega
  rw [e, Nat.add_mul_mod_self_left, Nat.add_mul_div_left _ _ hy]
  split
  · rename_i h
    have e1 : (2 * r + b) % y = 2 * r + b - y := by rw [Nat.mod_eq_sub_mod h, Nat.mod_eq_of_lt (by omega)]
    have e2 : (2 * r + b) / y = 1 := by
      rw [Nat.div_eq_sub_div hy h, Nat.div_eq_of_lt (by omega)]
    rw [e1, e2]
    exact ⟨rfl, by omega⟩
  · rename_i h
    have e1 : (2 * r + b) % y = 2 * r + b := Nat.mod_eq_of_lt (by omega)
    have e2 : (2 * r + b) / y = 0 := Nat.div_eq_of_lt (by omega)
    rw [e1, e2]
    exact ⟨rfl, by omega⟩

end Go.Proofs.YtpephogadljncaaGreat

/-
  The contracts of the reference's Bare and Of.
-/
namespace Go.Proofs.YtpephogadljncaaGreat
set_option maxRecDepth 100000
set_option maxHeartbeats 2000000
open Go.RowKit

theorem isL_of_own {w : World} {base : Nat} {e : TypeId} {v : Value} {n : Nat} {l : List Nat} (h : w.ownsRow base e 1 v n (l.map encD)) (hd : Dig l) : ∃ A c, v = .slice A n c ∧ Lim w.heap.size w A n c l := by
  rcases h.2 with ⟨rfl, rfl⟩ | ⟨g, cap, cur, rfl, _⟩
  · exact ⟨none, 0, rfl, Lim.of_own h hd⟩
  · exact ⟨_, _, rfl, Lim.of_own h hd⟩

/-- A slice lies in new memory: in a block from B on, if it has anything. -/
def Fresh (B : Nat) (A : Option Addr) (n : Nat) : Prop := 0 < n → ∃ b off, A = some ⟨b, off, none⟩ ∧ B ≤ b
theorem Fresh.mono {B B' : Nat} {A : Option Addr} {n : Nat} (h : Fresh B A n) (hB : B' ≤ B) : Fresh B' A n := fun h0 => by
  obtain ⟨b, off, e, hb⟩ := h h0
  exact ⟨b, off, e, Nat.le_trans hB hb⟩
theorem fresh_of_own {w : World} {base : Nat} {e : TypeId} {A : Option Addr} {n c : Nat} {xs : List Value} (h : w.ownsRow base e 1 (.slice A n c) n xs) : Fresh base A n := fun h0 => by
  rcases h.2 with ⟨_, h1⟩ | ⟨g, cap, cur, e1, hb, _⟩
  · omega
  · injection e1 with e2
    exact ⟨g, 0, e2, hb⟩
/-- A call has answered a number in new memory, and nothing that was there has changed. -/
def GotNF (w : World) (x : Nat) (e : Ending) (w' : World) : Prop := ∃ A n c, e = .returned (.slice A n c) ∧ Num w' A n c x ∧ Below w.heap.size w w' ∧ Fresh w.heap.size A n
theorem GotNF.weak {w w' : World} {x : Nat} {e : Ending} (h : GotNF w x e w') : GotN w x e w' := by
  obtain ⟨A, n, c, he, hl, hb, _⟩ := h
  exact ⟨A, n, c, he, hl, hb⟩
/-- Likewise, with a code. -/
def GotPF (w : World) (x : Nat) (r : Int) (e : Ending) (w' : World) : Prop := ∃ A n c, e = .returned (.tuple #[.slice A n c, .int .i64 r]) ∧ Num w' A n c x ∧ Below w.heap.size w w' ∧ Fresh w.heap.size A n
theorem GotPF.weak {w w' : World} {x : Nat} {r : Int} {e : Ending} (h : GotPF w x r e w') : GotP w x r e w' := by
  obtain ⟨A, n, c, he, hl, hb, _⟩ := h
  exact ⟨A, n, c, he, hl, hb⟩

theorem own_empty (w : World) (base : Nat) (h : base ≤ w.heap.size) : (w.alloc (.cells #[] 37)).ownsRow base 37 1 (.slice (some ⟨w.heap.size, 0, none⟩) 0 0) 0 [] :=
  ⟨rfl, .inr ⟨w.heap.size, 0, #[], rfl, h, heap_alloc_new w _, Nat.le_refl _, by unfold maxLen; omega, rfl, rfl⟩⟩

theorem encD_one (l : List Nat) : ∀ u ∈ l.map encD, u.oneCell' = true := fun u hu => by
  obtain ⟨x, _, rfl⟩ := List.mem_map.1 hu
  rfl

theorem bare_F (b off n c : Nat) (l : List Nat) (w : World) (h : Lim w.heap.size w (some ⟨b, off, none⟩) n c l) (hn : n ≤ 4294967296) (hc : ∀ j, j < n → w.cell? ⟨b, off + j, none⟩ = some (.int .u64 ((l[j]?.getD 0 : Nat) : Int))) (hb : 0 < n → b < w.heap.size) :
    Calls Tryz.prog 72 #[.slice (some ⟨b, off, none⟩) n c] w (GotNF w (val l)) := by
  obtain ⟨i0, hi, hz0, hz1, hz2⟩ := info_parts info24
  obtain ⟨hl, hcap, hdg, _⟩ := h
  have HL := Lib.hid hl
  clear hl
  go_enter Tryz.func72, Tryz.ntmps72
  go_wp2
  go_loop [3] (fun v => ∃ k : Nat, k ≤ n ∧ v = .int .i64 (k : Int) ∧ Hid (val (l.take k) = val l)) (fun v => (intOf v).toNat)
  case atStart => exact ⟨n, Nat.le_refl _, rfl, by rw [List.take_of_length_le (by have := HL.out; omega)]; exact Lib.hid rfl⟩
  case round =>
    obtain ⟨k, hk, rfl, hv⟩ := hrel
    by_cases hz : 0 < k ∧ l[k - 1]?.getD 0 = 0
    · obtain ⟨hk0, hz⟩ := hz
      obtain ⟨j, hj⟩ : ∃ j, k = j + 1 := ⟨k - 1, by omega⟩
      subst hj
      rw [Nat.add_sub_cancel] at hz
      have h1 := hc j (by omega)
      have hzb : (((l[j]?.getD 0 : Nat) : Int) == 0) = true := by simp [hz]
      have HZ := Lib.hid hz
      have HC := Lib.hid hc
      clear hz hc
      go_wp2
      go_round
      case rel => exact ⟨j, by omega, by go_num, Lib.hid (val_take_zero HZ.out hv.out)⟩
      case measure => simp [intOf]
    · have hne : 0 < k → l[k - 1]?.getD 0 ≠ 0 := fun h0 h1 => hz ⟨h0, h1⟩
      have ht := take_limbs hdg (by have := HL.out; omega) hv.out hne
      have HT := Lib.hid ht
      have hcells : ∀ (j : Nat) u, ((l.take k).map encD)[j]? = some u → (w.alloc (.cells #[] 37)).cell? ((⟨b, off, none⟩ : Addr).add j) = some u := by
        intro j u hu
        have hj : j < k := by
          have := (List.getElem?_eq_some_iff.1 hu).1
          simp at this; omega
        have hlj : j < l.length := by have := HL.out; omega
        have e1 : ((⟨b, off, none⟩ : Addr).add j) = ⟨b, off + j, none⟩ := by unfold Addr.add; split <;> simp_all
        rw [e1, World.cell?_alloc_lt w _ _ (hb (by omega)), hc j (by omega)]
        rw [List.getElem?_map, List.getElem?_take_of_lt hj, List.getElem?_eq_getElem hlj] at hu
        simp only [List.getElem?_eq_getElem hlj, Option.getD_some]
        exact hu
      have HCE := Lib.hid hcells
      have htest : (k = 0) ∨ (∃ j, k = j + 1 ∧ (((l[j]?.getD 0 : Nat) : Int) == 0) = false ∧ w.cell? ⟨b, off + j, none⟩ = some (.int .u64 ((l[j]?.getD 0 : Nat) : Int))) := by
        rcases Nat.eq_zero_or_pos k with h0 | h0
        · exact .inl h0
        · refine .inr ⟨k - 1, by omega, ?_, hc _ (by omega)⟩
          have := hne h0
          simp; omega
      have hlk : (l.take k).length = k := by rw [List.length_take, Nat.min_eq_left (by have := HL.out; omega)]
      have HLK := Lib.hid hlk
      clear hz hne ht hcells hc hlk
      rcases htest with rfl | ⟨j, rfl, hzb, h1⟩
      · go_wp2_with (at_builtin; go_must (refine wpList_append_own _ rfl _ _ 24 rfl w.heap.size 37 i0 (.int .u64 0) 1 8 Tryz.underlying24 hi hz0 hz1 hz2 rfl (by decide) _ _ _ rfl (own_empty w w.heap.size (Nat.le_refl _)) ⟨b, off, none⟩ (0) _ ((l.take (0)).map encD) rfl (by have := HLK.out; simp only [List.length_map]; omega) HCE.out (encD_one _) (by unfold maxLen; omega) (by omega) (by simp) ?_); intro v' w1 hown1 hgrow1 _)
        go_ret
        rw [List.nil_append] at hown1
        obtain ⟨A', c', rfl, hl'⟩ := isL_of_own hown1 (hdg.take _)
        have hfr := fresh_of_own hown1
        rw [HT.out] at hl'
        exact ⟨_, _, _, rfl, hl', ((Below.refl _ w).alloc (Nat.le_refl _) _).grown hgrow1 (by simp) (fun q e => by injection (show some w.heap.size = some q from e) with e1; omega), hfr⟩
      · go_wp2_with (at_builtin; go_must (refine wpList_append_own _ rfl _ _ 24 rfl w.heap.size 37 i0 (.int .u64 0) 1 8 Tryz.underlying24 hi hz0 hz1 hz2 rfl (by decide) _ _ _ rfl (own_empty w w.heap.size (Nat.le_refl _)) ⟨b, off, none⟩ (j + 1) _ ((l.take (j + 1)).map encD) rfl (by have := HLK.out; simp only [List.length_map]; omega) HCE.out (encD_one _) (by unfold maxLen; omega) (by omega) (by simp) ?_); intro v' w1 hown1 hgrow1 _)
        go_ret
        rw [List.nil_append] at hown1
        obtain ⟨A', c', rfl, hl'⟩ := isL_of_own hown1 (hdg.take _)
        have hfr := fresh_of_own hown1
        rw [HT.out] at hl'
        exact ⟨_, _, _, rfl, hl', ((Below.refl _ w).alloc (Nat.le_refl _) _).grown hgrow1 (by simp) (fun q e => by injection (show some w.heap.size = some q from e) with e1; omega), hfr⟩

theorem bare_any (b off n c : Nat) (l : List Nat) (w : World) (h : Lim w.heap.size w (some ⟨b, off, none⟩) n c l) (hn : n ≤ 4294967296) (hc : ∀ j, j < n → w.cell? ⟨b, off + j, none⟩ = some (.int .u64 ((l[j]?.getD 0 : Nat) : Int))) (hb : 0 < n → b < w.heap.size) :
    Calls Tryz.prog 72 #[.slice (some ⟨b, off, none⟩) n c] w (GotN w (val l)) := (bare_F b off n c l w h hn hc hb).mono fun _ _ h => h.weak

theorem lim_one {x : Nat} (hx : x < B64) (w : World) : Lim (w.alloc (.cells #[.int .u64 (x : Int)] 37)).heap.size (w.alloc (.cells #[.int .u64 (x : Int)] 37)) (some ⟨w.heap.size, 0, none⟩) 1 1 [x] := by
  refine ⟨rfl, Nat.le_refl _, Dig.cons hx Dig.nil, fun _ => ⟨_, _, rfl, by simp, fun j hj => ?_⟩⟩
  obtain rfl : j = 0 := by omega
  exact cell_one_new w _ 37 0 _ rfl

theorem GotN.from {w w1 : World} {x : Nat} {e : Ending} {w' : World} (h : GotN w1 x e w') (hb : Below w.heap.size w w1) : GotN w x e w' := by
  obtain ⟨A, n, c, he, hl, hb'⟩ := h
  exact ⟨A, n, c, he, hl, hb.trans (hb'.mono hb.size)⟩

theorem rof_N (w : World) (x : Nat) (hx : x < B64) : Calls Tryz.prog 47 #[.int .u64 (x : Int)] w (GotN w x) := by
  have hl := lim_one hx w
  have hv : val [x] = x := by simp [val_cons, val_nil]
  have hB := bare_any w.heap.size 0 1 1 [x] _ hl (by omega) (fun j hj => by
    obtain rfl : j = 0 := by omega
    exact cell_one_new w _ 37 0 _ rfl) (fun _ => by simp)
  rw [hv] at hB
  have HB := Lib.hid hB
  clear hB hl hv
  go_enter Tryz.func47, Tryz.ntmps47
  go_wp2_with fail
  refine HB.out.mono ?_
  rintro e w' h
  obtain ⟨A, n, c, rfl, hl, hb⟩ := h.from ((Below.refl _ w).alloc (Nat.le_refl _) _)
  go_wp2_with fail
  go_ret
  exact ⟨A, n, c, rfl, hl, hb⟩

end Go.Proofs.YtpephogadljncaaGreat

/-
  The contracts of the reference's at, halves and whole.
-/
namespace Go.Proofs.YtpephogadljncaaGreat
set_option maxRecDepth 100000
set_option maxHeartbeats 2000000
open Go.RowKit

theorem at_any (B : Nat) (A : Option Addr) (n c k : Nat) (l : List Nat) (w : World) (h : Lim B w A n c l) (hn : n ≤ 9223372036854775807) (hk : k ≤ 9223372036854775807) :
    Calls Tryz.prog 94 #[.slice A n c, .int .i64 k] w fun e w' => e = .returned (.int .u64 ((l[k]?.getD 0 : Nat) : Int)) ∧ w = w' := by
  obtain ⟨hl, hcap, hdg, hc⟩ := h
  by_cases hlt : k < n
  · obtain ⟨b, off, rfl, hb, hcell⟩ := hc (by omega)
    have h1 := hcell k hlt
    clear hcell hc hdg
    have HL := Lib.hid hl
    clear hl
    go_enter Tryz.func94, Tryz.ntmps94
    go_wp2
    go_ret
    exact ⟨rfl, rfl⟩
  · have hz : l[k]?.getD 0 = 0 := by rw [List.getElem?_eq_none (by omega)]; rfl
    have HZ := Lib.hid hz
    clear hc hdg hl hz
    go_enter Tryz.func94, Tryz.ntmps94
    go_wp2
    go_ret
    exact ⟨by rw [HZ.out]; rfl, rfl⟩

theorem tmod_lo (x : Nat) : ((x : Int)).tmod 4294967296 = (loH x : Int) := by
  unfold loH H32
  rw [Int.tmod_eq_emod_of_nonneg (by omega)]
  omega
theorem wrap_hi {x : Nat} (h : x < B64) : IntKind.u64.wrap ((x : Int) / 4294967296) = (hiH x : Int) := by
  rw [IntKind.wrap_u64]
  unfold hiH H32
  unfold B64 at h
  omega

theorem halves_any (A : Option Addr) (n c : Nat) (l : List Nat) (w : World) (h : Lim w.heap.size w A n c l) (hn : n ≤ 2147483648) :
    Calls Tryz.prog 73 #[.slice A n c] w fun e w' => ∃ A' c', e = .returned (.slice A' (2 * n) c') ∧ Lim w'.heap.size w' A' (2 * n) c' (halvesL l) ∧ Below w.heap.size w w' := by
  obtain ⟨i0, hi, hz0, hz1, hz2⟩ := info_parts info24
  have HL := Lib.hid h.1
  go_enter Tryz.func73, Tryz.ntmps73
  go_wp2
  go_loopw [3, 4] (fun ov iv wr => ∃ k : Nat, k ≤ n ∧ iv = .int .i64 (k : Int) ∧ wr.ownsRow w.heap.size 37 1 ov (2 * k) ((halvesL (l.take k)).map encD) ∧ Below w.heap.size w wr) (fun _ iv _ => n - (intOf iv).toNat)
  case atStart => exact ⟨0, Nat.zero_le _, rfl, own_empty w _ (Nat.le_refl _), (Below.refl _ w).alloc (Nat.le_refl _) _⟩
  case round =>
    obtain ⟨k, hk, rfl, hown, hbl⟩ := hrel
    by_cases hlt : k < n
    · obtain ⟨b, off, rfl, hb, hcell⟩ := (h.below hbl).2.2.2 (by omega)
      have h1 := hcell k hlt
      have hdk : l[k]?.getD 0 < B64 := h.2.2.1.get k
      clear hcell
      have HO := Lib.hid hown
      clear hown
      have hk0 : (0 : Int) ≤ (k : Int) := by omega
      have hkn : (k : Int) < (n : Int) := by omega
      go_wp2
      go_region_law ((refine step_append_lies _ rfl _ _ 23 rfl w.heap.size 37 i0 (.int .u64 0) 1 8 Tryz.underlying23 hi hz0 hz1 hz2 rfl (by decide) _ _ _ rfl ((HO.out.alloc _).drew) ⟨wr.heap.size, 0, none⟩ 2 2 [.int .u64 (((l[k]?.getD 0 : Nat) : Int).tmod 4294967296), .int .u64 (IntKind.u64.wrap (((l[k]?.getD 0 : Nat) : Int) / 4294967296))] rfl rfl (fun j u h => cell_two_new wr _ _ 37 j u h) (by simp [Value.oneCell']) (by omega) (by unfold maxLen; omega) (by omega) (by simp; have := hbl.size; omega) _ rfl ?_; intro g cap w1 hown1 hgrow1 hat hlt1))
      all_goals
        go_wp2
        go_roundw
        case rel =>
          refine ⟨k + 1, by omega, by go_num, ?_, ?_⟩
          · have e : halvesL (l.take (k + 1)) = halvesL (l.take k) ++ [loH (l[k]?.getD 0), hiH (l[k]?.getD 0)] := by
              have hkl : k < l.length := by have := HL.out; omega
              rw [List.take_succ_eq_append_getElem hkl, halvesL_snoc]
              simp [hkl]
            rw [e, List.map_append]
            rw [tmod_lo, wrap_hi hdk] at hown1
            exact hown1
          · exact (below_drewN (hbl.alloc hbl.size _) 1).grown hgrow1 (by simp; have := hbl.size; omega) (fun q e => (HO.out.lt q e).1)
        case measure => simp [intOf]; omega
    · obtain rfl : k = n := by omega
      go_wp2
      go_ret
      rw [List.take_of_length_le (by have := HL.out; omega)] at hown
      obtain ⟨A', c', rfl, hl'⟩ := isL_of_own hown (halvesL_dig h.2.2.1).dig
      exact ⟨A', c', rfl, hl', hbl⟩

end Go.Proofs.YtpephogadljncaaGreat

/-
  The contract of the reference's whole: figures of 32 bits as a number.
-/
namespace Go.Proofs.YtpephogadljncaaGreat
set_option maxRecDepth 100000
open Go.RowKit

theorem bare_limF {g off n c : Nat} {l : List Nat} {w : World} (h : Lim w.heap.size w (some ⟨g, off, none⟩) n c l) (hn : n ≤ 4294967296) : Calls Tryz.prog 72 #[.slice (some ⟨g, off, none⟩) n c] w (GotNF w (val l)) := by
  refine bare_F g off n c l w h hn (fun j hj => ?_) (fun h0 => ?_)
  · obtain ⟨b, o, e, _, hc⟩ := h.2.2.2 (by omega)
    injection e with e
    injection e with e1 e2
    subst e1; subst e2
    exact hc j hj
  · obtain ⟨b, o, e, hb, _⟩ := h.2.2.2 h0
    injection e with e
    injection e with e1 e2
    omega

theorem bare_lim {g off n c : Nat} {l : List Nat} {w : World} (h : Lim w.heap.size w (some ⟨g, off, none⟩) n c l) (hn : n ≤ 4294967296) : Calls Tryz.prog 72 #[.slice (some ⟨g, off, none⟩) n c] w (GotN w (val l)) := (bare_limF h hn).mono fun _ _ h => h.weak

theorem wrap_join {a b : Nat} (ha : a < H32) (hb : b < H32) : IntKind.u64.wrap ((a : Int) + IntKind.u64.wrap ((b : Int) * 4294967296)) = (join a b : Int) := by
  have := join_lt ha hb
  simp only [IntKind.wrap_u64]
  unfold join H32 at *
  unfold B64 at this
  omega

set_option maxHeartbeats 2000000 in
theorem whole_F (A : Option Addr) (n c : Nat) (l : List Nat) (w : World) (h : Lim w.heap.size w A n c l) (hd : DigH l) (hn : n ≤ 4294967296) :
    Calls Tryz.prog 74 #[.slice A n c] w (GotNF w (valH l)) := by
  obtain ⟨i0, hi, hz0, hz1, hz2⟩ := info_parts info24
  have HL := Lib.hid h.1
  go_enter Tryz.func74, Tryz.ntmps74
  go_wp2
  go_loopw [3, 4] (fun ov iv wr => ∃ k g cap : Nat, 2 * k ≤ n + 1 ∧ iv = .int .i64 ((2 * k : Nat) : Int) ∧ ov = .slice (some ⟨g, 0, none⟩) k cap ∧ wr.ownsRow w.heap.size 37 1 (.slice (some ⟨g, 0, none⟩) k cap) k ((joinL l k).map encD) ∧ Below w.heap.size w wr) (fun _ iv _ => n - (intOf iv).toNat)
  case atStart => exact ⟨0, w.heap.size, 0, by omega, rfl, rfl, own_empty w _ (Nat.le_refl _), (Below.refl _ w).alloc (Nat.le_refl _) _⟩
  case round =>
    obtain ⟨k, g, cap, hk, rfl, rfl, hown, hbl⟩ := hrel
    by_cases hlt : 2 * k < n
    · obtain ⟨b, off, rfl, hb, hcell⟩ := (h.below hbl).2.2.2 (by omega)
      have h1 := hcell (2 * k) hlt
      have hda : l[2 * k]?.getD 0 < H32 := hd.get _
      have hdb : l[2 * k + 1]?.getD 0 < H32 := hd.get _
      have hgl := hown.lt g rfl
      have HO := Lib.hid hown
      clear hown
      by_cases hlt2 : 2 * k + 1 < n
      · have h2 := hcell (2 * k + 1) hlt2
        clear hcell
        go_wp2_with (at_builtin; refine wpList_append_lies _ rfl _ _ 24 rfl w.heap.size 37 i0 (.int .u64 0) 1 8 Tryz.underlying24 hi hz0 hz1 hz2 rfl (by decide) _ _ _ rfl (HO.out.alloc _) ⟨wr.heap.size, 0, none⟩ 1 1 [.int .u64 (IntKind.u64.wrap (((l[2 * k]?.getD 0 : Nat) : Int) + IntKind.u64.wrap (((l[2 * k + 1]?.getD 0 : Nat) : Int) * 4294967296)))] rfl rfl (cell_one_new _ _ _) (by simp [Value.oneCell']) (by omega) (by unfold maxLen; omega) (by omega) (by simp; have := hbl.size; omega) _ rfl ?_; intro g1 cap1 w1 hown1 hgrow1 hat hlt1)
        go_roundw
        case rel =>
          refine ⟨k + 1, g1, cap1, by omega, by go_num, rfl, ?_, ?_⟩
          · rw [joinL_succ, List.map_append]
            rw [wrap_join hda hdb] at hown1
            exact hown1
          · exact (hbl.alloc hbl.size _).grown hgrow1 (by simp; have := hbl.size; omega) (fun q e => by injection (show some g = some q from e) with e1; omega)
        case measure => simp [intOf]; omega
      · clear hcell
        have hz1' : l[2 * k + 1]?.getD 0 = 0 := by rw [List.getElem?_eq_none (by have := HL.out; omega)]; rfl
        have HZ := Lib.hid hz1'
        clear hz1'
        go_wp2_with (at_builtin; refine wpList_append_lies _ rfl _ _ 24 rfl w.heap.size 37 i0 (.int .u64 0) 1 8 Tryz.underlying24 hi hz0 hz1 hz2 rfl (by decide) _ _ _ rfl (HO.out.alloc _) ⟨wr.heap.size, 0, none⟩ 1 1 [.int .u64 ((l[2 * k]?.getD 0 : Nat) : Int)] rfl rfl (cell_one_new _ _ _) (by simp [Value.oneCell']) (by omega) (by unfold maxLen; omega) (by omega) (by simp; have := hbl.size; omega) _ rfl ?_; intro g1 cap1 w1 hown1 hgrow1 hat hlt1)
        go_roundw
        case rel =>
          refine ⟨k + 1, g1, cap1, by omega, by go_num, rfl, ?_, ?_⟩
          · rw [joinL_succ, List.map_append]
            rw [show join (l[2 * k]?.getD 0) (l[2 * k + 1]?.getD 0) = l[2 * k]?.getD 0 from by rw [HZ.out]; simp [join]]
            exact hown1
          · exact (hbl.alloc hbl.size _).grown hgrow1 (by simp; have := hbl.size; omega) (fun q e => by injection (show some g = some q from e) with e1; omega)
        case measure => simp [intOf]; omega
    · have hlim := Lim.of_own hown (joinL_dig hd k)
      have hv : val (joinL l k) = valH l := by rw [joinL_val, List.take_of_length_le (by have := HL.out; omega)]
      have HV := Lib.hid hv
      clear hv hown
      go_wp2_with fail
      refine (bare_limF hlim (by omega)).mono ?_
      rintro e w1 ⟨A1, n1, c1, rfl, hl1, b1, f1⟩
      go_wp2_with fail
      go_ret
      rw [HV.out] at hl1
      exact ⟨A1, n1, c1, rfl, hl1, hbl.trans (b1.mono hbl.size), f1.mono hbl.size⟩

theorem whole_any (A : Option Addr) (n c : Nat) (l : List Nat) (w : World) (h : Lim w.heap.size w A n c l) (hd : DigH l) (hn : n ≤ 4294967296) :
    Calls Tryz.prog 74 #[.slice A n c] w (GotN w (valH l)) := (whole_F A n c l w h hd hn).mono fun _ _ h => h.weak

end Go.Proofs.YtpephogadljncaaGreat

/-
  The contract of the reference's Add.
-/
namespace Go.Proofs.YtpephogadljncaaGreat
set_option maxRecDepth 100000
open Go.RowKit

attribute [local go_sem ↓] mx_run

/-- A call has answered a slice of figures, and nothing that was there has changed. -/
def GotF (w : World) (l : List Nat) (e : Ending) (w' : World) : Prop := ∃ A n c, e = .returned (.slice A n c) ∧ Lim w'.heap.size w' A n c l ∧ Below w.heap.size w w'
theorem halves_F {w : World} {A : Option Addr} {n c x : Nat} (h : Num w A n c x) (hx : (limbs x).length ≤ 2147483648) : Calls Tryz.prog 73 #[.slice A n c] w (GotF w (halvesL (limbs x))) :=
  (halves_any A n c _ w h (by rw [h.len]; exact hx)).mono fun _ _ ⟨A', c', he, hl, hb⟩ => ⟨A', _, c', he, hl, hb⟩
theorem Lim.on {w w' : World} {A : Option Addr} {n c : Nat} {l : List Nat} (h : Lim w.heap.size w A n c l) (hb : Below w.heap.size w w') : Lim w'.heap.size w' A n c l := (h.below hb).more hb.size

theorem radd_lo (a b c : Nat) : (IntKind.u64.wrap (IntKind.u64.wrap ((a : Int) + (b : Int)) + (c : Int))).tmod 4294967296 = (loH (a + b + c) : Int) := by
  simp only [IntKind.wrap_u64]
  rw [Int.tmod_eq_emod_of_nonneg (by omega)]
  unfold loH H32
  omega
theorem radd_hi {a b c : Nat} (ha : a < H32) (hb : b < H32) (hc : c ≤ 1) : IntKind.u64.wrap ((IntKind.u64.wrap (IntKind.u64.wrap ((a : Int) + (b : Int)) + (c : Int))).tdiv 4294967296) = (hiH (a + b + c) : Int) := by
  simp only [IntKind.wrap_u64]
  rw [Int.tdiv_eq_ediv_of_nonneg (by omega)]
  unfold hiH
  unfold H32 at *
  omega

/-- What has been reckoned when k figures are done: the figures D and the carry c. -/
def AddAt (la lb D : List Nat) (k c : Nat) : Prop := DigH D ∧ D.length = k ∧ c ≤ 1 ∧ valH D + H32 ^ k * c = valH (la.take k) + valH (lb.take k)
theorem AddAt.start (la lb : List Nat) : AddAt la lb [] 0 0 := ⟨DigH.nil, rfl, by omega, by simp [valH_nil]⟩
theorem AddAt.step {la lb D : List Nat} {k c : Nat} (ha : DigH la) (hb : DigH lb) (h : AddAt la lb D k c) :
    AddAt la lb (D ++ [loH (la[k]?.getD 0 + lb[k]?.getD 0 + c)]) (k + 1) (hiH (la[k]?.getD 0 + lb[k]?.getD 0 + c)) := by
  obtain ⟨h1, h2, h3, h4⟩ := h
  refine ⟨h1.snoc (loH_lt _), by simp [h2], div_le_one (ha.get k) (hb.get k) h3, ?_⟩
  rw [valH_snoc, h2, valH_take_succ, valH_take_succ, Nat.pow_succ, Nat.mul_assoc]
  have hs := half_split (la[k]?.getD 0 + lb[k]?.getD 0 + c)
  generalize loH (la[k]?.getD 0 + lb[k]?.getD 0 + c) = lo at *
  generalize hiH (la[k]?.getD 0 + lb[k]?.getD 0 + c) = hi at *
  have h5 : H32 ^ k * lo + H32 ^ k * (H32 * hi) = H32 ^ k * la[k]?.getD 0 + H32 ^ k * lb[k]?.getD 0 + H32 ^ k * c := by
    rw [← Nat.mul_add, hs, Nat.mul_add, Nat.mul_add]
  omega
theorem AddAt.done {la lb D : List Nat} {c N : Nat} (ha : DigH la) (hb : DigH lb) (hN : max la.length lb.length ≤ N) (h : AddAt la lb D (N + 1) c) : valH D = valH la + valH lb := by
  obtain ⟨h1, h2, h3, h4⟩ := h
  rw [List.take_of_length_le (by omega), List.take_of_length_le (by omega)] at h4
  have h5 := Nat.lt_of_lt_of_le (valH_lt ha) (Nat.pow_le_pow_right (n := H32) H32_pos (show la.length ≤ N by omega))
  have h6 := Nat.lt_of_lt_of_le (valH_lt hb) (Nat.pow_le_pow_right (n := H32) H32_pos (show lb.length ≤ N by omega))
  have hc : c = 0 ∨ c = 1 := by omega
  have hg : 2 ≤ H32 := by have := H32_gt; omega
  rw [Nat.pow_succ] at h4
  generalize H32 ^ N = P at *
  generalize H32 = Q at *
  have h8 : P * 2 ≤ P * Q := Nat.mul_le_mul_left _ hg
  rcases hc with rfl | rfl
  · rw [Nat.mul_zero, Nat.add_zero] at h4; exact h4
  · rw [Nat.mul_one] at h4; omega

set_option maxHeartbeats 4000000 in
theorem radd_F {w : World} {A B : Option Addr} {n c m d x y : Nat} (ha : Num w A n c x) (hb : Num w B m d y) (hx : (limbs x).length ≤ 1000000) (hy : (limbs y).length ≤ 1000000) : Calls Tryz.prog 63 #[.slice A n c, .slice B m d] w (GotNF w (x + y)) := by
  obtain ⟨i0, hi, hz0, hz1, hz2⟩ := info_parts info24
  go_enter Tryz.func63, Tryz.ntmps63
  go_wp2_with fail
  refine (halves_F ha (by omega)).mono ?_
  rintro e w1 ⟨A1, n1, c1, rfl, h1, b1⟩
  go_wp2_with fail
  refine (halves_F (hb.on b1) (by omega)).mono ?_
  rintro e w2 ⟨A2, n2, c2, rfl, h2, b2⟩
  replace h1 := h1.on b2
  have cc := b1.trans (b2.mono b1.size)
  clear b1 b2 ha hb
  have hv1 : valH (halvesL (limbs x)) = x := by rw [halvesL_val, val_limbs]
  have hv2 : valH (halvesL (limbs y)) = y := by rw [halvesL_val, val_limbs]
  have hd1 := halvesL_dig (limbs_dig x)
  have hd2 := halvesL_dig (limbs_dig y)
  have hn1 : n1 ≤ 2000000 := by have := h1.1; rw [halvesL_length] at this; omega
  have hn2 : n2 ≤ 2000000 := by have := h2.1; rw [halvesL_length] at this; omega
  have hE : valH (halvesL (limbs x)) + valH (halvesL (limbs y)) = x + y := by rw [hv1, hv2]
  have HE := Lib.hid hE
  clear hv1 hv2 hx hy hE
  generalize halvesL (limbs x) = la at *
  generalize halvesL (limbs y) = lb at *
  have hmx : mx n1 n2 ≤ 2000000 := by unfold mx; omega
  have hmm : max la.length lb.length ≤ mx n1 n2 := by have := h1.1; have := h2.1; unfold mx; omega
  have HM := Lib.hid hmm
  clear hmm
  go_wp2_with fail
  go_loopw [7, 8, 9] (fun ov cv iv wr => ∃ (k : Nat) (v : Nat) (D : List Nat) (g cap : Nat), k ≤ mx n1 n2 + 1 ∧ iv = .int .i64 (k : Int) ∧ cv = .int .u64 (v : Int) ∧ ov = .slice (some ⟨g, 0, none⟩) k cap ∧ AddAt la lb D k v ∧ wr.ownsRow w2.heap.size 37 1 (.slice (some ⟨g, 0, none⟩) k cap) k (D.map encD) ∧ Below w2.heap.size w2 wr) (fun _ _ iv _ => mx n1 n2 + 1 - (intOf iv).toNat)
  case atStart => exact ⟨0, 0, [], w2.heap.size, 0, by omega, rfl, rfl, rfl, AddAt.start _ _, own_empty w2 _ (Nat.le_refl _), (Below.refl _ w2).alloc (Nat.le_refl _) _⟩
  case round =>
    obtain ⟨k, v, D, g, cap, hk, rfl, rfl, rfl, hA, hown, hbl⟩ := hrel
    by_cases hlt : k < mx n1 n2 + 1
    · have hp := hd1.get k
      have hq := hd2.get k
      have hv1 : v ≤ 1 := hA.2.2.1
      have hgl := hown.lt g rfl
      have HA := Lib.hid hA
      have HO := Lib.hid hown
      clear hA hown
      go_wp2_with fail
      refine (at_any _ _ _ _ _ _ _ (h1.on hbl) (by omega) (by omega)).mono ?_
      rintro e w3 ⟨rfl, rfl⟩
      go_wp2_with fail
      refine (at_any _ _ _ _ _ _ _ (h2.on hbl) (by omega) (by omega)).mono ?_
      rintro e w3 ⟨rfl, rfl⟩
      go_wp2_with (at_builtin; refine wpList_append_lies _ rfl _ _ 23 rfl w2.heap.size 37 i0 (.int .u64 0) 1 8 Tryz.underlying23 hi hz0 hz1 hz2 rfl (by decide) _ _ _ rfl (HO.out.alloc _) ⟨wr.heap.size, 0, none⟩ 1 1 [.int .u64 ((IntKind.u64.wrap (IntKind.u64.wrap (((la[k]?.getD 0 : Nat) : Int) + ((lb[k]?.getD 0 : Nat) : Int)) + (v : Int))).tmod 4294967296)] rfl rfl (cell_one_new _ _ _) (by simp [Value.oneCell']) (by omega) (by unfold maxLen; omega) (by omega) (by simp; have := hbl.size; omega) _ rfl ?_; intro g1 cap1 w4 hown1 hgrow1 hat hlt1)
      go_roundw
      case rel =>
        refine ⟨k + 1, hiH (la[k]?.getD 0 + lb[k]?.getD 0 + v), _, g1, cap1, by omega, by go_num, by rw [radd_hi hp hq hv1], rfl, HA.out.step hd1 hd2, ?_, ?_⟩
        · rw [radd_lo] at hown1
          rw [List.map_append]
          exact hown1
        · exact (hbl.alloc hbl.size _).grown hgrow1 (by simp; have := hbl.size; omega) (fun q e => by injection (show some g = some q from e) with e1; omega)
      case measure => simp [intOf]; omega
    · obtain rfl : k = mx n1 n2 + 1 := by omega
      have hlim := Lim.of_own hown hA.1.dig
      have hD := hA.1
      have hval := hA.done hd1 hd2 HM.out
      rw [HE.out] at hval
      have HV := Lib.hid hval
      clear hval hA hown
      go_wp2_with fail
      refine (whole_F _ _ _ _ _ hlim hD (by omega)).mono ?_
      rintro e w3 ⟨A3, n3, c3, rfl, h3, b3, f3⟩
      go_wp2_with fail
      go_ret
      rw [HV.out] at h3
      exact ⟨A3, n3, c3, rfl, h3, cc.trans ((hbl.trans (b3.mono hbl.size)).mono cc.size), f3.mono (Nat.le_trans cc.size hbl.size)⟩

theorem radd_N {w : World} {A B : Option Addr} {n c m d x y : Nat} (ha : Num w A n c x) (hb : Num w B m d y) (hx : (limbs x).length ≤ 1000000) (hy : (limbs y).length ≤ 1000000) : Calls Tryz.prog 63 #[.slice A n c, .slice B m d] w (GotN w (x + y)) := (radd_F ha hb hx hy).mono fun _ _ h => h.weak

end Go.Proofs.YtpephogadljncaaGreat
