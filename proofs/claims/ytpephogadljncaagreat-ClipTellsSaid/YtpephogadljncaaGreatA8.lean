/-
  Several texts in one: R3, C16a, FrW, JKa, C16b, MathN, RT1, RT2, RT3, RT4, RT, JKb, C16c.
-/
import Derived.Test.YtpephogadljncaaGreatA7
import Derived.Test.YtpephogadljncaaGreatA3
import Derived.Test.YtpephogadljncaaGreatA2
import Derived.Test.YtpephogadljncaaGreatA4
import Derived.Deep.Slices
import Derived.RangeFuncBox
import Derived.RangeFuncNested
import Derived.Deep.LoopGhost
import Derived.Test.YtpephogadljncaaGreatA6
import Derived.Test.YtpephogadljncaaGreatA5

/-
  The contracts of the third reference: power, Pow, Root, Up.
-/
namespace Go.Proofs.YtpephogadljncaaGreat
set_option maxRecDepth 100000
set_option maxHeartbeats 4000000
open Go.RowKit

theorem rpow3_N {w : World} {A : Option Addr} {n c x k : Nat} (ha : Num w A n c x) (hx : (limbs x).length ≤ 1000) (hk : k ≤ 16) : Calls Tryz.prog 62 #[.slice A n c, .int .i64 (k : Int)] w (GotN w (x ^ k)) := by
  go_enter Tryz.func62, Tryz.ntmps62
  go_wp2_with fail
  refine (rof_N w 1 B64_gt).mono ?_
  rintro e w1 ⟨A1, n1, c1, rfl, h1, b1⟩
  go_wp2_with fail
  go_loopw [5, 6] (fun ov iv wr => ∃ (j : Nat) (A' : Option Addr) (n' c' : Nat), j ≤ k ∧ iv = .int .i64 (j : Int) ∧ ov = .slice A' n' c' ∧ Num wr A' n' c' (x ^ j) ∧ Below w.heap.size w wr) (fun _ iv _ => k - (intOf iv).toNat)
  case atStart => exact ⟨0, A1, n1, c1, Nat.zero_le _, rfl, rfl, h1, b1⟩
  case round =>
    obtain ⟨j, A', n', c', hj, rfl, rfl, hN, hb⟩ := hrel
    have hl := limbs_length_pow hx j
    have ha' := ha.on hb
    by_cases hlt : j < k
    · have hl2 : (limbs (x ^ j)).length ≤ 1000000 := by omega
      clear hl
      go_wp2_with fail
      refine (rmul_N hN ha' hl2 (by omega)).mono ?_
      rintro e w2 ⟨A2, n2, c2, rfl, h2, b2⟩
      rw [← Nat.pow_succ] at h2
      go_wp2_with fail
      go_roundw
      case rel => exact ⟨j + 1, A2, n2, c2, by omega, by go_num, rfl, h2, hb.trans (b2.mono hb.size)⟩
      case measure => simp [intOf]; omega
    · obtain rfl : j = k := by omega
      clear hl
      go_wp2_with fail
      go_ret
      exact ⟨_, _, _, rfl, hN, hb⟩

theorem rroot_no (w : World) (A : Option Addr) (n c : Nat) (k : Int) (hk : k < 1 ∨ 16 < k) : Calls Tryz.prog 61 #[.slice A n c, .int .i64 k] w (GotV w (.tuple #[.slice none 0 0, .int .i64 1])) := by
  rcases hk with h | h
  · go_enter Tryz.func61, Tryz.ntmps61
    go_wp2
    go_ret2
    exact ⟨rfl, Below.refl _ _⟩
  · have h0 : ¬ k < 1 := by omega
    go_enter Tryz.func61, Tryz.ntmps61
    go_wp2
    go_ret2
    exact ⟨rfl, Below.refl _ _⟩

theorem num_none (w : World) (A : Option Addr) (c : Nat) : Num w A 0 c 0 := by
  unfold Num
  rw [limbs_zero]
  exact Lim.nil _ _ _ _
theorem blen_len {x m : Nat} (h : (limbs x).length ≤ m) : blen x ≤ 64 * m := by
  refine blen_le ?_
  have := lt_of_limbs_length h
  rw [B64_pow2] at this
  exact this
theorem limbs_two_pow {i m : Nat} (h : i < 64 * m) : (limbs (2 ^ i)).length ≤ m := by
  refine limbs_length_le ?_
  rw [B64_pow2]
  exact (Nat.pow_lt_pow_iff_right (by omega)).2 h

theorem rroot_N {w : World} {A : Option Addr} {n c x k : Nat} (ha : Num w A n c x) (hx : (limbs x).length ≤ 300) (h1 : 1 ≤ k) (hk : k ≤ 16) : Calls Tryz.prog 61 #[.slice A n c, .int .i64 (k : Int)] w (GotP w (iroot k x) 0) := by
  have hk0 : ¬ k = 0 := by omega
  obtain ⟨b, hb⟩ : ∃ b, blen x = b := ⟨_, rfl⟩
  have hb2 : b ≤ 19200 := by
    rw [← hb]
    exact blen_len hx
  obtain ⟨q, hq⟩ : ∃ q, q = b / k := ⟨_, rfl⟩
  have hq2 : q ≤ 19200 := by rw [hq]; exact Nat.le_trans (Nat.div_le_self _ _) hb2
  have hst : x < (0 + 2 ^ (q + 1)) ^ k := by rw [hq, ← hb]; exact root_start hk0 (lt_blen x)
  have hw : IntKind.i64.wrap ((b : Int) / (k : Int)) = (q : Int) := by
    have h2 : ((b / k : Nat) : Int) = (b : Int) / (k : Int) := by simp
    rw [hq, ← h2, IntWalk.i64_in _ (by omega)]
  have d1 : decide ((k : Int) < 1) = false := by simp; omega
  have d2 : decide (16 < (k : Int)) = false := by simp; omega
  have HB := Lib.hid hb
  have HST := Lib.hid hst
  clear hb hst hq
  go_enter Tryz.func61, Tryz.ntmps61
  go_wp2_with fail
  refine (rbits_N (Num.on ha ((Below.refl _ w).alloc (Nat.le_refl _) _)) (by omega)).mono ?_
  rintro e w1 ⟨rfl, b1⟩
  rw [HB.out]
  have hB1 : Below w.heap.size w w1 := ((Below.refl _ w).alloc (Nat.le_refl _) _).trans (b1.mono (by simp))
  go_wp2_with fail
  clear hw b1
  go_loopw [6, 7] (fun ov iv wr => ∃ (j : Nat) (A' : Option Addr) (n' c' r : Nat), j ≤ q + 1 ∧ iv = .int .i64 ((j : Int) - 1) ∧ ov = .slice A' n' c' ∧ Num wr A' n' c' r ∧ Hid (r ^ k ≤ x) ∧ Hid (x < (r + 2 ^ j) ^ k) ∧ Below w.heap.size w wr) (fun _ iv _ => (intOf iv + 1).toNat)
  case atStart => exact ⟨q + 1, _, _, _, 0, Nat.le_refl _, congrArg (Value.int .i64) (by omega), rfl, num_none _ _ _, Lib.hid (by rw [Nat.zero_pow (by omega)]; omega), HST, hB1⟩
  case round =>
    obtain ⟨j, A', n', c', r, hjq, hiv, rfl, hN, HR, HX, hB⟩ := hrel
    subst hiv
    have ha' := ha.on hB
    have hrx : r ≤ x := Nat.le_trans (self_le_pow r hk0) HR.out
    have hrl : (limbs r).length ≤ 300 := Nat.le_trans (limbs_length_mono hrx) hx
    clear hrx
    cases j with
    | zero =>
      rw [show (((0 : Nat) : Int) - 1) = -1 from rfl]
      have e : iroot k x = r := iroot_eq hk0 HR.out HX.out
      have HE := Lib.hid e
      clear e
      go_wp2_with fail
      go_ret2
      rw [HE.out]
      exact ⟨_, _, _, rfl, hN, hB⟩
    | succ i =>
      rw [show (((i + 1 : Nat) : Int) - 1) = (i : Int) by omega]
      have hi : i ≤ 19200 := by omega
      have hpl := limbs_two_pow (i := i) (m := 301) (by omega)
      have hml := limbs_length_add (Nat.le_trans hrl (by omega)) hpl
      have hpw := limbs_length_pow hml k
      have hpw2 : (limbs ((r + 2 ^ i) ^ k)).length ≤ 1000000 := by
        refine Nat.le_trans hpw ?_
        have : 302 * k ≤ 302 * 16 := Nat.mul_le_mul_left _ hk
        omega
      have HPL := Lib.hid hpl
      clear hpw hpl
      go_wp2_with fail
      refine (rof_N _ 1 B64_gt).mono ?_
      rintro e w2 ⟨A2, n2, c2, rfl, h2, b2⟩
      go_wp2_with fail
      refine (rshl_N h2 (by rw [limbs_one (by omega) B64_gt]; simp) (by omega)).mono ?_
      rintro e w3 ⟨A3, n3, c3, rfl, h3, b3⟩
      rw [Nat.one_mul] at h3
      have c3' := b2.trans (b3.mono b2.size)
      replace hN := hN.on c3'
      replace ha' := ha'.on c3'
      replace hB := hB.trans (c3'.mono hB.size)
      clear b2 b3 c3' h2
      go_wp2_with fail
      refine (radd_N hN h3 (by omega) (by have := HPL.out; omega)).mono ?_
      rintro e w4 ⟨A4, n4, c4, rfl, h4, b4⟩
      replace hN := hN.on b4
      replace ha' := ha'.on b4
      replace hB := bK hB b4
      clear b4 h3
      go_wp2_with fail
      refine (rpow3_N h4 (by omega) hk).mono ?_
      rintro e w5 ⟨A5, n5, c5, rfl, h5, b5⟩
      replace hN := hN.on b5
      replace ha' := ha'.on b5
      replace h4 := h4.on b5
      replace hB := bK hB b5
      clear b5
      go_wp2_with fail
      refine (rcmp_N h5 ha' (by omega) (by omega)).mono ?_
      rintro e w6 ⟨rfl, b6⟩
      replace hN := hN.on b6
      replace h4 := h4.on b6
      replace hB := bK hB b6
      clear b6 h5
      have hX2 := HX.out
      rw [root_step] at hX2
      have HX2 := Lib.hid hX2
      clear hX2 HX
      by_cases hle : (r + 2 ^ i) ^ k ≤ x
      · have hcm : cmpN ((r + 2 ^ i) ^ k) x ≤ 0 := by
          rcases Nat.lt_or_ge ((r + 2 ^ i) ^ k) x with h | h
          · rw [cmpN_lt h]; omega
          · rw [cmpN_zero.2 (by omega)]; omega
        have HLE := Lib.hid hle
        clear hle
        go_wp2_with fail
        go_roundw
        case rel => exact ⟨i, A4, n4, c4, r + 2 ^ i, by omega, rfl, rfl, h4, HLE, HX2, hB⟩
        case measure => simp [intOf]
      · have hcm : ¬ cmpN ((r + 2 ^ i) ^ k) x ≤ 0 := by rw [cmpN_gt (by omega)]; omega
        have HLT : Hid (x < (r + 2 ^ i) ^ k) := Lib.hid (by omega)
        clear hle
        go_wp2_with fail
        go_roundw
        case rel => exact ⟨i, A', n', c', r, by omega, rfl, rfl, hN, HR, HLT, hB⟩
        case measure => simp [intOf]
theorem len_iroot {x k m : Nat} (h1 : 1 ≤ k) (hx : (limbs x).length ≤ m) : (limbs (iroot k x)).length ≤ m := Nat.le_trans (limbs_length_mono (iroot_le x (by omega))) hx
theorem len_uroot {x k m : Nat} (h1 : 1 ≤ k) (hx : (limbs x).length ≤ m) : (limbs (uroot k x)).length ≤ m := Nat.le_trans (limbs_length_mono (uroot_le_self x (by omega))) hx
theorem len_irootp {x k m : Nat} (h1 : 1 ≤ k) (hx : (limbs x).length ≤ m) : (limbs (iroot k x ^ k)).length ≤ m := Nat.le_trans (limbs_length_mono (iroot_pow x (by omega))) hx

theorem rup_N {w : World} {A : Option Addr} {n c x k : Nat} (ha : Num w A n c x) (hx : (limbs x).length ≤ 300) (h1 : 1 ≤ k) (hk : k ≤ 16) : Calls Tryz.prog 30 #[.slice A n c, .int .i64 (k : Int)] w (GotP w (uroot k x) 0) := by
  have l1 := len_iroot h1 hx
  have l2 := len_irootp h1 hx
  go_enter Tryz.func30, Tryz.ntmps30
  go_wp2_with fail
  refine (rroot_N ha hx h1 hk).mono ?_
  rintro e w1 ⟨A1, n1, c1, rfl, hr, b1⟩
  go_wp2_with fail
  refine (rpow3_N hr (by omega) hk).mono ?_
  rintro e w2 ⟨A2, n2, c2, rfl, hp, b2⟩
  have hr2 := hr.on b2
  have cc := b1.trans (b2.mono b1.size)
  have ha2 := ha.on cc
  go_wp2_with fail
  by_cases he : iroot k x ^ k = x
  · have e1 : uroot k x = iroot k x := by unfold uroot; rw [if_pos he]
    refine (same_N hp ha2 (by omega) (by omega) he).mono ?_
    have HE := Lib.hid e1
    clear he e1
    rintro e w3 ⟨rfl, b3⟩
    go_wp2_with fail
    go_ret2
    rw [HE.out]
    exact ⟨_, _, _, rfl, hr2.on b3, cc.trans (b3.mono cc.size)⟩
  · have e1 : uroot k x = iroot k x + 1 := by unfold uroot; rw [if_neg he]
    refine (same_not_N hp ha2 (by omega) (by omega) he).mono ?_
    have HE := Lib.hid e1
    clear he e1
    rintro e w3 ⟨rfl, b3⟩
    have hr3 := hr2.on b3
    have cc3 := cc.trans (b3.mono cc.size)
    go_wp2_with fail
    refine (rof_N _ 1 B64_gt).mono ?_
    rintro e w4 ⟨A4, n4, c4, rfl, h4, b4⟩
    have cc4 := cc3.trans (b4.mono cc3.size)
    go_wp2_with fail
    refine (radd_N (hr3.on b4) h4 (by omega) (by rw [limbs_one (by omega) B64_gt]; simp)).mono ?_
    rintro e w5 ⟨A5, n5, c5, rfl, h5, b5⟩
    go_wp2_with fail
    go_ret2
    rw [HE.out]
    exact ⟨_, _, _, rfl, h5, cc4.trans (b5.mono cc4.size)⟩

theorem rup_no (w : World) (A : Option Addr) (n c : Nat) (k : Int) (hk : k < 1 ∨ 16 < k) : Calls Tryz.prog 30 #[.slice A n c, .int .i64 k] w (GotV w (.tuple #[.slice none 0 0, .int .i64 1])) := by
  go_enter Tryz.func30, Tryz.ntmps30
  go_wp2_with fail
  refine (rroot_no w A n c k hk).mono ?_
  rintro e w1 ⟨rfl, b1⟩
  go_wp2_with fail
  go_ret2
  exact ⟨rfl, b1⟩

end Go.Proofs.YtpephogadljncaaGreat

/-
  Rows of rows of integers; the contract of the sixteenth reference's Squares, Norm.
-/
namespace Go.Proofs.YtpephogadljncaaGreat
set_option maxRecDepth 100000
open Go.RowKit
set_option linter.unusedVariables false
set_option linter.unusedSimpArgs false

/-- The slice value '.slice A n c' holds the rows L. -/
def RR (w : World) (A : Option Addr) (n c : Nat) (L : List (List Int)) : Prop :=
  n = L.length ∧ n ≤ c ∧ (0 < n → ∃ b off, A = some ⟨b, off, none⟩ ∧ b < w.heap.size ∧ ∀ j, j < n → ∃ A' n' c', w.cell? ⟨b, off + j, none⟩ = some (.slice A' n' c') ∧ IR w A' n' c' (L[j]?.getD []) ∧ (∀ z ∈ L[j]?.getD [], I64 z))
theorem RR.on {w w' : World} {A : Option Addr} {n c : Nat} {L : List (List Int)} (h : RR w A n c L) (hb : Below w.heap.size w w') : RR w' A n c L :=
  ⟨h.1, h.2.1, fun hn => by
    obtain ⟨b, off, e, hlt, hc⟩ := h.2.2 hn
    refine ⟨b, off, e, Nat.lt_of_lt_of_le hlt hb.size, fun j hj => ?_⟩
    obtain ⟨A', n', c', h1, h2, h3⟩ := hc j hj
    exact ⟨A', n', c', cK hb h1 hlt, h2.on hb, h3⟩⟩
theorem RR.some {w : World} {A : Option Addr} {n c : Nat} {L : List (List Int)} (h : RR w A n c L) (hn : 0 < n) : ∃ b off, A = some ⟨b, off, none⟩ ∧ b < w.heap.size := by
  obtain ⟨b, off, e, hlt, _⟩ := h.2.2 hn
  exact ⟨b, off, e, hlt⟩
theorem rr_at {w : World} {b off n c j : Nat} {L : List (List Int)} (h : RR w (some ⟨b, off, none⟩) n c L) (hj : j < n) : ∃ A' n' c', w.cell? ⟨b, off + j, none⟩ = some (.slice A' n' c') ∧ IR w A' n' c' (L[j]?.getD []) ∧ (∀ z ∈ L[j]?.getD [], I64 z) := by
  obtain ⟨b', off', e, _, hc⟩ := h.2.2 (by omega)
  injection e with e
  injection e with e1 e2
  subst e1 e2
  exact hc j hj
theorem ir_cell16 {w : World} {b off n c j : Nat} {l : List Int} (h : IR w (some ⟨b, off, none⟩) n c l) (hj : j < n) : w.cell? ⟨b, off + j, none⟩ = some (.int .i64 (l[j]?.getD 0)) := by
  obtain ⟨b', off', e, hlt, hc⟩ := h.2.2 (by omega)
  injection e with e
  injection e with e1 e2
  subst e1 e2
  exact hc j hj
theorem ir_some16 {w : World} {A : Option Addr} {n c : Nat} {l : List Int} (h : IR w A n c l) (hn : 0 < n) : ∃ b off, A = some ⟨b, off, none⟩ ∧ b < w.heap.size := by
  obtain ⟨b, off, e, hlt, hc⟩ := h.2.2 hn
  exact ⟨b, off, e, hlt⟩
theorem i64_of_mem {L : List Int} (h : ∀ z ∈ L, I64 z) {j : Nat} (hj : j < L.length) : I64 (L[j]?.getD 0) := by
  rw [List.getElem?_eq_getElem hj]
  exact h _ (List.getElem_mem hj)
theorem field16 (b : Bool) (A : Option Addr) (n c : Nat) (w : World) : Sem.run Tryz.prog (Instr.field 42 (.agg #[.bool b, .slice A n c]) 1) w = .ok (.slice A n c) w := by rfl
attribute [local go_sem] field16
theorem mem_at16 {α : Type} {L : List α} {d : α} {j : Nat} (h : j < L.length) : L[j]?.getD d ∈ L := by rw [List.getElem?_eq_getElem h]; exact List.getElem_mem h
theorem sq1_le {x : Int} (h : I64 x) : sq1 x ≤ 85070591730234615865843651857942052864 := by
  have h1 : x.natAbs ≤ 9223372036854775808 := by unfold I64 at h; omega
  exact Nat.mul_le_mul h1 h1
theorem sqS_le {l : List Int} (h : ∀ z ∈ l, I64 z) : sqS l ≤ l.length * 85070591730234615865843651857942052864 := by
  induction l with
  | nil => exact Nat.zero_le _
  | cons x l ih =>
    have h1 := sq1_le (h x (by simp))
    have h2 := ih (fun z hz => h z (by simp [hz]))
    show sq1 x + sqS l ≤ _
    rw [List.length_cons, Nat.add_mul]
    omega
theorem sqA_le {m : Nat} : ∀ {L : List (List Int)}, (∀ l ∈ L, l.length ≤ m ∧ ∀ z ∈ l, I64 z) → sqA L ≤ L.length * (m * 85070591730234615865843651857942052864)
  | [], _ => Nat.zero_le _
  | l :: L, h => by
    have h1 := sqA_le (m := m) (L := L) (fun x hx => h x (by simp [hx]))
    obtain ⟨h2, h3⟩ := h l (by simp)
    have h4 := sqS_le h3
    have h5 : l.length * 85070591730234615865843651857942052864 ≤ m * 85070591730234615865843651857942052864 := Nat.mul_le_mul_right _ h2
    show sqS l + sqA L ≤ _
    rw [List.length_cons, Nat.add_mul]
    omega
theorem len_few16 {x : Nat} (h : x < 1000000 * 85070591730234615865843651857942052864) : (limbs x).length ≤ 3 := limbs_length_le (Nat.lt_of_lt_of_le h (by decide))

theorem sqP_len {L : List (List Int)} (hn : L.length ≤ 100) (hl : ∀ l ∈ L, l.length ≤ 100 ∧ ∀ z ∈ l, I64 z) {i k : Nat} : (limbs (sqA (L.take i) + sqS ((L[i]?.getD []).take k))).length ≤ 3 := by
  have h1 := sqA_le (m := 100) (L := L.take i) (fun l hx => hl l (List.mem_of_mem_take hx))
  have h2 : (L.take i).length ≤ 100 := by rw [List.length_take]; omega
  have h3 : (L.take i).length * (100 * 85070591730234615865843651857942052864) ≤ 100 * (100 * 85070591730234615865843651857942052864) := Nat.mul_le_mul_right _ h2
  have hr : (L[i]?.getD []).length ≤ 100 ∧ ∀ z ∈ L[i]?.getD [], I64 z := by
    rcases Nat.lt_or_ge i L.length with h | h
    · rw [List.getElem?_eq_getElem h]; exact hl _ (List.getElem_mem h)
    · rw [List.getElem?_eq_none h]; exact ⟨by simp, fun z hz => by simp at hz⟩
  have h4 := sqS_le (l := (L[i]?.getD []).take k) (fun z hz => hr.2 z (List.mem_of_mem_take hz))
  have h5 : ((L[i]?.getD []).take k).length ≤ 100 := by rw [List.length_take]; omega
  have h6 : ((L[i]?.getD []).take k).length * 85070591730234615865843651857942052864 ≤ 100 * 85070591730234615865843651857942052864 := Nat.mul_le_mul_right _ h5
  exact len_few16 (by omega)

set_option maxHeartbeats 8000000 in
theorem rSquares16_N {w : World} {A : Option Addr} {n c : Nat} {L : List (List Int)} (hA : RR w A n c L) (hn : n ≤ 100) (hl : ∀ l ∈ L, l.length ≤ 100 ∧ ∀ z ∈ l, I64 z) : Calls Tryz.prog 31 #[.slice A n c] w (GotN w (sqA L)) := by
  have hln := hA.1
  have HP : Hid (∀ i k, (limbs (sqA (L.take i) + sqS ((L[i]?.getD []).take k))).length ≤ 3) := Lib.hid (fun i k => sqP_len (by omega) hl)
  have HS : Hid (∀ i k, k < (L[i]?.getD []).length → sqA (L.take i) + sqS ((L[i]?.getD []).take k) + sq1 ((L[i]?.getD [])[k]?.getD 0) = sqA (L.take i) + sqS ((L[i]?.getD []).take (k + 1))) := Lib.hid (fun i k h => by rw [sqS_take _ _ h]; omega)
  have HE : Hid (∀ i, i < L.length → sqA (L.take i) + sqS ((L[i]?.getD []).take (L[i]?.getD []).length) = sqA (L.take (i + 1)) + sqS ((L[i + 1]?.getD []).take 0)) := Lib.hid (fun i h => by rw [sqA_take _ _ h, List.take_of_length_le (Nat.le_refl _), List.take_zero]; show _ = sqA (L.take i) + sqS (L[i]?.getD []) + 0; omega)
  have HF : Hid (sqA (L.take n) + sqS ((L[n]?.getD []).take 0) = sqA L) := Lib.hid (by rw [hln, List.take_of_length_le (Nat.le_refl _), List.take_zero]; show sqA L + 0 = _; omega)
  have H0 : Hid (sqA (L.take 0) + sqS ((L[0]?.getD []).take 0) = 0) := Lib.hid (by rw [List.take_zero, List.take_zero]; rfl)
  obtain ⟨S, eS⟩ : ∃ S : Nat → Nat → Nat, (fun i k => sqA (L.take i) + sqS ((L[i]?.getD []).take k)) = S := ⟨_, rfl⟩
  have HP2 : Hid (∀ i k, (limbs (S i k)).length ≤ 3) := Lib.hid (fun i k => by rw [← eS]; exact HP.out i k)
  have HS2 : Hid (∀ i k, k < (L[i]?.getD []).length → S i k + sq1 ((L[i]?.getD [])[k]?.getD 0) = S i (k + 1)) := Lib.hid (fun i k h => by rw [← eS]; exact HS.out i k h)
  have HE2 : Hid (∀ i, i < L.length → S i (L[i]?.getD []).length = S (i + 1) 0) := Lib.hid (fun i h => by rw [← eS]; exact HE.out i h)
  have HF2 : Hid (S n 0 = sqA L) := Lib.hid (by rw [← eS]; exact HF.out)
  have H02 : Hid (S 0 0 = 0) := Lib.hid (by rw [← eS]; exact H0.out)
  clear HP HS HE HF H0 eS
  rw [← HF2.out]
  have HN := Lib.hid hn
  have HLN := Lib.hid hln
  have HL := Lib.hid hl
  have HAV := Lib.hid hA
  have b0 : Below w.heap.size w (w.alloc (.cells #[] 37)) := (Below.refl _ w).alloc (Nat.le_refl _) _
  have HB0 := Lib.hid b0
  clear hln hl hA hn b0
  go_enter Tryz.func31, Tryz.ntmps31
  go_wp2_with fail
  go_loopw [3, 4] (fun sv iv wr => ∃ (i : Nat) (As : Option Addr) (ns cs : Nat), i ≤ n ∧ iv = .int .i64 (i : Int) ∧ sv = .slice As ns cs ∧ Num wr As ns cs (S i 0) ∧ Below w.heap.size w wr) (fun _ iv _ => n - (intOf iv).toNat)
  case atStart => exact ⟨0, _, _, _, by omega, rfl, rfl, by rw [H02.out]; exact num_nil _ _ _, HB0.out⟩
  case round =>
    obtain ⟨i, As, ns, cs, hi, rfl, rfl, hs, hbl⟩ := hrel
    by_cases hlt : i < n
    · have hA := HAV.out.on hbl
      obtain ⟨b, off, rfl, hb⟩ := hA.some (by omega)
      obtain ⟨A', n', c', hc, hR, hz⟩ := rr_at hA hlt
      have hE := HE2.out i (by rw [← HLN.out]; exact hlt)
      have hrl := hR.1
      rw [← hrl] at hE
      have hr100 : n' ≤ 100 := by rw [hrl]; exact (HL.out _ (mem_at16 (by rw [← HLN.out]; exact hlt))).1
      have k3 : IntKind.i64.wrap ((i : Int) + 1) = ((i + 1 : Nat) : Int) := by have := HN.out; rw [IntWalk.i64_in _ (by omega)]; omega
      have jl : (i : Int) < (n : Int) := by omega
      have HE3 := Lib.hid hE
      have HC := Lib.hid hc
      have HR := Lib.hid hR
      have HZ := Lib.hid hz
      have HBL := Lib.hid hbl
      have HBB := Lib.hid hb
      have HSV := Lib.hid hs
      have HRL := Lib.hid hrl
      clear hE hR hz hbl hb hs hrl hA
      go_wp2_with fail
      go_loopw [3, 5] (fun sv kv wq => ∃ (k : Nat) (Aq : Option Addr) (nq cq : Nat), k ≤ n' ∧ kv = .int .i64 (k : Int) ∧ sv = .slice Aq nq cq ∧ Num wq Aq nq cq (S i k) ∧ Below wr.heap.size wr wq) (fun _ kv _ => n' - (intOf kv).toNat)
      case atStart => exact ⟨0, _, _, _, by omega, rfl, rfl, HSV.out, Below.refl _ _⟩
      case round =>
       obtain ⟨k, Aq, nq, cq, hk, rfl, rfl, hq, hb2⟩ := hrel
       have hbl := HBL.out.trans (hb2.mono HBL.out.size)
       have hc2 := (hb2.cell (p := ⟨b, off + i, none⟩) HBB.out).trans HC.out
       have hb1 := Nat.lt_of_lt_of_le HBB.out hb2.size
       by_cases hlt2 : k < n'
       · have hR := HR.out.on hb2
         obtain ⟨b2, o2, rfl, hb3⟩ := ir_some16 hR (by omega)
         have h1 := ir_cell16 hR hlt2
         have hx6 := i64_of_mem HZ.out (j := k) (by rw [← HRL.out]; exact hlt2)
         have hS := HS2.out i k (by rw [← HRL.out]; exact hlt2)
         have hl1 := HP2.out i k
         obtain ⟨x, ex⟩ : ∃ x, (L[i]?.getD [])[k]?.getD 0 = x := ⟨_, rfl⟩
         rw [ex] at h1 hx6 hS
         have CO := fun W : World => rzof_N W x hx6
         have HXL := Lib.hid (len_one hx6.abs)
         have HX2 := Lib.hid (limbs_length_mul (len_one hx6.abs) (len_one hx6.abs))
         have k4 : IntKind.i64.wrap ((k : Int) + 1) = ((k + 1 : Nat) : Int) := by rw [IntWalk.i64_in _ (by omega)]; omega
         have jl2 : (k : Int) < (n' : Int) := by omega
         have HS3 := Lib.hid hS
         have HL1 := Lib.hid hl1
         have HB2 := Lib.hid hb2
         clear hR hx6 hS hl1 ex hbl hb2
         go_wp2_with fail
         refine (CO _).mono ?_
         rintro e w2 ⟨bz, Az, nz, cz, rfl, hz, b_⟩
         replace hq := hq.on b_
         have hB := HB2.out.trans (b_.mono HB2.out.size)
         have hz1 := hz.1
         clear hz b_
         go_wp2_with fail
         refine (rmul_N hz1 hz1 (Nat.le_trans HXL.out (by omega)) (Nat.le_trans HXL.out (by omega))).mono ?_
         rintro e w3 ⟨Ap, np, cp, rfl, hp, b_⟩
         replace hq := hq.on b_
         replace hB := bK hB b_
         clear b_ hz1
         go_wp2_with fail
         refine (radd_N hq hp (Nat.le_trans HL1.out (by omega)) (Nat.le_trans HX2.out (by omega))).mono ?_
         rintro e w4 ⟨At, nt, ct, rfl, ht, b_⟩
         have HT : Hid (Num w4 At nt ct (S i (k + 1))) := Lib.hid (by rw [← HS3.out]; exact ht)
         have HBB2 := Lib.hid (hB.trans (b_.mono hB.size))
         clear b_ hq hp ht hB
         go_wp2_with fail
         go_roundw
         case rel => exact ⟨k + 1, _, _, _, by omega, by go_num, rfl, HT.out, HBB2.out⟩
         case measure => simp [intOf] <;> omega
       · obtain rfl : k = n' := by omega
         rw [HE3.out] at hq
         have HQ := Lib.hid hq
         have HBl := Lib.hid hbl
         clear hq hbl
         go_wp2_with fail
         go_roundw
         case rel => exact ⟨i + 1, _, _, _, by omega, by go_num, rfl, HQ.out, HBl.out⟩
         case measure => simp [intOf] <;> omega
    · obtain rfl : i = n := by omega
      go_wp2_with fail
      go_ret
      exact ⟨_, _, _, rfl, hs, hbl⟩

end Go.Proofs.YtpephogadljncaaGreat

/-
  Rows of rows of int64 that came in, with how they are read: the form's reach bounds their lengths.
-/
namespace Go.Proofs.YtpephogadljncaaGreat
set_option maxRecDepth 100000
open Go.ChangeShapes Go.WideShapes Go.ChangeAt Go.RowKit Go.Joins Go.Deep
set_option linter.unusedVariables false

theorem weightsAll_mem {H : Type} {P : Program} {e : TypeId} : ∀ {ds : List (DataW H)} {d : DataW H}, d ∈ ds → ∀ n ∈ d.weights P e, n ∈ DataW.weightsAll P e ds
  | d0 :: ds, d, hd, n, hn => by
    simp only [DataW.weightsAll, List.mem_append]
    rcases List.mem_cons.1 hd with e | e
    · exact Or.inl (by rw [← e]; exact hn)
    · exact Or.inr (weightsAll_mem e n hn)
/-- Rows of rows that are read are as long as the form's reach lets them be. -/
def RdR {H : Type} (n : Nat) (L : List (List Int)) (d : DataW H) : Prop := (∀ x ∈ d.weights Tryz.prog 22, x ≤ reachBytes) → n ≤ 17592186044416 ∧ ∀ l ∈ L, l.length ≤ 17592186044416
theorem reach_47 : reachBytes = 140737488351232 := by decide
section
variable {H : Type} {enc : TypeId × Value → H} {W : World} {base : Nat} {held : Bool} {v : Value} {y : DataW H × List MemPlace} {n : Nat}
theorem trod_i64q (h : DataW.trod enc Tryz.prog W base (fun _ => true) held n 28 [v] = some y) :
    ∃ (a : Option Addr) (len cap : Nat) (l : List Int), v = .slice a len cap ∧ IR W a len cap l ∧ (∀ x ∈ l, I64 x) ∧ Read cap y.1 := by
  obtain ⟨a', l', c', L, e, hI, _, hi⟩ := trod_i64s h
  subst e
  refine ⟨_, _, _, L, rfl, hI, hi, ?_⟩
  rcases open_ints Tryz.underlying28 Tryz.underlying2 (by kernel_rfl) h with ⟨hcs, _⟩ | ⟨x, l, c, zs, hcs, _, hl, hm, hz, hy, hcell, hwz⟩
  · injection hcs with hcs _
    injection hcs with _ _ e3
    exact .inl e3
  · injection hcs with hcs _
    injection hcs with _ _ e3
    have hz2 : zs.length = c := by simpa using hz
    refine .inr ⟨_, _, congrArg Prod.fst hy, ?_⟩
    simp only [lits, List.length_map, List.length_take, List.length_drop]
    omega
theorem rr_nil (w : World) (A : Option Addr) (c : Nat) : RR w A 0 c [] := ⟨rfl, Nat.zero_le _, fun h => absurd h (by omega)⟩
theorem trod_rows (h : DataW.trod enc Tryz.prog W base (fun _ => true) held n 22 [v] = some y) :
    ∃ (A : Option Addr) (n c : Nat) (L : List (List Int)), v = .slice A n c ∧ RR W A n c L ∧ RdR n L y.1 := by
  have k1 : Tryz.prog.cellsOf 28 = 1 := by kernel_rfl
  have e24 : Tryz.prog.bytesOf 28 = 24 := by kernel_rfl
  have e8 : Tryz.prog.bytesOf 2 = 8 := by kernel_rfl
  rcases open_slice Tryz.underlying22 h with ⟨hcs, _⟩ | ⟨a, len, cap, m, n, D, Pl, hcs, _, hl, hm, hmm, hy, hx⟩
  · injection hcs with hcs _
    exact ⟨none, 0, 0, [], hcs, rr_nil _ _ _, fun _ => ⟨by omega, fun l hl => by simp at hl⟩⟩
  · injection hcs with hcs _
    have hm2 : m = cap := by simpa using hmm
    rw [k1] at hx
    refine ⟨some a, len, cap, ?_⟩
    have hw : ∀ {L : List (List Int)}, (∀ l ∈ L, ∃ i, i < len ∧ ∃ c', l.length ≤ c' ∧ Read c' (D i)) → RdR len L y.1 := by
      intro L hL hr
      have hy1 : y.1 = .slice ((List.range len).map D) ((List.range (m - len)).map fun j => D (len + j)) := congrArg Prod.fst hy
      rw [hy1] at hr
      have hr2 := reach_47
      simp only [DataW.weights, Tryz.underlying22, List.mem_cons, List.mem_append] at hr
      refine ⟨?_, fun l hlm => ?_⟩
      · have := hr _ (Or.inl rfl)
        rw [e24, List.length_map, List.length_range] at this
        omega
      · obtain ⟨i, hi, c', hlc, hrd⟩ := hL l hlm
        rcases hrd with e | ⟨es, ss, e, hes⟩
        · omega
        · have h1 : (es.length + ss.length) * Tryz.prog.bytesOf 2 ∈ (D i).weights Tryz.prog 28 := by rw [e]; simp [DataW.weights, Tryz.underlying28]
          have h2 := hr _ (Or.inr (Or.inl (weightsAll_mem (List.mem_map.2 ⟨i, List.mem_range.2 hi, rfl⟩) _ h1)))
          rw [e8, hes] at h2
          omega
    rcases Nat.eq_zero_or_pos len with h0 | h0
    · subst h0
      exact ⟨[], hcs, rr_nil _ _ _, hw (fun l hl => by simp at hl)⟩
    · have hsp : a.spot = none := by
        obtain ⟨cs', h1, h2⟩ := hx 0 (by omega)
        obtain ⟨_, hlen, hc⟩ := World.cells?_some h1
        obtain ⟨u, rfl⟩ : ∃ u, cs' = [u] := List.length_eq_one_iff.1 hlen
        have h3 : W.cell? ((a.add (0 * 1)).add 0) = some u := hc 0 (by omega)
        simpa [Addr.add] using World.cell?_spot h3
      obtain ⟨b, off, spot⟩ := a
      have hsp2 : spot = none := hsp
      subst hsp2
      have cell : ∀ i, i < len → ∃ l : List Int, ∃ A' n' c', W.cell? ⟨b, off + i, none⟩ = some (.slice A' n' c') ∧ IR W A' n' c' l ∧ (∀ z ∈ l, I64 z) ∧ Read c' (D i) := fun i hi => by
        obtain ⟨cs', h1, h2⟩ := hx i (by omega)
        obtain ⟨_, hlen, hc⟩ := World.cells?_some h1
        obtain ⟨u, rfl⟩ : ∃ u, cs' = [u] := List.length_eq_one_iff.1 hlen
        obtain ⟨A', n', c', l, rfl, hI, hi6, hrd⟩ := trod_i64q h2
        refine ⟨l, A', n', c', ?_, hI, hi6, hrd⟩
        have := hc 0 (by omega)
        rw [addr_add, addr_add] at this
        simpa using this
      let f : Nat → List Int := fun i => if h : i < len then (cell i h).choose else []
      have hf : ∀ i, (h : i < len) → ∃ A' n' c', W.cell? ⟨b, off + i, none⟩ = some (.slice A' n' c') ∧ IR W A' n' c' (f i) ∧ (∀ z ∈ f i, I64 z) ∧ Read c' (D i) := fun i h => by
        show ∃ A' n' c', W.cell? ⟨b, off + i, none⟩ = some (.slice A' n' c') ∧ IR W A' n' c' (if h : i < len then (cell i h).choose else []) ∧ (∀ z ∈ (if h : i < len then (cell i h).choose else []), I64 z) ∧ Read c' (D i)
        rw [dif_pos h]
        exact (cell i h).choose_spec
      refine ⟨(List.range len).map f, hcs, ⟨by simp, hl, fun _ => ⟨b, off, rfl, ?_, fun j hj => ?_⟩⟩, hw (fun l hl => ?_)⟩
      · obtain ⟨A', n', c', hc, _⟩ := hf 0 h0
        exact World.block_lt_of_cell? W _ hc
      · rw [List.getElem?_map, List.getElem?_range hj]
        obtain ⟨A', n', c', hc, hI, hi6, _⟩ := hf j hj
        exact ⟨A', n', c', hc, hI, hi6⟩
      · obtain ⟨i, hi, rfl⟩ := List.mem_map.1 hl
        have hi2 := List.mem_range.1 hi
        obtain ⟨A', n', c', _, hI, _, hrd⟩ := hf i hi2
        exact ⟨i, hi2, c', by have := hI.1; have := hI.2.1; omega, hrd⟩
end
theorem open_i64ss {H : Type} {enc : TypeId × Value → H} {W : World} {base b0 : Nat} {held : Bool} {r : Reach} {v : Value} {d : DataW H} {p : List MemPlace} (hv : Value.okWide Tryz.prog W r b0 22 v) (h : DataW.Trod enc Tryz.prog W base (fun _ => true) held 22 v d p) :
    ∃ (A : Option Addr) (n c : Nat) (L : List (List Int)), v = .slice A n c ∧ RR W A n c L ∧ RdR n L d := by
  obtain ⟨a, len, cap, rfl⟩ := okWide_slice Tryz.underlying22 hv
  obtain ⟨fuel, hf⟩ := h
  exact trod_rows hf
theorem rows_reach {H : Type} {ts : List TypeId} {ds : List (DataW H)} (h : (DataW.weightsEach Tryz.prog ts ds).all (· ≤ reachBytes) = true) {j : Nat} {d : DataW H} {n : Nat} {L : List (List Int)} (ht : ts[j]? = some 22) (hd : ds[j]? = some d) (hr : RdR n L d) : n ≤ 2305843009213693952 ∧ ∀ l ∈ L, l.length ≤ 2305843009213693952 := by
  obtain ⟨h1, h2⟩ := hr (fun x hx => by have := List.all_eq_true.1 h _ (DataW.weights_mem_each ht hd x hx); simpa using this)
  exact ⟨by omega, fun l hl => by have := h2 l hl; omega⟩
end Go.Proofs.YtpephogadljncaaGreat

/-
  The contract of the landed clip's walk, over what is done with a number.
-/
namespace Go.Proofs.YtpephogadljncaaGreat
set_option maxRecDepth 100000
open Go.RowKit
set_option linter.unusedVariables false
set_option linter.unusedSimpArgs false

/-- Rows whose slices are told: they lie where they lay. -/
def RRs (V : Nat → Option Addr) (N C : Nat → Nat) (W : World) (A : Option Addr) (n : Nat) (L : List (List Int)) : Prop :=
  0 < n → ∃ b off, A = some ⟨b, off, none⟩ ∧ ∀ j, j < n → W.cell? ⟨b, off + j, none⟩ = some (.slice (V j) (N j) (C j)) ∧ IR W (V j) (N j) (C j) (L[j]?.getD [])
theorem rrs_of {w : World} {A : Option Addr} {n c : Nat} {L : List (List Int)} (h : RR w A n c L) : ∃ V N C, ∀ W, Below w.heap.size w W → RRs V N C W A n L := by
  rcases Nat.eq_zero_or_pos n with e | e
  · exact ⟨fun _ => none, fun _ => 0, fun _ => 0, fun W _ hp => absurd hp (by omega)⟩
  · obtain ⟨b, off, rfl, hlt, hc⟩ := h.2.2 e
    have h2 : ∀ j, ∃ x : Option Addr × Nat × Nat, j < n → w.cell? ⟨b, off + j, none⟩ = some (.slice x.1 x.2.1 x.2.2) ∧ IR w x.1 x.2.1 x.2.2 (L[j]?.getD []) := fun j => by
      by_cases hj : j < n
      · obtain ⟨A', n', c', h1, h2, _⟩ := hc j hj
        exact ⟨(A', n', c'), fun _ => ⟨h1, h2⟩⟩
      · exact ⟨(none, 0, 0), fun h => absurd h hj⟩
    refine ⟨fun j => (Classical.choose (h2 j)).1, fun j => (Classical.choose (h2 j)).2.1, fun j => (Classical.choose (h2 j)).2.2, fun W hW _ => ⟨b, off, rfl, fun j hj => ?_⟩⟩
    have h3 := Classical.choose_spec (h2 j) hj
    exact ⟨(hW.cell (p := ⟨b, off + j, none⟩) hlt).trans h3.1, h3.2.on hW⟩

set_option maxHeartbeats 8000000 in
theorem kWalk_S {w : World} {V : Nat → Option Addr} {N C : Nat → Nat} {A : Option Addr} {n c F : Nat} {caps : Array Value} {L : List (List Int)} (I : Nat → Nat → World → Prop) (eg : ∀ args W, (callFunc F args).run Tryz.prog W = .ok (.enter F args) W) (hln : n = L.length) (hn : n ≤ 1000) (hl : ∀ l ∈ L, l.length ≤ 1000)
    (hI : ∀ i k W, I i k W → RRs V N C W A n L) (h0 : I 0 0 w)
    (hs : ∀ W i k, i < n → k < (L[i]?.getD []).length → I i k W → Calls Tryz.prog F (#[.int .i64 (k : Int), .int .i64 ((L[i]?.getD [])[k]?.getD 0)] ++ caps) W (fun e W' => e = .returned (.tuple #[]) ∧ I i (k + 1) W'))
    (hr : ∀ W i, i < n → I i (L[i]?.getD []).length W → I (i + 1) 0 W) :
    Calls Tryz.prog 16 #[.slice A n c, .func (.func F) #[] caps] w (fun e W' => e = .returned (.tuple #[]) ∧ I n 0 W') := by
  have HN := Lib.hid hn
  have HLN := Lib.hid hln
  have HL := Lib.hid hl
  have HI := Lib.hid hI
  have H0 := Lib.hid h0
  have HS := Lib.hid hs
  have HR := Lib.hid hr
  clear hn hln hl hI h0 hs hr
  go_enter Tryz.func16, Tryz.ntmps16
  go_wp2_with fail
  go_loopw [10] (fun iv wr => ∃ i : Nat, i ≤ n ∧ iv = .int .i64 (i : Int) ∧ Hid (I i 0 wr)) (fun iv _ => n - (intOf iv).toNat)
  case atStart => exact ⟨0, by omega, rfl, H0⟩
  case round =>
    clear H0
    obtain ⟨i, hi, rfl, hJ⟩ := hrel
    by_cases hlt : i < n
    · obtain ⟨b, off, rfl, hrs⟩ := HI.out _ _ _ hJ.out (by omega)
      obtain ⟨hcw, hR⟩ := hrs i hlt
      obtain ⟨A', eA'⟩ : ∃ A', V i = A' := ⟨_, rfl⟩
      obtain ⟨n', en'⟩ : ∃ n', N i = n' := ⟨_, rfl⟩
      obtain ⟨c', ec'⟩ : ∃ c', C i = c' := ⟨_, rfl⟩
      have HR2 : Hid (∀ k W, I i k W → IR W A' n' c' (L[i]?.getD [])) := Lib.hid (fun k W h => by obtain ⟨_, _, _, h2⟩ := HI.out _ _ _ h (by omega); have h3 := (h2 i hlt).2; rw [eA', en', ec'] at h3; exact h3)
      rw [eA', en', ec'] at hcw hR
      have hrl := hR.1
      have hr100 : n' ≤ 1000 := by rw [hrl]; exact HL.out _ (mem_at16 (by rw [← HLN.out]; exact hlt))
      have k3 : IntKind.i64.wrap ((i : Int) + 1) = ((i + 1 : Nat) : Int) := by have := HN.out; rw [IntWalk.i64_in _ (by omega)]; omega
      have jl : (i : Int) < (n : Int) := by omega
      have HRL := Lib.hid hrl
      clear hR hrl hrs eA' en' ec'
      go_wp2_with fail
      go_loopw [16] (fun kv wq => ∃ k : Nat, k ≤ n' ∧ kv = .int .i64 (k : Int) ∧ Hid (I i k wq)) (fun kv _ => n' - (intOf kv).toNat)
      case atStart => exact ⟨0, by omega, rfl, hJ⟩
      case round =>
        clear hcw hJ
        obtain ⟨k, hk, rfl, hJ⟩ := hrel
        by_cases hlt2 : k < n'
        · have hR := HR2.out _ _ hJ.out
          obtain ⟨b2, o2, rfl, hb3⟩ := ir_some16 hR (by omega)
          have h1 := ir_cell16 hR hlt2
          have CF := HS.out _ i k hlt (by rw [← HRL.out]; exact hlt2) hJ.out
          obtain ⟨x, ex⟩ : ∃ x, (L[i]?.getD [])[k]?.getD 0 = x := ⟨_, rfl⟩
          rw [ex] at h1 CF
          have k4 : IntKind.i64.wrap ((k : Int) + 1) = ((k + 1 : Nat) : Int) := by rw [IntWalk.i64_in _ (by omega)]; omega
          have jl2 : (k : Int) < (n' : Int) := by omega
          clear hR ex hJ
          go_wp2_with fail
          refine CF.mono ?_
          rintro e w2 ⟨rfl, hJ2⟩
          have HJ2 := Lib.hid hJ2
          clear hJ2
          go_wp2_with fail
          go_roundw
          case rel => exact ⟨k + 1, by omega, by go_num, HJ2⟩
          case measure => simp [intOf] <;> omega
        · obtain rfl : k = n' := by omega
          have HJ2 : Hid (I (i + 1) 0 _) := Lib.hid (HR.out _ i hlt (by rw [← HRL.out]; exact hJ.out))
          clear hJ
          go_wp2_with fail
          go_roundw
          case rel => exact ⟨i + 1, by omega, by go_num, HJ2⟩
          case measure => simp [intOf] <;> omega
    · obtain rfl : i = n := by omega
      go_wp2_with fail
      go_end0
      exact ⟨rfl, hJ.out⟩

theorem kWalk_N {w0 w : World} {A : Option Addr} {n c F : Nat} {caps : Array Value} {L : List (List Int)} (I : Nat → Nat → World → Prop) (eg : ∀ args W, (callFunc F args).run Tryz.prog W = .ok (.enter F args) W) (hA : RR w0 A n c L) (hn : n ≤ 1000) (hl : ∀ l ∈ L, l.length ≤ 1000)
    (hI : ∀ i k W, I i k W → Below w0.heap.size w0 W) (h0 : I 0 0 w)
    (hs : ∀ W i k, i < n → k < (L[i]?.getD []).length → I i k W → Calls Tryz.prog F (#[.int .i64 (k : Int), .int .i64 ((L[i]?.getD [])[k]?.getD 0)] ++ caps) W (fun e W' => e = .returned (.tuple #[]) ∧ I i (k + 1) W'))
    (hr : ∀ W i, i < n → I i (L[i]?.getD []).length W → I (i + 1) 0 W) :
    Calls Tryz.prog 16 #[.slice A n c, .func (.func F) #[] caps] w (fun e W' => e = .returned (.tuple #[]) ∧ I n 0 W') := by
  obtain ⟨V, N, C, h⟩ := rrs_of hA
  exact kWalk_S I eg hA.1 hn hl (fun i k W hW => h W (hI i k W hW)) h0 hs hr

end Go.Proofs.YtpephogadljncaaGreat

/-
  The contracts of the sixteenth reference: Norm, Clip.
-/
namespace Go.Proofs.YtpephogadljncaaGreat
set_option maxRecDepth 100000
open Go.RowKit
set_option linter.unusedVariables false
set_option linter.unusedSimpArgs false
attribute [local go_sem] field16

theorem sqA_len {L : List (List Int)} (hn : L.length ≤ 100) (hl : ∀ l ∈ L, l.length ≤ 100 ∧ ∀ z ∈ l, I64 z) : (limbs (sqA L)).length ≤ 3 := by
  have h1 := sqA_le hl
  have h3 : L.length * (100 * 85070591730234615865843651857942052864) ≤ 100 * (100 * 85070591730234615865843651857942052864) := Nat.mul_le_mul_right _ hn
  exact len_few16 (by omega)
set_option maxHeartbeats 8000000 in
theorem rNorm16_N {w : World} {A : Option Addr} {n c : Nat} {L : List (List Int)} (hA : RR w A n c L) (hn : n ≤ 100) (hl : ∀ l ∈ L, l.length ≤ 100 ∧ ∀ z ∈ l, I64 z) : Calls Tryz.prog 12 #[.slice A n c] w (GotN w (norm16 L)) := by
  have CS := rSquares16_N hA hn hl
  have hs := sqA_len (by rw [← hA.1]; exact hn) hl
  have CU := fun {W : World} {B : Option Addr} {m d : Nat} (h : Num W B m d (sqA L)) => rup_N (k := 2) h (by omega) (by omega) (by omega)
  rw [show uroot 2 (sqA L) = norm16 L from rfl] at CU
  generalize norm16 L = q at *
  generalize sqA L = s at *
  clear hA hl hs hn
  have cc := Below.refl w.heap.size w
  go_enter Tryz.func12, Tryz.ntmps12
  go_wp2_with fail
  refine CS.mono ?_
  rintro e w1 ⟨As, ns, cs, rfl, hs, b⟩
  replace cc := bK cc b
  clear b
  go_wp2_with fail
  refine (CU hs).mono ?_
  rintro e w2 ⟨Aq, nq, cq, rfl, hq, b⟩
  replace cc := bK cc b
  clear b
  go_wp2_with fail
  go_ret
  exact ⟨_, _, _, rfl, hq, cc⟩

end Go.Proofs.YtpephogadljncaaGreat

/-
  Plain arithmetic: Newton's guesses of a root go down to it, and stay no less than it.
-/
namespace Go.Proofs.YtpephogadljncaaGreat

theorem twice_le (r x : Nat) : 2 * (r * x) ≤ r * r + x * x := by
  rcases Nat.le_total r x with h | h
  · obtain ⟨d, rfl⟩ := Nat.le.dest h
    simp only [Nat.mul_add, Nat.add_mul, Nat.mul_comm d r]
    have := Nat.zero_le (d * d)
    omega
  · obtain ⟨d, rfl⟩ := Nat.le.dest h
    simp only [Nat.mul_add, Nat.add_mul, Nat.mul_comm d x]
    have := Nat.zero_le (d * d)
    omega

/-- The mean of j times x and once r to the power of j + 1 by x to the power of j is no less than r. -/
theorem means (r x j : Nat) : (j + 1) * (r * x ^ j) ≤ r ^ (j + 1) + j * (x * x ^ j) := by
  induction j with
  | zero => simp
  | succ j ih =>
    have h1 := Nat.mul_le_mul_left ((j + 1) * x ^ j) (twice_le r x)
    have h2 := Nat.mul_le_mul_left r ih
    rw [Nat.pow_succ r (j + 1), Nat.pow_succ x j]
    generalize x ^ j = X at *
    generalize r ^ (j + 1) = R at *
    have e1 : (j + 1) * X * (2 * (r * x)) = 2 * (j * (r * x * X)) + 2 * (r * x * X) := by
      rw [show (j + 1) * X * (2 * (r * x)) = 2 * ((j + 1) * (r * x * X)) by ac_rfl, Nat.add_mul, Nat.one_mul, Nat.mul_add]
    have e2 : (j + 1) * X * (r * r + x * x) = (j + 1) * (r * r * X) + (j + 1) * (x * x * X) := by
      rw [Nat.mul_add]; congr 1 <;> ac_rfl
    have e3 : r * ((j + 1) * (r * X)) = (j + 1) * (r * r * X) := by ac_rfl
    have e4 : r * (R + j * (x * X)) = R * r + j * (r * x * X) := by
      rw [Nat.mul_add]; congr 1 <;> ac_rfl
    have e5 : (j + 1 + 1) * (r * (X * x)) = j * (r * x * X) + 2 * (r * x * X) := by
      rw [show r * (X * x) = r * x * X by ac_rfl, Nat.add_assoc, Nat.add_mul]
    have e6 : (j + 1) * (x * (X * x)) = (j + 1) * (x * x * X) := by
      congr 1; ac_rfl
    rw [e1, e2] at h1
    rw [e3, e4] at h2
    rw [e5, e6]
    omega

/-- The next guess. -/
def newton (a k x : Nat) : Nat := (x * (k - 1) + a / x ^ (k - 1)) / k

theorem newton_ge {a k r x : Nat} (h1 : 1 ≤ k) (hr : r ^ k ≤ a) (hx : x ≠ 0) : r ≤ newton a k x := by
  obtain ⟨j, rfl⟩ : ∃ j, k = j + 1 := ⟨k - 1, by omega⟩
  unfold newton
  rw [Nat.add_sub_cancel, Nat.le_div_iff_mul_le (by omega)]
  have hX : 0 < x ^ j := Nat.pow_pos (by omega)
  have hq : a < x ^ j * (a / x ^ j + 1) := by
    have h2 := Nat.div_add_mod a (x ^ j)
    have h3 := Nat.mod_lt a hX
    rw [Nat.mul_add, Nat.mul_one]
    omega
  have hm := means r x j
  refine Nat.le_of_lt_succ (Nat.lt_of_mul_lt_mul_right (a := x ^ j) ?_)
  generalize a / x ^ j = q at *
  generalize x ^ j = X at *
  have e1 : r * (j + 1) * X = (j + 1) * (r * X) := by ac_rfl
  have e2 : (x * j + q).succ * X = j * (x * X) + (q + 1) * X := by
    rw [Nat.succ_eq_add_one, Nat.add_assoc, Nat.add_mul]; congr 1; ac_rfl
  rw [e1, e2]
  have e3 : X * (q + 1) = (q + 1) * X := Nat.mul_comm _ _
  omega

theorem newton_lt {a k x : Nat} (h1 : 1 ≤ k) (hx : x ≠ 0) (h : a < x ^ k) : newton a k x < x := by
  obtain ⟨j, rfl⟩ : ∃ j, k = j + 1 := ⟨k - 1, by omega⟩
  unfold newton
  rw [Nat.add_sub_cancel, Nat.div_lt_iff_lt_mul (by omega)]
  have hX : 0 < x ^ j := Nat.pow_pos (by omega)
  have hq : a / x ^ j < x := by
    rw [Nat.div_lt_iff_lt_mul hX, Nat.mul_comm, ← Nat.pow_succ]
    exact h
  rw [Nat.mul_add, Nat.mul_one]
  omega

theorem newton_end {a k x : Nat} (h1 : 1 ≤ k) (hx : x ≠ 0) (h : x ^ k ≤ a) : x ≤ newton a k x := by
  obtain ⟨j, rfl⟩ : ∃ j, k = j + 1 := ⟨k - 1, by omega⟩
  unfold newton
  rw [Nat.add_sub_cancel, Nat.le_div_iff_mul_le (by omega)]
  have hX : 0 < x ^ j := Nat.pow_pos (by omega)
  have hq : x ≤ a / x ^ j := by
    rw [Nat.le_div_iff_mul_le hX, Nat.mul_comm, ← Nat.pow_succ]
    exact h
  rw [Nat.mul_add, Nat.mul_one]
  omega

/-- A power of 2 that is above the root. -/
theorem above_root {a k b : Nat} (h1 : 1 ≤ k) (ha : a < 2 ^ b) : a < (2 ^ ((b + k - 1) / k)) ^ k := by
  refine Nat.lt_of_lt_of_le ha ?_
  rw [← Nat.pow_mul]
  refine Nat.pow_le_pow_right (by omega) ?_
  have h2 := Nat.div_add_mod (b + k - 1) k
  have h3 := Nat.mod_lt (b + k - 1) (show k > 0 by omega)
  rw [Nat.mul_comm] at h2
  omega

theorem above_bits {k b m : Nat} (h1 : 1 ≤ k) (hk : k ≤ 16) (hb : b ≤ m) : (b + k - 1) / k * k ≤ m + 15 := by
  have := Nat.div_mul_le_self (b + k - 1) k
  omega

end Go.Proofs.YtpephogadljncaaGreat

/-
  The contracts of root's inner functions: isExponent, power, quotient, above.
-/
namespace Go.Proofs.YtpephogadljncaaGreat
set_option maxRecDepth 100000
set_option maxHeartbeats 4000000
open Go.RowKit

theorem isExp_yes (w : World) (k : Nat) (h1 : 1 ≤ k) (hk : k ≤ 16) : Calls Tryz.prog 58 #[.int .i64 (k : Int)] w fun e w' => e = .returned (.bool true) ∧ w = w' := by
  have d1 : decide (1 ≤ (k : Int)) = true := by simp; omega
  have d2 : decide ((k : Int) ≤ 16) = true := by simp; omega
  go_enter Tryz.func58, Tryz.ntmps58
  go_wp2
  go_ret
  exact ⟨rfl, rfl⟩
theorem isExp_no (w : World) (k : Int) (hk : k < 1 ∨ 16 < k) : Calls Tryz.prog 58 #[.int .i64 k] w fun e w' => e = .returned (.bool false) ∧ w = w' := by
  rcases hk with h | h
  · have d1 : decide (1 ≤ k) = false := by simp; omega
    go_enter Tryz.func58, Tryz.ntmps58
    go_wp2
    go_ret
    exact ⟨rfl, rfl⟩
  · have d1 : decide (1 ≤ k) = true := by simp; omega
    have d2 : decide (k ≤ 16) = false := by simp; omega
    go_enter Tryz.func58, Tryz.ntmps58
    go_wp2
    go_ret
    exact ⟨rfl, rfl⟩

theorem tpow_N {w : World} {A : Option Addr} {n c x k : Nat} (ha : Num w A n c x) (hx : (limbs x).length ≤ 1000) (hk : k ≤ 16) : Calls Tryz.prog 60 #[.slice A n c, .int .i64 (k : Int)] w (GotN w (x ^ k)) := by
  go_enter Tryz.func60, Tryz.ntmps60
  go_wp2_with fail
  refine (of_N w 1 B64_gt).mono ?_
  rintro e w1 ⟨A1, n1, c1, rfl, h1, b1⟩
  go_wp2_with fail
  go_loopw [5, 8] (fun ov iv wr => ∃ (j : Nat) (A' : Option Addr) (n' c' : Nat), j ≤ k ∧ iv = .int .i64 (j : Int) ∧ ov = .slice A' n' c' ∧ Num wr A' n' c' (x ^ j) ∧ Below w.heap.size w wr) (fun _ iv _ => k - (intOf iv).toNat)
  case atStart => exact ⟨0, A1, n1, c1, Nat.zero_le _, rfl, rfl, h1, b1⟩
  case round =>
    obtain ⟨j, A', n', c', hj, rfl, rfl, hN, hb⟩ := hrel
    have hl := limbs_length_pow hx j
    have ha' := ha.on hb
    by_cases hlt : j < k
    · have hl2 : (limbs (x ^ j)).length ≤ 1000000 := by omega
      clear hl
      go_wp2_with fail
      refine (mul_N hN ha' (by omega) (by omega)).mono ?_
      rintro e w2 ⟨A2, n2, c2, rfl, h2, b2⟩
      rw [← Nat.pow_succ] at h2
      go_wp2_with fail
      go_roundw
      case rel => exact ⟨j + 1, A2, n2, c2, by omega, by go_num, rfl, h2, hb.trans (b2.mono hb.size)⟩
      case measure => simp [intOf]; omega
    · obtain rfl : j = k := by omega
      clear hl
      go_wp2_with fail
      go_ret
      exact ⟨_, _, _, rfl, hN, hb⟩

theorem quot_N {w : World} {A B : Option Addr} {n c m d x y : Nat} (ha : Num w A n c x) (hb : Num w B m d y) (hx : (limbs x).length ≤ 300) (hy : (limbs y).length ≤ 300) (hy0 : y ≠ 0) : Calls Tryz.prog 90 #[.slice A n c, .slice B m d] w (GotN w (x / y)) := by
  go_enter Tryz.func90, Tryz.ntmps90
  go_wp2_with fail
  refine (ddiv_N ha hb hx hy hy0).mono ?_
  rintro e w1 ⟨A1, n1, c1, B1, m1, d1, rfl, h3, h4, b1⟩
  go_wp2_with fail
  go_ret
  exact ⟨_, _, _, rfl, h3, b1⟩

theorem wrap_one {r : Nat} (hr : r < 64) : IntKind.u64.wrap (2 ^ r) = (pw r : Int) := by
  have h1 := pw_lt hr
  rw [IntKind.wrap_u64]
  have e : ((2 : Int) ^ r) = ((pw r : Nat) : Int) := by unfold pw; simp
  rw [e]
  unfold B64 at h1
  omega

theorem above_N {w : World} {A : Option Addr} {n c x k : Nat} (ha : Num w A n c x) (hx : (limbs x).length ≤ 298) (h1 : 1 ≤ k) (hk : k ≤ 16) : Calls Tryz.prog 92 #[.slice A n c, .int .i64 (k : Int)] w (GotN w (2 ^ ((blen x + k - 1) / k))) := by
  obtain ⟨i0, hi, hz0, hz1, hz2⟩ := info_parts info24
  have hk0 : ¬ k = 0 := by omega
  obtain ⟨b, hb⟩ : ∃ b, blen x = b := ⟨_, rfl⟩
  have hb2 : b ≤ 19072 := by
    rw [← hb]
    exact blen_len hx
  obtain ⟨q, hq⟩ : ∃ q, q = (b + k - 1) / k := ⟨_, rfl⟩
  have hq2 : q ≤ 19200 := by rw [hq]; exact Nat.le_trans (Nat.div_le_self _ _) (by omega)
  obtain ⟨s, hs⟩ : ∃ s, s = q / 64 := ⟨_, rfl⟩
  obtain ⟨r, hr⟩ : ∃ r, r = q % 64 := ⟨_, rfl⟩
  have hr2 : r < 64 := by omega
  have hs2 : s ≤ 300 := by omega
  have hw' : ((b : Int) + (k : Int) - 1) / (k : Int) = (q : Int) := by
    rw [hq, Int.natCast_ediv]
    congr 1
    omega
  have hws' : (q : Int) / 64 = (s : Int) := by omega
  have hwr' : (q : Int) % 64 = (r : Int) := by omega
  have HONE := Lib.hid (wrap_one hr2)
  have hl : (List.replicate (s + 1) 0).set s (pw r) = limbs (2 ^ q) := by rw [hs, hr]; exact pw_limbs q
  rw [hb, ← hq]
  have HB := Lib.hid hb
  have HLL := Lib.hid hl
  clear hb hq hs hr hl
  go_enter Tryz.func92, Tryz.ntmps92
  go_wp2_with fail
  refine (bits_N ha (by omega)).mono ?_
  rintro e w1 ⟨rfl, b1⟩
  rw [HB.out]
  obtain ⟨t, ht⟩ : ∃ t, w1.heap.size = t := ⟨_, rfl⟩
  have HS := Lib.hid ht
  clear ht
  have hr3 : (0 : Int) ≤ (r : Int) := by omega
  have hr4 : (r : Int) ≤ 64 := by omega
  go_wp2_with (at_make; refine wpList_make_full _ rfl _ _ 24 rfl t 37 i0 (.int .u64 0) 1 Tryz.underlying24 hi hz0 hz1 .i64 .i64 _ _ (s + 1) rfl rfl (by omega) (by omega) (by rw [hz2]; omega) (by unfold maxLen; omega) (by rw [HS.out]; omega) ?_; intro w2 hown1 hgrow1; rw [made_zeros] at hown1; rw [HS.out] at hown1 ⊢; have hf := hown1.frozenAt s; have hc : w2.cell? ⟨t, s, none⟩ = some (.int .u64 0) := (by rw [hown1.cellAt s (by omega)]; simp [encD]); have hst := Lib.hid (hown1.stored s (.int .u64 (pw r : Int))); have HO := Lib.hid hown1; clear hown1)
  go_ret
  rw [HONE.out]
  have hrow := hst.out.1
  rw [show (Value.int IntKind.u64 (pw r : Int)) = encD (pw r) from rfl, ← List.map_set, HLL.out] at hrow
  refine ⟨_, _, _, rfl, Lim.of_own hrow (limbs_dig _), ?_⟩
  have hsz := HS.out
  exact b1.trans ((((Below.refl t w1).grown hgrow1 (by omega) (fun k h => by cases h)).grown hst.out.2 (by have := hgrow1.size; omega) (fun q e => by cases e; exact Nat.le_refl _)).mono (by have := b1.size; omega))

end Go.Proofs.YtpephogadljncaaGreat

/-
  The contracts of root's guesses: the closure, goDown, rootOf; and of Root, Up, Pow.
-/
namespace Go.Proofs.YtpephogadljncaaGreat
set_option maxRecDepth 100000
open Go.RowKit

theorem undrew3 {W w' : World} (hb : Below W.drew.heap.size W.drew w') : Below W.heap.size W w' := ⟨hb.os, hb.tape, hb.output, hb.size, hb.block⟩

set_option maxHeartbeats 4000000 in
theorem newt_N {w : World} {A X : Option Addr} {n c m d a x k ba bk : Nat} (hcA : w.cell? ⟨ba, 0, none⟩ = some (.slice A n c)) (hcK : w.cell? ⟨bk, 0, none⟩ = some (.int .i64 (k : Int))) (hba : ba < w.heap.size) (hbk : bk < w.heap.size) (ha : Num w A n c a) (hx : Num w X m d x) (la : (limbs a).length ≤ 299) (lx : (limbs x).length ≤ 299) (lp : (limbs (x ^ (k - 1))).length ≤ 300) (h1 : 1 ≤ k) (hk : k ≤ 16) (hx0 : x ≠ 0) (ls : (limbs (x * (k - 1) + a / x ^ (k - 1))).length ≤ 300) :
    Calls Tryz.prog 89 #[.slice X m d, .pointer (some ⟨ba, 0, none⟩), .pointer (some ⟨bk, 0, none⟩)] w (GotN w (newton a k x)) := by
  unfold newton
  obtain ⟨j, hj⟩ : ∃ j, k - 1 = j := ⟨_, rfl⟩
  rw [hj] at lp ls ⊢
  have hji : (k : Int) - 1 = (j : Int) := by omega
  have hjv : IntKind.i64.wrap (j : Int) = (j : Int) := IntWalk.i64_in _ (by omega)
  have hjw : IntKind.u64.wrap (j : Int) = (j : Int) := by rw [IntKind.wrap_u64]; omega
  have hkw : IntKind.u64.wrap (k : Int) = (k : Int) := by rw [IntKind.wrap_u64]; omega
  have hjk : j ≤ 16 := by omega
  have hp0 : x ^ j ≠ 0 := by have : 0 < x ^ j := Nat.pow_pos (by omega); omega
  have hk0 : k ≠ 0 := by omega
  have lq : (limbs (a / x ^ j)).length ≤ 300 := Nat.le_trans (limbs_length_mono (Nat.div_le_self _ _)) (by omega)
  have lk : (limbs k).length ≤ 1 := limbs_length_le (by rw [Nat.pow_one]; unfold B64; omega)
  have ljj : (limbs j).length ≤ 1 := limbs_length_le (by rw [Nat.pow_one]; unfold B64; omega)
  have lxj : (limbs (x * j)).length ≤ 300 := limbs_length_mul lx ljj
  have hkB : k < B64 := by unfold B64; omega
  have hjB : j < B64 := by unfold B64; omega
  have hD := below_drewN (Below.refl w.heap.size w) 1
  have haD : Num w.drew A n c a := ha.on hD
  have hxD : Num w.drew X m d x := hx.on hD
  clear hj hD
  go_enter Tryz.func89, Tryz.ntmps89
  go_wp2_with fail
  go_region_held3 (fun w' => w'.cell? ⟨ba, 0, none⟩ = some (.slice A n c) ∧ w'.cell? ⟨bk, 0, none⟩ = some (.int .i64 (k : Int)))
    (first | go_keep | exact ⟨cK qq hcA hba, cK qq hcK hbk⟩)
    (first
      | (go_at_call 60; (with_reducible refine (tpow_N hxD (by omega) hjk).mono ?_); rintro e v1 ⟨A1, n1, c1, rfl, h3, q1⟩; have qq := undrew3 q1; replace haD := haD.on q1; clear q1)
      | (go_at_call 90; (with_reducible refine (quot_N haD h3 (by omega) lp hp0).mono ?_); rintro e v2 ⟨A2, n2, c2, rfl, h4, q2⟩; replace qq := bK qq q2; clear q2))
  have hxV := hx.on qq
  have f2 := cK qq hcK hbk
  have hbk2 := Nat.lt_of_lt_of_le hbk qq.size
  clear haD hxD h3
  go_wp2_with fail
  refine (of_N _ j hjB).mono ?_
  rintro e v3 ⟨A3, n3, c3, rfl, h5, q3⟩
  replace hxV := hxV.on q3
  replace h4 := h4.on q3
  replace f2 := cK q3 f2 hbk2
  replace hbk2 := lK q3 hbk2
  replace qq := bK qq q3
  clear q3
  go_wp2_with fail
  refine (mul_N hxV h5 (by omega) (by omega)).mono ?_
  rintro e v4 ⟨A4, n4, c4, rfl, h6, q4⟩
  replace h4 := h4.on q4
  replace f2 := cK q4 f2 hbk2
  replace hbk2 := lK q4 hbk2
  replace qq := bK qq q4
  clear q4 h5
  go_wp2_with fail
  refine (add_N h6 h4 (by omega) (by omega)).mono ?_
  rintro e v5 ⟨A5, n5, c5, rfl, h7, q5⟩
  replace f2 := cK q5 f2 hbk2
  replace hbk2 := lK q5 hbk2
  replace qq := bK qq q5
  clear q5 h6 h4
  go_wp2_with fail
  refine (of_N _ k hkB).mono ?_
  rintro e v6 ⟨A6, n6, c6, rfl, h8, q6⟩
  replace h7 := h7.on q6
  replace qq := bK qq q6
  clear q6
  go_wp2_with fail
  refine (quot_N h7 h8 ls (by omega) hk0).mono ?_
  rintro e v7 ⟨A7, n7, c7, rfl, h9, q7⟩
  go_wp2_with fail
  go_ret
  exact ⟨_, _, _, rfl, h9, qq.trans (q7.mono qq.size)⟩

end Go.Proofs.YtpephogadljncaaGreat

/-
  The contracts of root's guesses that go down, and of rootOf.
-/
namespace Go.Proofs.YtpephogadljncaaGreat
set_option maxRecDepth 100000
open Go.RowKit

theorem sum_len {a x k : Nat} (la : (limbs a).length ≤ 100) (lx : (limbs x).length ≤ 110) (hk : k ≤ 16) (p : Nat) : (limbs (x * (k - 1) + a / p)).length ≤ 300 := by
  have h1 : (limbs (k - 1)).length ≤ 1 := limbs_length_le (by rw [Nat.pow_one]; unfold B64; omega)
  have h2 := limbs_length_mul lx h1
  have h3 : (limbs (a / p)).length ≤ 111 := Nat.le_trans (limbs_length_mono (Nat.div_le_self _ _)) (by omega)
  have h4 := limbs_length_add (k := 111) h2 h3
  omega

theorem iroot_ne {k a : Nat} (h1 : 1 ≤ k) (ha : a ≠ 0) : iroot k a ≠ 0 := by
  have := (le_iroot (k := k) (x := a) (r := 1) (by omega)).2 (by rw [Nat.one_pow]; omega)
  omega

set_option maxHeartbeats 4000000 in
theorem down_N {w : World} {A X : Option Addr} {n c m d a x0 k ba bk : Nat} (hcA : w.cell? ⟨ba, 0, none⟩ = some (.slice A n c)) (hcK : w.cell? ⟨bk, 0, none⟩ = some (.int .i64 (k : Int))) (hba : ba < w.heap.size) (hbk : bk < w.heap.size) (ha : Num w A n c a) (hx : Num w X m d x0) (la : (limbs a).length ≤ 100) (lx : (limbs x0).length ≤ 110) (lp : (limbs (x0 ^ (k - 1))).length ≤ 300) (h1 : 1 ≤ k) (hk : k ≤ 16) (ha0 : a ≠ 0) (hx0 : iroot k a ≤ x0) :
    Calls Tryz.prog 91 #[.slice X m d, .func (.func 89) #[] #[.pointer (some ⟨ba, 0, none⟩), .pointer (some ⟨bk, 0, none⟩)]] w (GotN w (iroot k a)) := by
  have hr0 := iroot_ne h1 ha0
  have hk0 : k ≠ 0 := by omega
  go_enter Tryz.func91, Tryz.ntmps91
  go_wp2_with fail
  go_loopg [0] x0 (fun g v wr => ∃ (X' : Option Addr) (m' d' : Nat), v = .slice X' m' d' ∧ Num wr X' m' d' g ∧ iroot k a ≤ g ∧ g ≤ x0 ∧ Below w.heap.size w wr)
  case atStart => exact ⟨X, m, d, rfl, hx, hx0, Nat.le_refl _, Below.refl _ _⟩
  case round =>
    obtain ⟨X', m', d', rfl, hN, hge, hle, hB⟩ := hrel
    have hg0 : gk ≠ 0 := by omega
    have lg : (limbs gk).length ≤ 110 := Nat.le_trans (limbs_length_mono hle) lx
    have lgp : (limbs (gk ^ (k - 1))).length ≤ 300 := Nat.le_trans (limbs_length_mono (pow_le _ hle)) lp
    have hn1 := newton_ge h1 (iroot_pow a hk0) hg0
    have lnn : (limbs (newton a k gk)).length ≤ 400 := by
      unfold newton
      exact Nat.le_trans (limbs_length_mono (Nat.div_le_self _ _)) (Nat.le_trans (sum_len la lg hk _) (by omega))
    have hcall := Lib.hid (newt_N (cK hB hcA hba) (cK hB hcK hbk) (Nat.lt_of_lt_of_le hba hB.size) (Nat.lt_of_lt_of_le hbk hB.size) (ha.on hB) hN (by omega) (by omega) lgp h1 hk hg0 (sum_len la lg hk _))
    clear lgp
    rcases Nat.lt_or_ge a (gk ^ k) with hlt | hge2
    · have hl2 := newton_lt h1 hg0 hlt
      obtain ⟨y, hy⟩ : ∃ y, newton a k gk = y := ⟨_, rfl⟩
      rw [hy] at hcall hn1 hl2 lnn
      clear hy hlt
      go_wp2_with fail
      refine hcall.out.mono ?_
      rintro e w1 ⟨A1, n1, c1, rfl, h3, b1⟩
      have hN1 := hN.on b1
      go_wp2_with fail
      refine (cmp_N h3 hN1 (by omega) (by omega)).mono ?_
      rintro e w2 ⟨rfl, b2⟩
      rw [cmpN_lt hl2]
      go_wp2_with fail
      go_roundg y
      case rel => exact ⟨_, _, _, rfl, h3.on b2, hn1, by omega, hB.trans ((b1.trans (b2.mono b1.size)).mono hB.size)⟩
      case measure => exact hl2
    · have hl2 := newton_end h1 hg0 hge2
      have he : iroot k a = gk := by have := (le_iroot hk0).2 hge2; omega
      rw [he]
      have hz : cmpN (newton a k gk) gk = 0 ∨ cmpN (newton a k gk) gk = 1 := by
        rcases Nat.lt_or_ge gk (newton a k gk) with h | h
        · exact .inr (cmpN_gt h)
        · exact .inl (cmpN_zero.2 (by omega))
      obtain ⟨y, hy⟩ : ∃ y, newton a k gk = y := ⟨_, rfl⟩
      rw [hy] at hcall hn1 hl2 lnn hz
      obtain ⟨z, hzz⟩ : ∃ z, cmpN y gk = z := ⟨_, rfl⟩
      rw [hzz] at hz
      have HZ := Lib.hid hzz
      have HC := Lib.hid hz
      clear hy hge2 he hz hzz
      go_wp2_with fail
      refine hcall.out.mono ?_
      rintro e w1 ⟨A1, n1, c1, rfl, h3, b1⟩
      have hN1 := hN.on b1
      go_wp2_with fail
      refine (cmp_N h3 hN1 (by omega) (by omega)).mono ?_
      rintro e w2 ⟨rfl, b2⟩
      rw [HZ.out]
      rcases HC.out with rfl | rfl
      all_goals
        go_wp2_with fail
        go_ret
        exact ⟨_, _, _, rfl, hN1.on b2, hB.trans ((b1.trans (b2.mono b1.size)).mono hB.size)⟩

end Go.Proofs.YtpephogadljncaaGreat

/-
  The contract of rootOf.
-/
namespace Go.Proofs.YtpephogadljncaaGreat
set_option maxRecDepth 100000
open Go.RowKit

theorem iroot_zero {k : Nat} (hk : k ≠ 0) : iroot k 0 = 0 := iroot_eq hk (by rw [Nat.zero_pow (by omega)]; omega) (by rw [Nat.zero_add, Nat.one_pow]; omega)

set_option maxHeartbeats 4000000 in
theorem rootof_N {w : World} {A : Option Addr} {n c x k : Nat} (ha : Num w A n c x) (hx : (limbs x).length ≤ 100) (h1 : 1 ≤ k) (hk : k ≤ 16) : Calls Tryz.prog 59 #[.slice A n c, .int .i64 (k : Int)] w (GotN w (iroot k x)) := by
  have hk0 : k ≠ 0 := by omega
  obtain ⟨W, hW⟩ : ∃ W, (w.alloc (.cells #[.slice A n c] 24)).alloc (.cells #[.int .i64 (k : Int)] 3) = W := ⟨_, rfl⟩
  obtain ⟨t, ht⟩ : ∃ t, w.heap.size = t := ⟨_, rfl⟩
  have hBW : Below t w W := by
    rw [← hW, ← ht]
    exact ((Below.refl _ w).alloc (Nat.le_refl _) _).alloc (by simp) _
  have hS : W.heap.size = t + 2 := by rw [← hW, ← ht]; simp
  have c1 : W.cell? ⟨t, 0, none⟩ = some (.slice A n c) := by rw [← hW, ← ht]; simp [go_sem]
  have c2 : W.cell? ⟨t + 1, 0, none⟩ = some (.int .i64 (k : Int)) := by rw [← hW, ← ht]; simp [go_sem]
  have f1 : W.frozen? ⟨t, 0, none⟩ = false := by rw [← hW, ← ht]; simp [go_sem]
  have haW := ha.on (by rw [ht]; exact hBW)
  have hshr0 : Calls Tryz.prog 88 #[.slice A n c, .int .i64 0] W (GotP W (x / 2 ^ 0) 0) := dshr_N (k := 0) haW (by omega) (by omega)
  have hshr := Lib.hid hshr0
  have HT := Lib.hid ht
  have HS := Lib.hid hS
  unfold GotN
  go_enter Tryz.func59, Tryz.ntmps59
  clear hS hshr0
  go_wp2_with fail
  clear hW ht
  refine hshr.out.mono ?_
  rintro e w1 ⟨A1, n1, m1, rfl, h3, b1⟩
  rw [Nat.pow_zero, Nat.div_one] at h3
  have d1 := (b1.cell (p := ⟨t, 0, none⟩) (by show t < _; rw [HS.out]; omega)).trans c1
  have d2 := (b1.cell (p := ⟨t + 1, 0, none⟩) (by show t + 1 < _; rw [HS.out]; omega)).trans c2
  have g1 := (b1.frozen (p := ⟨t, 0, none⟩) (by show t < _; rw [HS.out]; omega)).trans f1
  have hs1 : t + 2 ≤ w1.heap.size := by have := b1.size; rw [HS.out] at this; exact this
  have hB1 : Below t w w1 := hBW.trans (b1.mono (by rw [HS.out]; omega))
  clear c1 c2 f1 hBW b1 hshr haW
  have hl3 := h3.len
  by_cases hx0 : x = 0
  · subst hx0
    rw [limbs_zero] at hl3
    simp at hl3
    subst hl3
    go_wp2_with fail
    go_ret
    exact ⟨none, 0, 0, rfl, by rw [iroot_zero hk0]; exact num_none _ _ _, by rw [HT.out]; exact hB1.setCell (Nat.le_refl _) _⟩
  · have hn0 : ((n1 : Int) == 0) = false := by have := limbs_ne_nil hx0; simp; omega
    obtain ⟨w2, hw2⟩ : ∃ w2, w1.setCell ⟨t, 0, none⟩ (.slice A1 n1 m1) = w2 := ⟨_, rfl⟩
    have h3' : Num w2 A1 n1 m1 x := by rw [← hw2]; exact h3.set_other d1 (fun _ _ e => by cases e)
    have e1 : w2.cell? ⟨t, 0, none⟩ = some (.slice A1 n1 m1) := by rw [← hw2]; exact World.cell?_setCell_same _ _ _ d1
    have e2 : w2.cell? ⟨t + 1, 0, none⟩ = some (.int .i64 (k : Int)) := by rw [← hw2, World.cell?_setCell_other (h := fun e => by injection e with e3; omega)]; exact d2
    have hs2 : t + 2 ≤ w2.heap.size := by rw [← hw2]; simp; exact hs1
    have hB2 : Below t w w2 := by rw [← hw2]; exact hB1.setCell (Nat.le_refl _) _
    obtain ⟨q, hq⟩ : ∃ q, (blen x + k - 1) / k = q := ⟨_, rfl⟩
    have hbl := blen_len hx
    have hqk : q * k ≤ 6400 + 15 := by rw [← hq]; exact above_bits h1 hk (by omega)
    have hq1 : q ≤ 6415 := Nat.le_trans (Nat.le_mul_of_pos_right q (by omega)) hqk
    have hqp : q * (k - 1) ≤ 6415 := Nat.le_trans (Nat.mul_le_mul_left q (by omega)) hqk
    have lq : (limbs (2 ^ q)).length ≤ 110 := Nat.le_trans (limbs_two_pow (m := 110) (by omega)) (Nat.le_refl _)
    have lp : (limbs ((2 ^ q) ^ (k - 1))).length ≤ 300 := by rw [← Nat.pow_mul]; exact limbs_two_pow (m := 300) (by omega)
    have hge : iroot k x ≤ 2 ^ q := by
      rcases Nat.lt_or_ge (2 ^ q) (iroot k x) with h | h
      · have h5 := above_root (a := x) h1 (lt_blen x)
        rw [hq] at h5
        have h6 := pow_lt hk0 h
        have h7 := iroot_pow x hk0
        omega
      · exact h
    have hab : Calls Tryz.prog 92 #[.slice A1 n1 m1, .int .i64 (k : Int)] w2 (GotN w2 (2 ^ q)) := by rw [← hq]; exact above_N h3' (by omega) h1 hk
    have HAB := Lib.hid hab
    have HQ := Lib.hid hq
    clear hl3 hq h3 d2 hbl hqk hqp hab
    go_wp2_with fail
    clear d1
    refine HAB.out.mono ?_
    rintro e w3 ⟨A3, n3, c3, rfl, h4, b3⟩
    have hd := down_N ((b3.cell (p := ⟨t, 0, none⟩) (by show t < _; omega)).trans e1) ((b3.cell (p := ⟨t + 1, 0, none⟩) (by show t + 1 < _; omega)).trans e2) (Nat.lt_of_lt_of_le (show t < _ by omega) b3.size) (Nat.lt_of_lt_of_le (show t + 1 < _ by omega) b3.size) (h3'.on b3) h4 hx lq lp h1 hk hx0 hge
    have HD := Lib.hid hd
    have hB3 := hB2.trans (b3.mono (by omega))
    clear hd e1 e2 hw2
    go_wp2_with fail
    refine HD.out.mono ?_
    rintro e w4 ⟨A4, n4, c4, rfl, h5, b4⟩
    go_wp2_with fail
    go_ret
    exact ⟨_, _, _, rfl, h5, by rw [HT.out]; exact hB3.trans (b4.mono (by have := b3.size; omega))⟩

end Go.Proofs.YtpephogadljncaaGreat

/-
  The contracts of package root in one style, over numbers.
-/
namespace Go.Proofs.YtpephogadljncaaGreat
set_option maxRecDepth 100000
set_option maxHeartbeats 2000000
open Go.RowKit
theorem uroot_lt {k x : Nat} (h : iroot k x ^ k ≠ x) : uroot k x = iroot k x + 1 := by unfold uroot; rw [if_neg h]
theorem uroot_eq {k x : Nat} (h : iroot k x ^ k = x) : uroot k x = iroot k x := by unfold uroot; rw [if_pos h]

theorem up_N {w : World} {A : Option Addr} {n c x k : Nat} (ha : Num w A n c x) (hx : (limbs x).length ≤ 100) (h1 : 1 ≤ k) (hk : k ≤ 16) : Calls Tryz.prog 29 #[.slice A n c, .int .i64 (k : Int)] w (GotP w (uroot k x) 0) := by
  have hk0 : k ≠ 0 := by omega
  have hpw := iroot_pow x hk0
  have hrl : (limbs (iroot k x)).length ≤ 100 := Nat.le_trans (limbs_length_mono (iroot_le x hk0)) hx
  have hpl : (limbs (iroot k x ^ k)).length ≤ 100 := Nat.le_trans (limbs_length_mono hpw) hx
  by_cases he : iroot k x ^ k = x
  · have hz : cmpN (iroot k x ^ k) x = 0 := cmpN_zero.2 he
    have HU := Lib.hid (uroot_eq he)
    have HZ := Lib.hid hz
    clear he hz hpw
    go_enter Tryz.func29, Tryz.ntmps29
    go_wp2_with fail
    refine (isExp_yes _ k h1 hk).mono ?_
    rintro e w' ⟨rfl, rfl⟩
    go_wp2_with fail
    refine (rootof_N ha hx h1 hk).mono ?_
    rintro e w1 ⟨A1, n1, c1, rfl, hr, b1⟩
    have ha1 := ha.on b1
    go_wp2_with fail
    refine (tpow_N hr (by omega) hk).mono ?_
    rintro e w2 ⟨A2, n2, c2, rfl, hp, b2⟩
    have ha2 := ha1.on b2
    have hr2 := hr.on b2
    go_wp2_with fail
    refine (cmp_N hp ha2 (by omega) (by omega)).mono ?_
    rintro e w3 ⟨rfl, b3⟩
    rw [HZ.out]
    go_wp2_with fail
    go_ret2
    rw [HU.out]
    exact ⟨_, _, _, rfl, hr2.on b3, b1.trans ((b2.trans (b3.mono b2.size)).mono b1.size)⟩
  · have hz : cmpN (iroot k x ^ k) x = -1 := cmpN_lt (by omega)
    have HU := Lib.hid (uroot_lt he)
    have HZ := Lib.hid hz
    clear he hz hpw
    go_enter Tryz.func29, Tryz.ntmps29
    go_wp2_with fail
    refine (isExp_yes _ k h1 hk).mono ?_
    rintro e w' ⟨rfl, rfl⟩
    go_wp2_with fail
    refine (rootof_N ha hx h1 hk).mono ?_
    rintro e w1 ⟨A1, n1, c1, rfl, hr, b1⟩
    have ha1 := ha.on b1
    go_wp2_with fail
    refine (tpow_N hr (by omega) hk).mono ?_
    rintro e w2 ⟨A2, n2, c2, rfl, hp, b2⟩
    have ha2 := ha1.on b2
    have hr2 := hr.on b2
    go_wp2_with fail
    refine (cmp_N hp ha2 (by omega) (by omega)).mono ?_
    rintro e w3 ⟨rfl, b3⟩
    rw [HZ.out]
    have hr3 := hr2.on b3
    have b13 : Below w.heap.size w w3 := b1.trans ((b2.trans (b3.mono b2.size)).mono b1.size)
    go_wp2_with fail
    refine (of_N _ 1 B64_gt).mono ?_
    rintro e w4 ⟨A4, n4, c4, rfl, h4, b4⟩
    have hr4 := hr3.on b4
    go_wp2_with fail
    refine (add_N hr4 h4 (by omega) (by rw [limbs_one (by omega) B64_gt]; simp)).mono ?_
    rintro e w5 ⟨A5, n5, c5, rfl, h5, b5⟩
    go_wp2_with fail
    go_ret2
    rw [HU.out]
    exact ⟨_, _, _, rfl, h5, b13.trans ((b4.trans (b5.mono b4.size)).mono b13.size)⟩
theorem up_no (w : World) (A : Option Addr) (n c : Nat) (k : Int) (hk : k < 1 ∨ 16 < k) : Calls Tryz.prog 29 #[.slice A n c, .int .i64 k] w (GotV w (.tuple #[.slice none 0 0, .int .i64 1])) := by
  have HK := Lib.hid hk
  clear hk
  go_enter Tryz.func29, Tryz.ntmps29
  go_wp2_with fail
  refine (isExp_no _ k HK.out).mono ?_
  rintro e w' ⟨rfl, rfl⟩
  go_wp2_with fail
  go_ret2
  exact ⟨rfl, Below.refl _ _⟩
end Go.Proofs.YtpephogadljncaaGreat

/-
  The contracts of the landed clip's Norm: what is done with a number, and all of it.
-/
namespace Go.Proofs.YtpephogadljncaaGreat
set_option maxRecDepth 100000
set_option maxHeartbeats 8000000
open Go.RowKit
set_option linter.unusedVariables false
set_option linter.unusedSimpArgs false
attribute [local go_sem] field16

/-- No cell of the block holds an integer. -/
def NoInt (w : World) (g : Nat) : Prop := ∀ (o : Nat) (k : IntKind) (z : Int), w.cell? ⟨g, o, none⟩ ≠ some (.int k z)
theorem noint_box {w : World} {g : Nat} {t : TypeId} {A : Option Addr} {n c : Nat} (h : Boxed w g t (.slice A n c)) : NoInt w g := by
  intro o k z e
  cases o with
  | zero => rw [h.cell] at e; cases e
  | succ o =>
    have h2 : w.heap[g]? = _ := h
    simp [World.cell?, h2] at e
theorem num_far {w : World} {A : Option Addr} {n c x g o : Nat} {v : Value} (h : Num w A n c x) (hg : NoInt w g) : Num (w.setCell ⟨g, o, none⟩ v) A n c x :=
  ⟨h.1, h.2.1, h.2.2.1, fun hp => by
    obtain ⟨b, off, e, hlt, hc⟩ := h.2.2.2 hp
    have hne : b ≠ g := fun e2 => hg off _ _ (by rw [← e2]; exact hc 0 hp)
    exact ⟨b, off, e, by simp; exact hlt, fun j hj => by rw [World.cell?_setCell_other (h := addr_ne' (Ne.symm hne))]; exact hc j hj⟩⟩
theorem boxed_on {W W' : World} {g : Nat} {t : TypeId} {v : Value} (h : Boxed W g t v) (b : Below W.heap.size W W') : Boxed W' g t v := (b.block g h.lt).trans h

theorem kNorm1_N {w0 W : World} {g : Nat} {A : Option Addr} {n c X : Nat} {k x : Int} (hb : Boxed W g 24 (.slice A n c)) (hN : Num W A n c X) (hx : I64 x) (hX : (limbs X).length ≤ 3) (hB : Below w0.heap.size w0 W) (hg : w0.heap.size ≤ g) :
    Calls Tryz.prog 26 #[.int .i64 k, .int .i64 x, .pointer (some ⟨g, 0, none⟩)] W (fun e W' => e = .returned (.tuple #[]) ∧ ∃ A' n' c', Boxed W' g 24 (.slice A' n' c') ∧ Num W' A' n' c' (X + sq1 x) ∧ Below w0.heap.size w0 W') := by
  have HXL := Lib.hid (len_one hx.abs)
  have HX2 := Lib.hid (limbs_length_mul (len_one hx.abs) (len_one hx.abs))
  have CO := fun V : World => zof_N V x hx
  have HX := Lib.hid hX
  have HG := Lib.hid hg
  have HQ : Hid (x.natAbs * x.natAbs = sq1 x) := Lib.hid rfl
  clear hx hX hg
  go_enter Tryz.func26, Tryz.ntmps26
  go_wp2_with fail
  refine (CO _).mono ?_
  rintro e w1 ⟨bz, Az, nz, cz, rfl, hz, b⟩
  replace hb := boxed_on hb b
  replace hN := hN.on b
  replace hB := bK hB b
  have hz1 := hz.1
  clear hz b
  have h0 := hb.cell
  have r0 := hb.frozen
  go_wp2_with fail
  have BD : Below w1.heap.size w1 w1.drew := below_drewN (Below.refl _ w1) 1
  go_region_with (first | (go_at_call 28; refine (mul_N (hz1.on BD) (hz1.on BD) (Nat.le_trans HXL.out (by omega)) (Nat.le_trans HXL.out (by omega))).mono ?_; rintro e z1 ⟨Ap, np, cp, rfl, hp, b⟩; have b1 := BD.trans (b.mono BD.size); have hb1 := boxed_on hb b1; have hN1 := hN.on b1; have x0 := hb1.cell; have s0 := hb1.frozen; clear b) | (go_at_call 27; refine (add_N hN1 hp (Nat.le_trans HX.out (by omega)) (Nat.le_trans HX2.out (by omega))).mono ?_; rintro e z2 ⟨Au, nu, cu, rfl, hu, b⟩; have hb2 := boxed_on hb1 b; have b2_ := b1.trans (b.mono b1.size); have y0 := hb2.cell; have t0 := hb2.frozen; clear b))
  all_goals rw [HQ.out] at hu
  all_goals have HU := Lib.hid (num_far (o := 0) (v := .slice Au nu cu) hu (noint_box hb2))
  all_goals have HB2 := Lib.hid (hb2.set (.slice Au nu cu))
  all_goals have HBB := Lib.hid ((hB.trans (b2_.mono hB.size)).setCell (p := ⟨g, 0, none⟩) HG.out (.slice Au nu cu))
  all_goals clear hu hb2 b2_ hB hb1 hN1
  all_goals go_wp2_with fail
  all_goals go_end0
  all_goals exact ⟨rfl, _, _, _, HB2.out, HU.out, HBB.out⟩

theorem clNorm_N {w : World} {A : Option Addr} {n c : Nat} {L : List (List Int)} (hA : RR w A n c L) (hn : n ≤ 100) (hl : ∀ l ∈ L, l.length ≤ 100 ∧ ∀ z ∈ l, I64 z) : Calls Tryz.prog 11 #[.slice A n c] w (GotN w (norm16 L)) := by
  have hln := hA.1
  have HP : Hid (∀ i k, (limbs (sqA (L.take i) + sqS ((L[i]?.getD []).take k))).length ≤ 3) := Lib.hid (fun i k => sqP_len (by omega) hl)
  have HS : Hid (∀ i k, k < (L[i]?.getD []).length → sqA (L.take i) + sqS ((L[i]?.getD []).take k) + sq1 ((L[i]?.getD [])[k]?.getD 0) = sqA (L.take i) + sqS ((L[i]?.getD []).take (k + 1))) := Lib.hid (fun i k h => by rw [sqS_take _ _ h]; omega)
  have HE : Hid (∀ i, i < L.length → sqA (L.take i) + sqS ((L[i]?.getD []).take (L[i]?.getD []).length) = sqA (L.take (i + 1)) + sqS ((L[i + 1]?.getD []).take 0)) := Lib.hid (fun i h => by rw [sqA_take _ _ h, List.take_of_length_le (Nat.le_refl _), List.take_zero]; show _ = sqA (L.take i) + sqS (L[i]?.getD []) + 0; omega)
  have HF : Hid (sqA (L.take n) + sqS ((L[n]?.getD []).take 0) = sqA L) := Lib.hid (by rw [hln, List.take_of_length_le (Nat.le_refl _), List.take_zero]; show sqA L + 0 = _; omega)
  have H0 : Hid (sqA (L.take 0) + sqS ((L[0]?.getD []).take 0) = 0) := Lib.hid (by rw [List.take_zero, List.take_zero]; rfl)
  obtain ⟨S, eS⟩ : ∃ S : Nat → Nat → Nat, (fun i k => sqA (L.take i) + sqS ((L[i]?.getD []).take k)) = S := ⟨_, rfl⟩
  have HP2 : Hid (∀ i k, (limbs (S i k)).length ≤ 3) := Lib.hid (fun i k => by rw [← eS]; exact HP.out i k)
  have HS2 : Hid (∀ i k, k < (L[i]?.getD []).length → S i k + sq1 ((L[i]?.getD [])[k]?.getD 0) = S i (k + 1)) := Lib.hid (fun i k h => by rw [← eS]; exact HS.out i k h)
  have HE2 : Hid (∀ i, i < L.length → S i (L[i]?.getD []).length = S (i + 1) 0) := Lib.hid (fun i h => by rw [← eS]; exact HE.out i h)
  have HF2 : Hid (S n 0 = sqA L) := Lib.hid (by rw [← eS]; exact HF.out)
  have H02 : Hid (S 0 0 = 0) := Lib.hid (by rw [← eS]; exact H0.out)
  have HFL : Hid ((limbs (sqA L)).length ≤ 3) := Lib.hid (by rw [← HF2.out]; exact HP2.out n 0)
  clear HP HS HE HF H0 eS
  have b0 : Below w.heap.size w (w.alloc (.cells #[.slice none 0 0] 24)) := (Below.refl _ w).alloc (Nat.le_refl _) _
  have CW : Calls Tryz.prog 16 #[.slice A n c, .func (.func 26) #[] #[.pointer (some ⟨w.heap.size, 0, none⟩)]] (w.alloc (.cells #[.slice none 0 0] 24)) (fun e W' => e = .returned (.tuple #[]) ∧ ∃ A' n' c', Boxed W' w.heap.size 24 (.slice A' n' c') ∧ Num W' A' n' c' (sqA L) ∧ Below w.heap.size w W') := by
    have h := kWalk_N (w0 := w) (w := w.alloc (.cells #[.slice none 0 0] 24)) (F := 26) (caps := #[.pointer (some ⟨w.heap.size, 0, none⟩)]) (fun i k W' => ∃ A' n' c', Boxed W' w.heap.size 24 (.slice A' n' c') ∧ Num W' A' n' c' (S i k) ∧ Below w.heap.size w W') (fun args W => rfl) hA (by omega) (fun l h => by have := (hl l h).1; omega)
      (fun i k W h => by obtain ⟨_, _, _, _, _, h⟩ := h; exact h)
      ⟨none, 0, 0, Boxed.new _ _ _, by rw [H02.out]; exact num_nil _ _ _, b0⟩
      (fun W i k hi hk h => by
        obtain ⟨A', n', c', h1, h2, h3⟩ := h
        refine (kNorm1_N h1 h2 ((hl _ (mem_at16 (by omega))).2 _ (mem_at16 hk)) (HP2.out i k) h3 (Nat.le_refl _)).mono ?_
        rintro e W' ⟨rfl, A2, n2, c2, q1, q2, q3⟩
        exact ⟨rfl, A2, n2, c2, q1, by rw [← HS2.out i k hk]; exact q2, q3⟩)
      (fun W i hi h => by
        obtain ⟨A', n', c', h1, h2, h3⟩ := h
        exact ⟨A', n', c', h1, by rw [← HE2.out i (by omega)]; exact h2, h3⟩)
    rw [HF2.out] at h
    exact h
  have HU : Hid (norm16 L = uroot 2 (sqA L)) := Lib.hid rfl
  rw [HU.out]
  clear HU HP2 HS2 HE2 HF2 H02 hn hl hln hA b0
  go_enter Tryz.func11, Tryz.ntmps11
  go_wp2_with fail
  refine CW.mono ?_
  rintro e w1 ⟨rfl, As, ns, cs, hb, hs, hB⟩
  clear CW
  have h0 := hb.cell
  go_wp2_with fail
  refine (up_N (k := 2) hs (Nat.le_trans HFL.out (by omega)) (by omega) (by omega)).mono ?_
  rintro e w2 ⟨Au, nu, cu, rfl, hu, b⟩
  replace hB := bK hB b
  clear b hb hs h0
  go_wp2_with fail
  go_ret
  exact ⟨_, _, _, rfl, hu, hB⟩

end Go.Proofs.YtpephogadljncaaGreat

/-
  The contract of the sixteenth reference: Clip.
-/
namespace Go.Proofs.YtpephogadljncaaGreat
set_option maxRecDepth 100000
set_option maxHeartbeats 8000000
open Go.RowKit
set_option linter.unusedVariables false
set_option linter.unusedSimpArgs false

attribute [local go_sem] field16
/-- What is clipped, and its error. -/
def clipR (N : Nat) (most : Int) (l : List Int) : List Int := if most < 0 then [] else if most = 0 ∨ N ≤ most.natAbs then l else l.map (clip1 most.natAbs N)
def clipE (most : Int) : Int := if most < 0 then 1 else 0
theorem clip_i64 {m n : Nat} (h : m ≤ n) (hn : 0 < n) {x : Int} (hx : I64 x) : I64 (clip1 m n x) := by
  have h1 := clip_side h hn x
  unfold I64 at hx ⊢
  rcases Int.le_total 0 x with e | e
  · have := h1.1 e; omega
  · have := h1.2 e; omega
theorem clip_zn {w : World} {A : Option Addr} {n c m N : Nat} {x : Int} (h : Num w A n c (x.natAbs * m / N)) (b : Bool) (hb : b = (decide (x < 0) && decide (0 < n))) : Zn w b A n c (clip1 m N x) := by
  have hl := h.len
  have e : (clip1 m N x).natAbs = x.natAbs * m / N := by
    rcases Int.le_total 0 x with e | e
    · rw [clip_pos e, Int.natAbs_natCast]
    · rw [clip_neg e, Int.natAbs_neg, Int.natAbs_natCast]
  refine ⟨by rw [e]; exact h, ?_⟩
  rw [hb]
  rcases Nat.eq_zero_or_pos (x.natAbs * m / N) with q0 | q0
  · rw [q0, limbs_zero] at hl
    have h0 : n = 0 := hl
    have h2 : clip1 m N x = 0 := by omega
    rw [h0, h2]; simp
  · have h0 : 0 < n := by
      rcases Nat.eq_zero_or_pos n with h0 | h0
      · exfalso
        have h3 : limbs (x.natAbs * m / N) = [] := List.eq_nil_of_length_eq_zero (by omega)
        have h4 := val_limbs (x.natAbs * m / N)
        rw [h3] at h4
        have h5 : val [] = 0 := rfl
        omega
      · exact h0
    rw [decide_eq_true h0, Bool.and_true]
    rcases Int.le_total 0 x with e2 | e2
    · rw [clip_pos e2, decide_eq_false (by omega), decide_eq_false (by omega)]
    · rw [clip_neg e2]
      rcases Int.lt_or_eq_of_le e2 with e3 | e3
      · rw [decide_eq_true e3, decide_eq_true (by omega)]
      · rw [e3] at q0; simp at q0
theorem ir_news {w W : World} {b off n c : Nat} {l : List Int} (h : IR w (some ⟨b, off, none⟩) n c l) (hb : Below w.heap.size w W) : ∀ j u, (l.map encI)[j]? = some u → W.cell? ((⟨b, off, none⟩ : Addr).add j) = some u := by
  intro j u e
  rw [List.getElem?_map] at e
  rcases hj : l[j]? with _ | z
  · rw [hj] at e; cases e
  · rw [hj] at e
    injection e with e
    subst e
    have hl := (List.getElem?_eq_some_iff.1 hj).1
    have h1 := ir_cell16 h (j := j) (by rw [h.1]; exact hl)
    obtain ⟨b', off', e2, hlt, _⟩ := h.2.2 (by have := h.1; omega)
    injection e2 with e2
    injection e2 with e3 e4
    subst e3 e4
    rw [addr_add, hb.cell (p := ⟨b, off + j, none⟩) hlt, h1, hj]
    rfl

theorem rClip16_neg {w : World} {A B : Option Addr} {n c m d N : Nat} {l : List Int} {most : Int} (hA : IR w A n c l) (hB : Num w B m d N) (h : most < 0) : Calls Tryz.prog 14 #[.slice A n c, .slice B m d, .int .i64 most] w (GotIp w [] 1) := by
  have t0 : decide (most < 0) = true := decide_eq_true h
  clear h
  have cc := Below.refl w.heap.size w
  go_enter Tryz.func14, Tryz.ntmps14
  go_wp2_with fail
  go_ret2
  exact ⟨_, _, _, rfl, ⟨rfl, Nat.le_refl _, fun h => absurd h (by omega)⟩, cc⟩

theorem rClip16_zn {w : World} {A B : Option Addr} {n c m d N : Nat} {l : List Int} {most : Int} (hA : IR w A n c l) (hB : Num w B m d N) (h : most = 0) (h1 : 0 ≤ most) (hn : n = 0) : Calls Tryz.prog 14 #[.slice A n c, .slice B m d, .int .i64 most] w (GotIp w l 0) := by
  have t0 : decide (most < 0) = false := decide_eq_false (by omega)
  have t1 : (most == 0) = true := beq_iff_eq.2 h
  have CO := fun W : World => rzof_N W most (by unfold I64; omega)
  obtain ⟨i0, hi, hz0, hz1, hz2⟩ := info_parts infoI
  have hl0 : l = [] := List.eq_nil_of_length_eq_zero (by rw [← hA.1]; exact hn)
  subst hl0
  subst hn
  have HAV := Lib.hid hA
  have HBV := Lib.hid hB
  have H64 := Lib.hid (show most.natAbs < B64 by unfold B64; omega)
  clear hA hB h h1
  have cc := Below.refl w.heap.size w
  go_enter Tryz.func14, Tryz.ntmps14
  go_wp2_with fail
  refine (CO _).mono ?_
  rintro e w1 ⟨bz, Az, nz, cz, rfl, hz, b⟩
  have hA := HAV.out.on b
  have hB := HBV.out.on b
  replace cc := bK cc b
  clear b
  go_wp2_with (at_builtin; refine wpList_append_zero _ rfl _ _ 28 rfl 2 i0 Tryz.underlying28 hi _ _ _ _ _ rfl rfl (by omega) ?_)
  go_ret2
  exact ⟨_, _, _, rfl, ⟨rfl, Nat.le_refl _, fun h => absurd h (by omega)⟩, cc.alloc (by have := cc.size; omega) _⟩

theorem rClip16_zs {w : World} {A B : Option Addr} {n c m d N : Nat} {l : List Int} {most : Int} (hA : IR w A n c l) (hB : Num w B m d N) (h : most = 0) (h1 : 0 ≤ most) (hp : 0 < n) (hn' : n ≤ 100) : Calls Tryz.prog 14 #[.slice A n c, .slice B m d, .int .i64 most] w (GotIp w l 0) := by
  have t0 : decide (most < 0) = false := decide_eq_false (by omega)
  have t1 : (most == 0) = true := beq_iff_eq.2 h
  have CO := fun W : World => rzof_N W most (by unfold I64; omega)
  obtain ⟨i0, hi, hz0, hz1, hz2⟩ := info_parts infoI
  have HAV := Lib.hid hA
  have HBV := Lib.hid hB
  have H64 := Lib.hid (show most.natAbs < B64 by unfold B64; omega)
  have hn1 : n ≤ 100 := hn'
  clear hA hB h h1 hn'
  have cc := Below.refl w.heap.size w
  go_enter Tryz.func14, Tryz.ntmps14
  go_wp2_with fail
  refine (CO _).mono ?_
  rintro e w1 ⟨bz, Az, nz, cz, rfl, hz, b⟩
  have hA := HAV.out.on b
  have hB := HBV.out.on b
  replace cc := bK cc b
  clear b
  have b0 : Below w1.heap.size w1 (w1.alloc (.cells #[] 2)) := (Below.refl _ _).alloc (Nat.le_refl _) _
  have hE : (w1.alloc (.cells #[] 2)).ownsRow w1.heap.size 2 1 (.slice (some ⟨w1.heap.size, 0, none⟩) 0 0) 0 ([] : List Value) := World.ownsRow_lit w1 #[] 0 (Nat.le_refl _) (by unfold maxLen; omega) rfl
  have HE := Lib.hid hE
  have HB0 := Lib.hid b0
  obtain ⟨bb, off, rfl, hb0⟩ := ir_some16 hA hp
  have HL : Hid ((l.map encI).length = n * 1) := Lib.hid (by rw [List.length_map, ← hA.1]; omega)
  have HNW := Lib.hid (ir_news hA b0)
  clear hE b0 hb0
  go_wp2_with (at_builtin; refine wpList_append_lies _ rfl _ _ 28 rfl w1.heap.size 2 i0 (.int .i64 0) 1 8 Tryz.underlying28 hi hz0 hz1 hz2 rfl (by decide) _ 0 [] rfl HE.out ⟨bb, off, none⟩ n c (l.map encI) rfl HL.out HNW.out (fun u hu => by obtain ⟨x, _, rfl⟩ := List.mem_map.1 hu; rfl) (by omega) (by unfold maxLen; omega) (by omega) (by first | omega | (simp <;> omega)) _ rfl ?_; intro g1 cap1 w4 hown1 hgrow1 hat1 hlt1)
  have b1 : Below w1.heap.size w1 w4 := HB0.out.grown hgrow1 (by simp) (fun q e => by injection (show some w1.heap.size = some q from e) with e1; omega)
  rw [List.nil_append] at hown1
  rw [Nat.zero_add] at hown1
  go_ret2
  exact ⟨_, _, _, by first | rfl | simp, IR.of_own hown1, cc.trans (b1.mono cc.size)⟩

theorem rClip16_ln {w : World} {A B : Option Addr} {n c m d N : Nat} {l : List Int} {most : Int} (hA : IR w A n c l) (hB : Num w B m d N) (h : most ≠ 0) (h1 : 0 ≤ most) (h2 : most ≤ 9223372036854775807) (hN : (limbs N).length ≤ 300 ∧ N ≤ most.natAbs) (hn : n = 0) : Calls Tryz.prog 14 #[.slice A n c, .slice B m d, .int .i64 most] w (GotIp w l 0) := by
  have t0 : decide (most < 0) = false := decide_eq_false (by omega)
  have t1 : (most == 0) = false := beq_eq_false_iff_ne.2 (by omega)
  have CO := fun W : World => rzof_N W most (by unfold I64; omega)
  have CN := fun {W : World} {B' : Option Addr} {m' d' : Nat} (h : Num W B m d N) (h' : Num W B' m' d' most.natAbs) => rcmp_N h h' (by omega) (Nat.le_trans (len_one (show most.natAbs < B64 by unfold B64; omega)) (by omega))
  have hcm : cmpN N most.natAbs ≤ 0 := by unfold cmpN; split <;> (try split) <;> omega
  obtain ⟨q, hq⟩ : ∃ q, cmpN N most.natAbs = q := ⟨_, rfl⟩
  rw [hq] at CN hcm
  have t2 : decide (q ≤ 0) = true := decide_eq_true hcm
  clear hcm hq
  obtain ⟨i0, hi, hz0, hz1, hz2⟩ := info_parts infoI
  have hl0 : l = [] := List.eq_nil_of_length_eq_zero (by rw [← hA.1]; exact hn)
  subst hl0
  subst hn
  have HAV := Lib.hid hA
  have HBV := Lib.hid hB
  have H64 := Lib.hid (show most.natAbs < B64 by unfold B64; omega)
  clear hA hB h h1 h2 hN
  have cc := Below.refl w.heap.size w
  go_enter Tryz.func14, Tryz.ntmps14
  go_wp2_with fail
  refine (CO _).mono ?_
  rintro e w1 ⟨bz, Az, nz, cz, rfl, hz, b⟩
  have hA := HAV.out.on b
  have hB := HBV.out.on b
  replace cc := bK cc b
  clear b
  have hz1_ := hz.1
  clear hz
  go_wp2_with fail
  refine (CN hB hz1_).mono ?_
  rintro e w2 ⟨rfl, b⟩
  replace hA := hA.on b
  replace cc := bK cc b
  clear b
  clear hz1_
  go_wp2_with (at_builtin; refine wpList_append_zero _ rfl _ _ 28 rfl 2 i0 Tryz.underlying28 hi _ _ _ _ _ rfl rfl (by omega) ?_)
  go_ret2
  exact ⟨_, _, _, rfl, ⟨rfl, Nat.le_refl _, fun h => absurd h (by omega)⟩, cc.alloc (by have := cc.size; omega) _⟩

theorem rClip16_ls {w : World} {A B : Option Addr} {n c m d N : Nat} {l : List Int} {most : Int} (hA : IR w A n c l) (hB : Num w B m d N) (h : most ≠ 0) (h1 : 0 ≤ most) (h2 : most ≤ 9223372036854775807) (hN : (limbs N).length ≤ 300 ∧ N ≤ most.natAbs) (hp : 0 < n) (hn' : n ≤ 100) : Calls Tryz.prog 14 #[.slice A n c, .slice B m d, .int .i64 most] w (GotIp w l 0) := by
  have t0 : decide (most < 0) = false := decide_eq_false (by omega)
  have t1 : (most == 0) = false := beq_eq_false_iff_ne.2 (by omega)
  have CO := fun W : World => rzof_N W most (by unfold I64; omega)
  have CN := fun {W : World} {B' : Option Addr} {m' d' : Nat} (h : Num W B m d N) (h' : Num W B' m' d' most.natAbs) => rcmp_N h h' (by omega) (Nat.le_trans (len_one (show most.natAbs < B64 by unfold B64; omega)) (by omega))
  have hcm : cmpN N most.natAbs ≤ 0 := by unfold cmpN; split <;> (try split) <;> omega
  obtain ⟨q, hq⟩ : ∃ q, cmpN N most.natAbs = q := ⟨_, rfl⟩
  rw [hq] at CN hcm
  have t2 : decide (q ≤ 0) = true := decide_eq_true hcm
  clear hcm hq
  obtain ⟨i0, hi, hz0, hz1, hz2⟩ := info_parts infoI
  have HAV := Lib.hid hA
  have HBV := Lib.hid hB
  have H64 := Lib.hid (show most.natAbs < B64 by unfold B64; omega)
  have hn1 : n ≤ 100 := hn'
  clear hA hB h h1 h2 hN hn'
  have cc := Below.refl w.heap.size w
  go_enter Tryz.func14, Tryz.ntmps14
  go_wp2_with fail
  refine (CO _).mono ?_
  rintro e w1 ⟨bz, Az, nz, cz, rfl, hz, b⟩
  have hA := HAV.out.on b
  have hB := HBV.out.on b
  replace cc := bK cc b
  clear b
  have hz1_ := hz.1
  clear hz
  go_wp2_with fail
  refine (CN hB hz1_).mono ?_
  rintro e w2 ⟨rfl, b⟩
  replace hA := hA.on b
  replace cc := bK cc b
  clear b
  clear hz1_
  have b0 : Below w2.heap.size w2 (w2.alloc (.cells #[] 2)) := (Below.refl _ _).alloc (Nat.le_refl _) _
  have hE : (w2.alloc (.cells #[] 2)).ownsRow w2.heap.size 2 1 (.slice (some ⟨w2.heap.size, 0, none⟩) 0 0) 0 ([] : List Value) := World.ownsRow_lit w2 #[] 0 (Nat.le_refl _) (by unfold maxLen; omega) rfl
  have HE := Lib.hid hE
  have HB0 := Lib.hid b0
  obtain ⟨bb, off, rfl, hb0⟩ := ir_some16 hA hp
  have HL : Hid ((l.map encI).length = n * 1) := Lib.hid (by rw [List.length_map, ← hA.1]; omega)
  have HNW := Lib.hid (ir_news hA b0)
  clear hE b0 hb0
  go_wp2_with (at_builtin; refine wpList_append_lies _ rfl _ _ 28 rfl w2.heap.size 2 i0 (.int .i64 0) 1 8 Tryz.underlying28 hi hz0 hz1 hz2 rfl (by decide) _ 0 [] rfl HE.out ⟨bb, off, none⟩ n c (l.map encI) rfl HL.out HNW.out (fun u hu => by obtain ⟨x, _, rfl⟩ := List.mem_map.1 hu; rfl) (by omega) (by unfold maxLen; omega) (by omega) (by first | omega | (simp <;> omega)) _ rfl ?_; intro g1 cap1 w4 hown1 hgrow1 hat1 hlt1)
  have b1 : Below w2.heap.size w2 w4 := HB0.out.grown hgrow1 (by simp) (fun q e => by injection (show some w2.heap.size = some q from e) with e1; omega)
  rw [List.nil_append] at hown1
  rw [Nat.zero_add] at hown1
  go_ret2
  exact ⟨_, _, _, by first | rfl | simp, IR.of_own hown1, cc.trans (b1.mono cc.size)⟩

theorem rClip16_cut {w : World} {A B : Option Addr} {n c m d N : Nat} {l : List Int} {most : Int} (hA : IR w A n c l) (hB : Num w B m d N) (h : 0 < most) (h2 : most ≤ 9223372036854775807) (hN : (limbs N).length ≤ 300) (hlt : most.natAbs < N) (hn : n ≤ 100) (hl : ∀ z ∈ l, I64 z) : Calls Tryz.prog 14 #[.slice A n c, .slice B m d, .int .i64 most] w (GotIp w (l.map (clip1 most.natAbs N)) 0) := by
  have t0 : decide (most < 0) = false := decide_eq_false (by omega)
  have t1 : (most == 0) = false := beq_eq_false_iff_ne.2 (by omega)
  have CO := fun (W : World) (z : Int) (h : I64 z) => rzof_N W z h
  have CM := rzof_N w most (by unfold I64; omega)
  have hm1 := len_one (show most.natAbs < B64 by unfold B64; omega)
  obtain ⟨M, eM⟩ : ∃ M, most.natAbs = M := ⟨_, rfl⟩
  rw [eM] at hm1 hlt
  have HZM : Hid (∀ {W : World} {b : Bool} {A' : Option Addr} {n' c' : Nat}, Zn W b A' n' c' most → Num W A' n' c' M) := Lib.hid (fun h => by rw [← eM]; exact h.1)
  rw [eM]
  have CN := fun {W : World} {B' : Option Addr} {m' d' : Nat} (h : Num W B m d N) (h' : Num W B' m' d' M) => rcmp_N h h' (by omega) (Nat.le_trans hm1 (by omega))
  have hcm : ¬ cmpN N M ≤ 0 := by unfold cmpN; rw [if_neg (by omega), if_pos (by omega)]; omega
  obtain ⟨q, hq⟩ : ∃ q, cmpN N M = q := ⟨_, rfl⟩
  rw [hq] at CN hcm
  have t2 : decide (q ≤ 0) = false := decide_eq_false hcm
  obtain ⟨i0, hi, hz0, hz1, hz2⟩ := info_parts infoI
  obtain ⟨G, eG⟩ : ∃ G : Int → Int, clip1 M N = G := ⟨_, rfl⟩
  have HG : Hid (∀ x, I64 x → I64 (G x)) := Lib.hid (fun x hx => by rw [← eG]; exact clip_i64 (by omega) (by omega) hx)
  have HGZ : Hid (∀ {W : World} {A' : Option Addr} {n' c' : Nat} {x : Int}, Num W A' n' c' (x.natAbs * M / N) → ∀ b, b = (decide (x < 0) && decide (0 < n')) → Zn W b A' n' c' (G x)) := Lib.hid (fun h b hb => by rw [← eG]; exact clip_zn h b hb)
  rw [eG]
  have HAV := Lib.hid hA
  have HBV := Lib.hid hB
  have HL := Lib.hid hl
  have HNN := Lib.hid hn
  have HNL := Lib.hid hN
  have HM1 := Lib.hid hm1
  have HN0 := Lib.hid (show N ≠ 0 by omega)
  have CD := fun {W : World} {A' B' : Option Addr} {n' c' m' d' : Nat} {x : Nat} (hx : x < B64) (h : Num W A' n' c' (x * M)) (h' : Num W B' m' d' N) => rdiv_N h h' (Nat.le_trans (limbs_length_mul (len_one hx) hm1) (by omega)) hN (by omega)
  have nl : n ≤ 9223372036854775807 := by omega
  clear hcm hq hA hB hl h h2 hN hlt hn hm1 eM eG
  have cc := Below.refl w.heap.size w
  go_enter Tryz.func14, Tryz.ntmps14
  go_wp2_with fail
  refine CM.mono ?_
  rintro e w1 ⟨bm, Am, nm, cm, rfl, hz, b⟩
  have hB := HBV.out.on b
  have hz1_ := HZM.out hz
  clear hz CM
  replace cc := bK cc b
  clear b
  go_wp2_with fail
  refine (CN hB hz1_).mono ?_
  rintro e w2 ⟨rfl, b⟩
  have HMV := Lib.hid (hz1_.on b)
  replace cc := bK cc b
  clear b
  clear hz1_ hB CN
  obtain ⟨t, ht⟩ : ∃ t, w2.heap.size = t := ⟨_, rfl⟩
  have HT := Lib.hid ht
  have hE : (w2.alloc (.cells #[] 2)).ownsRow t 2 1 (.slice (some ⟨w2.heap.size, 0, none⟩) 0 0) 0 ([] : List Value) := World.ownsRow_lit w2 #[] 0 (by omega) (by unfold maxLen; omega) rfl
  have b0 : Below t w2 (w2.alloc (.cells #[] 2)) := (Below.refl _ _).alloc (by omega) _
  have HG0 : Hid (Grown t w2 (w2.alloc (.cells #[] 2)) (.slice (some ⟨w2.heap.size, 0, none⟩) 0 0) (([] : List Int).map G)) := Lib.hid ⟨_, _, _, rfl, hE, b0, by simp; omega⟩
  have HCC := Lib.hid cc
  clear hE b0 cc ht
  go_wp2_with fail
  go_loopw [9, 10] (fun ov iv wr => ∃ i : Nat, i ≤ n ∧ iv = .int .i64 (i : Int) ∧ Grown t w2 wr ov ((l.take i).map G)) (fun _ iv _ => n - (intOf iv).toNat)
  case atStart => exact ⟨0, by omega, rfl, HG0.out⟩
  case round =>
    obtain ⟨i, hi2, rfl, g, cap, K, rfl, hO, hbl, hts⟩ := hrel
    have hcw := HCC.out.trans (hbl.mono (by have := HCC.out.size; have := HT.out; omega))
    by_cases hlt : i < n
    · have hA := HAV.out.on hcw
      obtain ⟨bb, off, rfl, hbb⟩ := ir_some16 hA (by omega)
      have h1 := ir_cell16 hA hlt
      have hx6 := i64_of_mem HL.out (j := i) (by rw [← hA.1]; exact hlt)
      have hS : (l.take (i + 1)).map G = (l.take i).map G ++ [G (l[i]?.getD 0)] := by
        rw [List.take_add_one, List.getElem?_eq_getElem (by rw [← hA.1]; exact hlt), List.map_append]; rfl
      obtain ⟨x, ex⟩ : ∃ x, l[i]?.getD 0 = x := ⟨_, rfl⟩
      rw [ex] at h1 hx6 hS
      have hg6 := HG.out x hx6
      have HO := Lib.hid hO
      have HS := Lib.hid hS
      have HBL := Lib.hid hbl
      have HX6 := Lib.hid hx6
      have HG6 := Lib.hid hg6
      have HCW := Lib.hid hcw
      have hll : K ≤ 100 := by have e := own_len hO; rw [List.length_map, List.length_take] at e; have := HNN.out; omega
      have k3 : IntKind.i64.wrap ((i : Int) + 1) = ((i + 1 : Nat) : Int) := by rw [IntWalk.i64_in _ (by omega)]; omega
      have jl : (i : Int) < (n : Int) := by omega
      clear hO hS ex hbl hg6 hcw hA
      go_wp2_with fail
      refine (CO _ x HX6.out).mono ?_
      rintro e w3 ⟨bz, Az, nz, cz, rfl, hz, b⟩
      obtain ⟨hO2, hbl2, hts2, hg⟩ := own_after HO.out HBL.out hts b
      have HO2 := Lib.hid hO2
      have HB2 := Lib.hid hbl2
      have HCW2 := Lib.hid (HCW.out.trans (b.mono HCW.out.size))
      clear hO2 hbl2 HO HBL HCW b h1 hts
      go_wp2_with fail
      generalize hv_ : w3.alloc (.cells #[.bool bz, .slice Az nz cz] 42) = v3
      have bA : Below w3.heap.size w3 v3 := by rw [← hv_]; exact below_one _ _
      obtain ⟨zc0, zc1⟩ : Cs2 v3 w3.heap.size (.bool bz) (.slice Az nz cz) := by simp [Cs2, ← hv_, go_sem]
      have zl : w3.heap.size < v3.heap.size := by simp [← hv_]
      have hZ := (hz.on bA).1
      have hbz := hz.2
      clear hz
      clear hv_
      obtain ⟨p, hp_⟩ : ∃ p, w3.heap.size = p := ⟨_, rfl⟩
      rw [hp_] at zc0 zc1 zl ⊢
      have hMM : Num v3 Am nm cm M := HMV.out.on (((HB2.out.mono (show w2.heap.size ≤ t by have := HT.out; omega)).trans (bA.mono (by have := HT.out; have := HB2.out.size; omega))))
      refine (rmul_N hZ hMM (Nat.le_trans (len_one HX6.out.abs) (by omega)) (Nat.le_trans HM1.out (by omega))).mono ?_
      rintro e w4 ⟨Ap, np, cp, rfl, hp, b⟩
      replace bA := bK bA b
      rewrite [cR b zl] at zc0 zc1
      replace zl := lK b zl
      clear b hZ hMM
      go_wp2_with fail
      refine (CD HX6.out.abs hp (HBV.out.on (HCW2.out.trans (bA.mono HCW2.out.size)))).mono ?_
      rintro e w5 ⟨Aq, nq, cq, Ar, nr, cr, rfl, hq, hr, b⟩
      replace bA := bK bA b
      rewrite [cR b zl] at zc0 zc1
      replace zl := lK b zl
      clear b hr hp
      have HQ := Lib.hid hq
      have HBA := Lib.hid bA
      have HBZ := Lib.hid hbz
      clear hq bA hbz
      cases bz
      · go_wp2_with fail
        have hz9 : Zn w5 false Aq nq cq (G x) := HGZ.out HQ.out false (by rw [← HBZ.out, Bool.false_and])
        refine (rzint_yes hz9 HG6.out).mono ?_
        rintro e w6 ⟨rfl, b⟩
        have hB3 := HBA.out.trans (b.mono HBA.out.size)
        obtain ⟨hO3, hbl3, hts3, hg3⟩ := own_after HO2.out HB2.out hts2 hB3
        have HO3 := Lib.hid hO3
        have HB3 := Lib.hid hbl3
        clear hO3 hbl3 hB3 b zc0 zc1 zl
        go_wp2_with (at_builtin; refine wpList_append_lies _ rfl _ _ 28 rfl t 2 i0 (.int .i64 0) 1 8 Tryz.underlying28 hi hz0 hz1 hz2 rfl (by decide) _ _ _ rfl (HO3.out.alloc _) ⟨w6.heap.size, 0, none⟩ 1 1 [.int .i64 (G x)] rfl rfl (cell_one_new _ _ _) (by simp [Value.oneCell']) (by omega) (by unfold maxLen; omega) (by omega) (by simp; omega) _ rfl ?_; intro g1 cap1 w7 hown1 hgrow1 hat hlt1)
        go_roundw
        case rel => exact ⟨i + 1, by omega, by go_num, by rw [HS.out]; exact Grown.push HB3.out hts3 HT.out hg3 hown1 hgrow1⟩
        case measure => simp [intOf] <;> omega
      · go_wp2_with fail
        have hz9 : Zn w5 (decide (0 < nq)) Aq nq cq (G x) := HGZ.out HQ.out _ (by rw [← HBZ.out, Bool.true_and])
        refine (rzint_yes hz9 HG6.out).mono ?_
        rintro e w6 ⟨rfl, b⟩
        have hB3 := HBA.out.trans (b.mono HBA.out.size)
        obtain ⟨hO3, hbl3, hts3, hg3⟩ := own_after HO2.out HB2.out hts2 hB3
        have HO3 := Lib.hid hO3
        have HB3 := Lib.hid hbl3
        clear hO3 hbl3 hB3 b zc0 zc1 zl
        go_wp2_with (at_builtin; refine wpList_append_lies _ rfl _ _ 28 rfl t 2 i0 (.int .i64 0) 1 8 Tryz.underlying28 hi hz0 hz1 hz2 rfl (by decide) _ _ _ rfl (HO3.out.alloc _) ⟨w6.heap.size, 0, none⟩ 1 1 [.int .i64 (G x)] rfl rfl (cell_one_new _ _ _) (by simp [Value.oneCell']) (by omega) (by unfold maxLen; omega) (by omega) (by simp; omega) _ rfl ?_; intro g1 cap1 w7 hown1 hgrow1 hat hlt1)
        go_roundw
        case rel => exact ⟨i + 1, by omega, by go_num, by rw [HS.out]; exact Grown.push HB3.out hts3 HT.out hg3 hown1 hgrow1⟩
        case measure => simp [intOf] <;> omega
    · obtain rfl : i = n := by omega
      rw [List.take_of_length_le (by rw [← HAV.out.1]; omega)] at hO
      have hI := IR.of_own hO
      clear hO
      go_wp2_with fail
      go_ret2
      exact ⟨_, _, _, rfl, hI, hcw⟩

end Go.Proofs.YtpephogadljncaaGreat
