/-
  Several texts in one: Cmp, RCmp, Given, N, Alive, Row, Bare, Halves, Whole, RAdd, RSub, RMul, RShift, RDiv.
-/
import Derived.Test.YtmaolhajeoigpaaGreatA1
import Derived.BigQuiet
import Derived.WalkSmall
import Derived.Deep.QuietTactic
import Derived.OpenShut
import Derived.Laws.Rows
import Derived.Deep.RegionLaw
import Derived.Deep.AppendLies

/-
  The contracts of cmp.Compare at uint64 and of nat.Cmp.
-/
namespace Go.Proofs.YtmaolhajeoigpaaGreat
set_option maxRecDepth 100000
set_option maxHeartbeats 2000000
open Go.RowKit Go.Shelf

attribute [local go_sem] Oper.semAt_some

/-- -1, 0 or 1. -/
def cmpN (a b : Nat) : Int := if a < b then -1 else if b < a then 1 else 0

theorem compare_any (x y : Nat) (w : World) : Calls Tryz.prog 100 #[.int .u64 (x : Int), .int .u64 (y : Int)] w fun e w' => e = .returned (.int .i64 (cmpN x y)) ∧ w = w' := by
  by_cases h1 : x < y
  · have hv : cmpN x y = -1 := by simp [cmpN, h1]
    have HV := Lib.hid hv
    clear hv
    go_enter Tryz.func100, Tryz.ntmps100
    go_wp2
    go_ret
    exact ⟨by rw [HV.out]; rfl, rfl⟩
  · by_cases h2 : y < x
    · have hv : cmpN x y = 1 := by simp [cmpN, h1, h2]
      have HV := Lib.hid hv
      clear hv
      go_enter Tryz.func100, Tryz.ntmps100
      go_wp2
      go_ret
      exact ⟨by rw [HV.out]; rfl, rfl⟩
    · have hv : cmpN x y = 0 := by simp [cmpN, h1, h2]
      have HV := Lib.hid hv
      clear hv
      go_enter Tryz.func100, Tryz.ntmps100
      go_wp2
      go_ret
      exact ⟨by rw [HV.out]; rfl, rfl⟩

def cmpStep (o : Int) (x : Pair) : Int := if x.1.1 = x.1.2 then o else cmpN x.1.1 x.1.2
def cmpF (l : List Pair) : Int := l.foldl cmpStep 0
theorem cmpF_snoc (l : List Pair) (x : Pair) : cmpF (l ++ [x]) = cmpStep (cmpF l) x := by simp [cmpF]
theorem cmpF_same (l : List Pair) {x : Pair} (h : x.1.1 = x.1.2) : cmpF (l ++ [x]) = cmpF l := by rw [cmpF_snoc, cmpStep, if_pos h]
theorem cmpF_other (l : List Pair) {x : Pair} (h : x.1.1 ≠ x.1.2) : cmpF (l ++ [x]) = cmpN x.1.1 x.1.2 := by rw [cmpF_snoc, cmpStep, if_neg h]

theorem cmpN_top {k x y A B : Nat} (hA : A < k) (h : x < y) : A + k * x < B + k * y := by
  have h1 : k * (x + 1) ≤ k * y := Nat.mul_le_mul_left _ h
  rw [Nat.mul_add, Nat.mul_one] at h1
  omega

theorem cmpF_upto {la lb : List Nat} (ha : Dig la) (hb : Dig lb) (k : Nat) : cmpF (upto ha hb k) = cmpN (val (la.take k)) (val (lb.take k)) := by
  induction k with
  | zero => simp [upto_zero, cmpF, val_nil, cmpN]
  | succ k ih =>
    have hA : val (la.take k) < B64 ^ k := Nat.lt_of_lt_of_le (val_lt (ha.take k)) (Nat.pow_le_pow_right B64_pos (List.length_take_le _ _))
    have hB : val (lb.take k) < B64 ^ k := Nat.lt_of_lt_of_le (val_lt (hb.take k)) (Nat.pow_le_pow_right B64_pos (List.length_take_le _ _))
    rw [upto_succ, val_take_succ, val_take_succ]
    by_cases he : la[k]?.getD 0 = lb[k]?.getD 0
    · rw [cmpF_same _ (by simpa [pairAt] using he), ih, he]
      unfold cmpN
      simp
    · rw [cmpF_other _ (by simpa [pairAt] using he)]
      simp only [pairAt]
      generalize la[k]?.getD 0 = x at *
      generalize lb[k]?.getD 0 = y at *
      rcases Nat.lt_or_ge x y with h | h
      · have := cmpN_top (B := val (lb.take k)) hA h
        simp [cmpN, h, this]
      · have h' : y < x := by omega
        have := cmpN_top (B := val (la.take k)) hB h'
        have h2 : ¬ (val (la.take k) + B64 ^ k * x < val (lb.take k) + B64 ^ k * y) := by omega
        have h3 : ¬ x < y := by omega
        simp [cmpN, h3, h', h2, this]

theorem cmpF_all {la lb : List Nat} (ha : Dig la) (hb : Dig lb) : cmpF (upto ha hb (max la.length lb.length)) = cmpN (val la) (val lb) := by
  rw [cmpF_upto, List.take_of_length_le (by omega), List.take_of_length_le (by omega)]

theorem cmp_lists (A B : Option Addr) (n c m d : Nat) (la lb : List Nat) (w : World) (ha : Lim w.heap.size w A n c la) (hb : Lim w.heap.size w B m d lb) (hn : n ≤ 4294967296) (hm : m ≤ 4294967296) :
    Calls Tryz.prog 75 #[.slice A n c, .slice B m d] w fun e w' => e = .returned (.int .i64 (cmpN (val la) (val lb))) ∧ Below w.heap.size w w' := by
  refine (callsIn_wide (n := 10)).1 ?_
  refine callsIn_of_wp_marks Tryz.func75 rfl trivial ?_ rfl
  simp only [Tryz.ntmps75, List.size_toArray, List.length_cons, List.length_nil, Nat.reduceAdd, Nat.reduceSub, Array.replicate_succ, Array.replicate_zero, List.push_toArray, List.append_toArray, List.nil_append, List.cons_append]
  have hnl := Lib.hid ha.1
  have hml := Lib.hid hb.1
  have dga : Dig la := ha.2.2.1
  have dgb : Dig lb := hb.2.2.1
  gi_wp2_with (refine ⟨trivial, ?_⟩; gi_at_call 99; refine (callsIn_wide.2 (pairs_any _ _ _ _ _ _ _ _ rfl rfl _)).mono ?_; rintro e w' ⟨rfl, rfl⟩)
  obtain ⟨s, hs⟩ : ∃ s, w.heap.size = s := ⟨_, rfl⟩
  rw [hs] at ha hb ⊢
  have bO : Boxed (w.alloc (.cells #[.int .i64 0] 3)) s 3 (.int .i64 0) := hs ▸ Boxed.new w 3 (.int .i64 0)
  have bA : Boxed ((w.alloc (.cells #[.int .i64 0] 3)).alloc (.cells #[.slice A n c] 47)) (s + 1) 47 (.slice A n c) := by
    have := Boxed.new (w.alloc (.cells #[.int .i64 0] 3)) 47 (.slice A n c); rw [World.size_alloc, hs] at this; exact this
  have bB : Boxed (((w.alloc (.cells #[.int .i64 0] 3)).alloc (.cells #[.slice A n c] 47)).alloc (.cells #[.slice B m d] 47)) (s + 1 + 1) 47 (.slice B m d) := by
    have := Boxed.new ((w.alloc (.cells #[.int .i64 0] 3)).alloc (.cells #[.slice A n c] 47)) 47 (.slice B m d); rw [World.size_alloc, World.size_alloc, hs] at this; exact this
  have hB0 : Below s w (((w.alloc (.cells #[.int .i64 0] 3)).alloc (.cells #[.slice A n c] 47)).alloc (.cells #[.slice B m d] 47)) := (((Below.refl _ w).alloc (by omega) _).alloc (by simp; omega) _).alloc (by simp; omega) _
  replace bO := (bO.alloc (.cells #[.slice A n c] 47)).alloc (.cells #[.slice B m d] 47)
  replace bA := bA.alloc (.cells #[.slice B m d] 47)
  obtain ⟨W0, hW0⟩ : ∃ W0, (((w.alloc (.cells #[.int .i64 0] 3)).alloc (.cells #[.slice A n c] 47)).alloc (.cells #[.slice B m d] 47)) = W0 := ⟨_, rfl⟩
  have hsz : W0.heap.size = s + 3 := by rw [← hW0]; simp; omega
  rw [hW0] at bO bA bB hB0 ⊢
  clear hW0
  refine wpIn_rangeFunc_ownG rfl (by decide) (gf := 122) (lb := #[.pointer (some ⟨s + 1, 0, none⟩), .pointer (some ⟨s + 1 + 1, 0, none⟩)]) rfl trivial (enters_of Tryz.func122 (by kernel_rfl) rfl)
    (pairs_stops (s + 1) (s + 1 + 1) s A B n c m d la lb dga dgb hn hm W0 (by omega) bA bB (ha.below hB0) (hb.below hB0))
    (fun h k => h.trans k) (keep_b (by omega) (by omega) (by omega)) (Below.refl _ _) (fun _ => rfl)
    (fun pre W => (Boxed W s 3 (.int .i64 (cmpF pre)) ∧ Boxed W (s + 1) 47 (.slice A n c) ∧ Boxed W (s + 1 + 1) 47 (.slice B m d)) ∧ Below s w W)
    (fun _ _ _ => False)
    (OwnFrom.and (OwnFrom.and (Own.from (boxed_own _ _ _) _) (OwnFrom.and (Own.from (boxed_own _ _ _) _) (Own.from (boxed_own _ _ _) _))) (ownFrom_below (by omega) (by omega)))
    (fun _ _ _ _ _ hs _ _ => hs)
    ⟨⟨bO, bA, bB⟩, hB0⟩
    (fun x => { tmps := #[.slice A n c, .slice B m d, undef, undef, .int .i64 0, .pointer (some ⟨s, 0, none⟩), .int .u64 (x.1.1 : Int), .int .u64 (x.1.2 : Int), .slice A n c, .slice B m d, .func (.func 122) #[] #[.pointer (some ⟨s + 1, 0, none⟩), .pointer (some ⟨s + 1 + 1, 0, none⟩)], .int .u64 (x.1.1 : Int), .int .u64 (x.1.2 : Int), undef, undef, undef, undef, undef, undef, undef], defers := [] }) ?assign ?body ?done ?stop
  case assign =>
    intro l x W K hK
    gi_wp2
    exact hK
  case body =>
    rintro l pre x W ⟨⟨hO, hA, hB⟩, hBl⟩ _
    have hc := hO.cell
    have hf := hO.frozen
    by_cases hx : x.1.1 = x.1.2
    · have hxb : ((x.1.1 : Int) != (x.1.2 : Int)) = false := by simp [hx]
      have HX := Lib.hid hx
      clear hx
      gi_wp2
      exact ⟨KeepsFrom.refl _ _, Keep.refl _ _ _ _, ⟨by rw [cmpF_same pre HX.out]; exact hO, hA, hB⟩, hBl⟩
    · have hxb : ((x.1.1 : Int) != (x.1.2 : Int)) = true := by simp; omega
      gi_wp2_with (refine ⟨trivial, ?_⟩; gi_at_call 100; refine (CallsIn.inRound l (callsIn_wide.2 (compare_any _ _ _))).mono ?_; rintro e w' ⟨rfl, rfl⟩)
      have hA' := hA.other (B' := s) (by omega) (.int .i64 (cmpN x.1.1 x.1.2))
      have hB' := hB.other (B' := s) (by omega) (.int .i64 (cmpN x.1.1 x.1.2))
      exact ⟨(KeepsOthers.setCell _ _ _).from _, ⟨(Below.refl s W).setCell (p := ⟨s, 0, none⟩) (Nat.le_refl _) _, hA'.trans hA.symm, hB'.trans hB.symm⟩,
        ⟨by rw [cmpF_other pre hx]; exact hO.set _, hA', hB'⟩, hBl.setCell (p := ⟨s, 0, none⟩) (Nat.le_refl _) _⟩
  case done =>
    rintro D ys W hD rfl ⟨⟨hO, _, _⟩, hBl⟩ hK
    have hc := hO.cell
    gi_wp2
    refine ⟨by simp, .inl ⟨_, _, rfl, run_takeDeferred hK, ?_⟩⟩
    refine ⟨_, results_tmp rfl _ _ _, ?_, by rw [hs]; exact hBl.trans (belowK_b (w := W0) (by omega) W D _ _ hD hK rfl rfl)⟩
    rw [hnl.out, hml.out, cmpF_all]
    rfl
  case stop =>
    rintro D c pre W _ _ h _
    exact h.elim

end Go.Proofs.YtmaolhajeoigpaaGreat

/-
  The contracts of the reference's Cmp and Same.
-/
namespace Go.Proofs.YtmaolhajeoigpaaGreat
set_option maxRecDepth 100000
open Go.RowKit

/-- Digits that are the same above a place: the digit there tells. -/
theorem lt_of_top {la lb : List Nat} (ha : Dig la) {i : Nat} (hs : ∀ j, i < j → la[j]?.getD 0 = lb[j]?.getD 0) (h : la[i]?.getD 0 < lb[i]?.getD 0) : val la < val lb := by
  have key : ∀ k, val (la.take (i + 1 + k)) < val (lb.take (i + 1 + k)) := by
    intro k
    induction k with
    | zero =>
      rw [Nat.add_zero, val_take_succ, val_take_succ]
      exact cmpN_top (Nat.lt_of_lt_of_le (val_lt (ha.take i)) (Nat.pow_le_pow_right B64_pos (List.length_take_le _ _))) h
    | succ k ih =>
      rw [← Nat.add_assoc, val_take_succ, val_take_succ, hs (i + 1 + k) (by omega)]
      omega
  have h1 := key (la.length + lb.length)
  rwa [List.take_of_length_le (by omega), List.take_of_length_le (by omega)] at h1

theorem eq_of_all {la lb : List Nat} (hl : la.length = lb.length) (hs : ∀ j : Nat, la[j]?.getD 0 = lb[j]?.getD 0) : la = lb := by
  apply List.ext_getElem hl
  intro i h1 h2
  have := hs i
  simpa [h1, h2] using this

theorem lt_of_len {x y : Nat} (h : (limbs x).length < (limbs y).length) : x < y := by
  rcases Nat.lt_or_ge x y with h1 | h1
  · exact h1
  · have := limbs_length_mono h1; omega

theorem cmpN_lt {x y : Nat} (h : x < y) : cmpN x y = -1 := by simp [cmpN, h]
theorem cmpN_gt {x y : Nat} (h : y < x) : cmpN x y = 1 := by unfold cmpN; rw [if_neg (by omega), if_pos h]
theorem cmpN_eq (x : Nat) : cmpN x x = 0 := by simp [cmpN]
theorem cmpN_zero {x y : Nat} : cmpN x y = 0 ↔ x = y := by
  unfold cmpN
  split
  · constructor <;> intro h <;> omega
  · split
    · constructor <;> intro h <;> omega
    · constructor <;> intro h <;> omega

def CmpPost (w : World) (x y : Nat) (e : Ending) (w' : World) : Prop := e = .returned (.int .i64 (cmpN x y)) ∧ Below w.heap.size w w'

set_option maxHeartbeats 1000000 in
theorem rcmp_lim (A B : Option Addr) (n c m d x y : Nat) (w : World) (ha : Lim w.heap.size w A n c (limbs x)) (hb : Lim w.heap.size w B m d (limbs y)) (hn : n ≤ 4294967296) (hm : m ≤ 4294967296) :
    Calls Tryz.prog 61 #[.slice A n c, .slice B m d] w (CmpPost w x y) := by
  rcases Nat.lt_trichotomy n m with h | h | h
  · have hv : cmpN x y = -1 := cmpN_lt (lt_of_len (by rw [← ha.1, ← hb.1]; exact h))
    have HV := Lib.hid hv
    have hne : ((n : Int) != (m : Int)) = true := by simp; omega
    clear hv ha hb
    go_enter Tryz.func61, Tryz.ntmps61
    go_wp2
    go_ret
    exact ⟨by rw [HV.out]; rfl, Below.refl _ _⟩
  · subst h
    have hla := Lib.hid ha.1
    have hlb := Lib.hid hb.1
    go_enter Tryz.func61, Tryz.ntmps61
    go_wp2
    go_loopw [5] (fun iv wr => ∃ (k : Nat), iv = .int .i64 ((k : Int) - 1) ∧ k ≤ n ∧ (∀ j, k ≤ j → Hid ((limbs x)[j]?.getD 0 = (limbs y)[j]?.getD 0)) ∧ Below w.heap.size w wr) (fun iv _ => (intOf iv + 1).toNat)
    case atStart => exact ⟨n, rfl, Nat.le_refl _, fun j hj => by rw [List.getElem?_eq_none (by have := hla.out; omega), List.getElem?_eq_none (by have := hlb.out; omega)]; exact Lib.hid rfl, Below.refl _ _⟩
    case round =>
      obtain ⟨k, rfl, hk, hs, hbl⟩ := hrel
      by_cases h0 : k = 0
      · subst h0
        have he : x = y := limbs_inj (eq_of_all (by rw [← hla.out, ← hlb.out]) fun j => (hs j (Nat.zero_le _)).out)
        have HE := Lib.hid he
        clear he
        go_wp2
        go_ret
        exact ⟨by rw [HE.out, cmpN_eq]; rfl, hbl⟩
      · obtain ⟨i, hi⟩ : ∃ i, k = i + 1 := ⟨k - 1, by omega⟩
        subst hi
        obtain ⟨b1, o1, rfl, hb1, hc1⟩ := (ha.below hbl).2.2.2 (by omega)
        obtain ⟨b2, o2, rfl, hb2, hc2⟩ := (hb.below hbl).2.2.2 (by omega)
        have g1 := hc1 i (by omega)
        have g2 := hc2 i (by omega)
        have hsi : ∀ j, i < j → (limbs x)[j]?.getD 0 = (limbs y)[j]?.getD 0 := fun j hj => (hs j hj).out
        have HSI := Lib.hid hsi
        clear hc1 hc2 hsi
        have e1 : ((i + 1 : Nat) : Int) - 1 = (i : Int) := by omega
        rw [e1]
        clear e1
        have hi0 : (0 : Int) ≤ (i : Int) := by omega
        have hin : (i : Int) < (n : Int) := by omega
        rcases Nat.lt_trichotomy ((limbs x)[i]?.getD 0) ((limbs y)[i]?.getD 0) with h1 | h1 | h1
        · have hv := cmpN_lt (lt_of_top (limbs_dig x) HSI.out h1)
          rw [val_limbs, val_limbs] at hv
          have HV := Lib.hid hv
          clear hv
          go_wp2
          go_quiet (fail)
          go_wp2
          go_ret
          exact ⟨by rw [HV.out]; rfl, below_drewN hbl _⟩
        · have n1 : ¬ (limbs x)[i]?.getD 0 < (limbs y)[i]?.getD 0 := by omega
          have n2 : ¬ (limbs y)[i]?.getD 0 < (limbs x)[i]?.getD 0 := by omega
          have HE := Lib.hid h1
          clear h1
          go_wp2
          go_quiet (fail)
          go_wp2
          go_quiet (fail)
          go_wp2
          go_roundw
          case rel => exact ⟨i, by go_num, by omega, fun j hj => by
            rcases Nat.eq_or_lt_of_le hj with e | e
            · subst e; exact Lib.hid HE.out
            · exact Lib.hid (HSI.out j e), below_drewN hbl _⟩
          case measure => simp [intOf]
        · have n1 : ¬ (limbs x)[i]?.getD 0 < (limbs y)[i]?.getD 0 := by omega
          have hv := cmpN_gt (lt_of_top (limbs_dig y) (fun j hj => (HSI.out j hj).symm) h1)
          rw [val_limbs, val_limbs] at hv
          have HV := Lib.hid hv
          clear hv
          go_wp2
          go_quiet (fail)
          go_wp2
          go_quiet (fail)
          go_wp2
          go_ret
          exact ⟨by rw [HV.out]; rfl, below_drewN (below_drewN hbl _) _⟩
  · have hv : cmpN x y = 1 := cmpN_gt (lt_of_len (by rw [← ha.1, ← hb.1]; exact h))
    have HV := Lib.hid hv
    have hne : ((n : Int) != (m : Int)) = true := by simp; omega
    have hnl : ¬ (n < m) := by omega
    clear hv ha hb
    go_enter Tryz.func61, Tryz.ntmps61
    go_wp2
    go_ret
    exact ⟨by rw [HV.out]; rfl, Below.refl _ _⟩

end Go.Proofs.YtmaolhajeoigpaaGreat

/-
  The contract of the law's 'given': are all numbers right, and of few limbs?
-/
namespace Go.Proofs.YtmaolhajeoigpaaGreat
open Go.RowKit

/-- A slice that came in: its address, length, capacity and digits. -/
structure Arg where
  ad : Option Addr
  n : Nat
  c : Nat
  l : List Nat
def Arg.v (a : Arg) : Value := .slice a.ad a.n a.c
def Arg.isIn (a : Arg) (w : World) : Prop := Lim w.heap.size w a.ad a.n a.c a.l ∧ a.n ≤ 9223372036854775807
/-- It is right, and of few limbs. -/
def Arg.ok (a : Arg) : Bool := decide (a.n ≤ 20) && canon a.l

end Go.Proofs.YtmaolhajeoigpaaGreat

/-
  The contracts of package nat in one style, over numbers: each argument is a slice that holds a number's digits; each answer is one.
-/
namespace Go.Proofs.YtmaolhajeoigpaaGreat
set_option maxRecDepth 100000
open Go.RowKit

/-- The slice holds the number's digits. -/
def Num (w : World) (A : Option Addr) (n c x : Nat) : Prop := Lim w.heap.size w A n c (limbs x)
theorem Num.on {w w' : World} {A : Option Addr} {n c x : Nat} (h : Num w A n c x) (hb : Below w.heap.size w w') : Num w' A n c x := (Lim.below h hb).more hb.size
theorem Num.len {w : World} {A : Option Addr} {n c x : Nat} (h : Num w A n c x) : n = (limbs x).length := h.1

/-- Digits are kept where a cell that is none is written. -/
theorem Num.set_other {w : World} {A : Option Addr} {n c x : Nat} {p : Addr} {u v : Value} (h : Num w A n c x) (hp : w.cell? p = some u) (hu : ∀ k i, u ≠ .int k i) : Num (w.setCell p v) A n c x := by
  refine ⟨h.1, h.2.1, h.2.2.1, fun h0 => ?_⟩
  obtain ⟨b, off, e, hb, hc⟩ := h.2.2.2 h0
  refine ⟨b, off, e, by simpa using hb, fun j hj => ?_⟩
  have hne : p ≠ ⟨b, off + j, none⟩ := fun e2 => by
    have h2 := hc j hj
    rw [← e2, hp] at h2
    injection h2 with h3
    exact hu _ _ h3
  rw [World.cell?_setCell_other (h := hne)]
  exact hc j hj

/-- A call has answered a number, in new memory or old, and nothing that was there has changed. -/
def GotN (w : World) (x : Nat) (e : Ending) (w' : World) : Prop := ∃ A n c, e = .returned (.slice A n c) ∧ Num w' A n c x ∧ Below w.heap.size w w'
/-- A call has answered a value that is known, and nothing that was there has changed. -/
def GotV (w : World) (v : Value) (e : Ending) (w' : World) : Prop := e = .returned v ∧ Below w.heap.size w w'
/-- A call has answered a number and a code. -/
def GotP (w : World) (x : Nat) (r : Int) (e : Ending) (w' : World) : Prop := ∃ A n c, e = .returned (.tuple #[.slice A n c, .int .i64 r]) ∧ Num w' A n c x ∧ Below w.heap.size w w'

theorem gotN_of {w w' : World} {x : Nat} {e : Ending} (h : ∃ v, e = .returned v ∧ IsN w' v x ∧ Below w.heap.size w w') : GotN w x e w' := by
  obtain ⟨v, rfl, ⟨A, n, c, rfl, hl⟩, hb⟩ := h
  exact ⟨A, n, c, rfl, hl, hb⟩

section
variable {w : World} {A B : Option Addr} {n c m d x y : Nat}

theorem add_N (ha : Num w A n c x) (hb : Num w B m d y) (hx : (limbs x).length ≤ 2147483648) (hy : (limbs y).length ≤ 2147483648) : Calls Tryz.prog 108 #[.slice A n c, .slice B m d] w (GotN w (x + y)) :=
  (add_lim A B n c m d x y w ha hb (by rw [ha.len]; omega) (by rw [hb.len]; omega)).mono fun _ _ h => gotN_of h
theorem mul_N (ha : Num w A n c x) (hb : Num w B m d y) (hx : (limbs x).length ≤ 2147483648) (hy : (limbs y).length ≤ 2147483648) : Calls Tryz.prog 42 #[.slice A n c, .slice B m d] w (GotN w (x * y)) :=
  (mul_lim A B n c m d _ _ w ha hb (by rw [ha.len]; omega) (by rw [hb.len]; omega)).mono fun _ _ h => by rw [val_limbs, val_limbs] at h; exact gotN_of h
theorem cmp_N (ha : Num w A n c x) (hb : Num w B m d y) (hx : (limbs x).length ≤ 2147483648) (hy : (limbs y).length ≤ 2147483648) : Calls Tryz.prog 75 #[.slice A n c, .slice B m d] w (GotV w (.int .i64 (cmpN x y))) :=
  (cmp_lists A B n c m d _ _ w ha hb (by rw [ha.len]; omega) (by rw [hb.len]; omega)).mono fun _ _ h => by rw [val_limbs, val_limbs] at h; exact h
theorem rcmp_N (ha : Num w A n c x) (hb : Num w B m d y) (hx : (limbs x).length ≤ 2147483648) (hy : (limbs y).length ≤ 2147483648) : Calls Tryz.prog 61 #[.slice A n c, .slice B m d] w (GotV w (.int .i64 (cmpN x y))) :=
  (rcmp_lim A B n c m d x y w ha hb (by rw [ha.len]; omega) (by rw [hb.len]; omega)).mono fun _ _ h => h
theorem bits_N (ha : Num w A n c x) (hx : (limbs x).length ≤ 2147483648) : Calls Tryz.prog 126 #[.slice A n c] w (GotV w (.int .i64 (blen x : Int))) :=
  (bits_any A n c x w ha (by rw [ha.len]; omega)).mono fun _ _ ⟨he, hw⟩ => ⟨he, by rw [← hw]; exact Below.refl _ _⟩
theorem rbits_N (ha : Num w A n c x) (hx : (limbs x).length ≤ 2147483648) : Calls Tryz.prog 57 #[.slice A n c] w (GotV w (.int .i64 (blen x : Int))) :=
  (rbits_any A n c x w ha (by rw [ha.len]; omega)).mono fun _ _ ⟨he, hw⟩ => ⟨he, by rw [← hw]; exact Below.refl _ _⟩
theorem of_N (w : World) (x : Nat) (hx : x < B64) : Calls Tryz.prog 40 #[.int .u64 (x : Int)] w (GotN w x) :=
  (of_any x w hx).mono fun _ _ h => gotN_of h
theorem small_N (ha : Num w A n c x) (hx : x < B64) : Calls Tryz.prog 82 #[.slice A n c] w (GotV w (.tuple #[.int .u64 (x : Int), .bool true])) :=
  (small_any A n c x w ha (by have := (isN_small ha).2 hx; omega) hx).mono fun _ _ ⟨he, hw⟩ => ⟨he, by rw [← hw]; exact Below.refl _ _⟩
end

theorem limbs_B64 : limbs B64 = [0, 1] := by
  rw [limbs_pos (by have := B64_pos; omega), Nat.mod_self, Nat.div_self B64_pos, limbs_one (by omega) B64_gt]
theorem limbs_B64_sq : limbs (B64 * B64) = [0, 0, 1] := by
  rw [limbs_pos (by have := Nat.mul_pos B64_pos B64_pos; omega), Nat.mul_mod_left, Nat.mul_div_cancel _ B64_pos, limbs_B64]
theorem blen_B64 : blen B64 = 65 := blen_eq (k := 64) (by rw [show (2 : Nat) ^ 64 = B64 from rfl]; exact Nat.le_refl _) (by rw [show (2 : Nat) ^ (64 + 1) = B64 * 2 from rfl]; have := B64_pos; omega)

end Go.Proofs.YtmaolhajeoigpaaGreat

/-
  The contract of the law's 'alive': it answers true.
-/
namespace Go.Proofs.YtmaolhajeoigpaaGreat
set_option maxRecDepth 100000
open Go.RowKit

theorem seven_lt : (7 : Nat) < B64 := by unfold B64; omega
theorem of_one (w : World) : Calls Tryz.prog 40 #[.int .u64 1] w (GotN w 1) := of_N w 1 B64_gt
theorem of_seven (w : World) : Calls Tryz.prog 40 #[.int .u64 7] w (GotN w 7) := of_N w 7 seven_lt
theorem small_seven {w : World} {A : Option Addr} {n c : Nat} (ha : Num w A n c 7) : Calls Tryz.prog 82 #[.slice A n c] w (GotV w (.tuple #[.int .u64 7, .bool true])) := small_N (x := 7) ha seven_lt
theorem top_digit (w : World) : Num (w.alloc (.cells #[.int .u64 18446744073709551615] 41)) (some ⟨w.heap.size, 0, none⟩) 1 1 (B64 - 1) := by
  obtain ⟨A, n, c, e, hl⟩ := isN_new (x := B64 - 1) (by have := B64_gt; omega) (by have := B64_gt; omega) w 41
  injection e with e1 e2 e3
  subst e1; subst e2; subst e3
  exact hl
theorem len_small {x k : Nat} (h : x < B64 ^ k) (hk : k ≤ 2147483648) : (limbs x).length ≤ 2147483648 := Nat.le_trans (limbs_length_le h) hk
theorem cmp_seven {w : World} {A B : Option Addr} {n c m d : Nat} (ha : Num w A n c B64) (hb : Num w B m d 7) : Calls Tryz.prog 75 #[.slice A n c, .slice B m d] w (GotV w (.int .i64 1)) := by
  have h := cmp_N ha hb (by rw [limbs_B64]; simp) (len_small (k := 1) (by unfold B64; omega) (by omega))
  rwa [cmpN_gt (by unfold B64; omega)] at h
theorem bits_B64 {w : World} {A : Option Addr} {n c : Nat} (ha : Num w A n c B64) : Calls Tryz.prog 126 #[.slice A n c] w (GotV w (.int .i64 65)) := by
  have h := bits_N ha (by rw [limbs_B64]; simp)
  rwa [blen_B64] at h

end Go.Proofs.YtmaolhajeoigpaaGreat

/-
  A slice of integers that came in, as a list of digits; and what the laws' tests of what is given lead to.
-/
namespace Go.Proofs.YtmaolhajeoigpaaGreat
set_option maxRecDepth 100000
open Go.RowKit

theorem block_lt {w : World} {b o : Nat} {v : Value} (h : w.cell? ⟨b, o, none⟩ = some v) : b < w.heap.size := by
  rcases Nat.lt_or_ge b w.heap.size with h1 | h1
  · exact h1
  · simp [World.cell?, Array.getElem?_eq_none h1] at h

theorem arg_of_row {w : World} {a : Option Addr} {len cap : Nat} {zs : List Int}
    (h : (a = none ∧ len = 0 ∧ cap = 0 ∧ zs = []) ∨ ∃ x, a = some x ∧ len ≤ cap ∧ cap ≤ maxLen ∧ zs.length = cap ∧ (∀ i, i < zs.length → w.cell? (x.add i) = some (.int .u64 (zs.getD i 0))) ∧ ∀ n ∈ zs, (Lit.int .u64 n).wf = true) :
    ∃ l, Lim w.heap.size w a len cap l ∧ len ≤ 9223372036854775807 := by
  rcases h with ⟨rfl, rfl, rfl, rfl⟩ | ⟨x, rfl, hl, hm, hz, hc, hw⟩
  · exact ⟨[], Lim.nil _ _ _ _, by omega⟩
  · refine ⟨(zs.take len).map Int.toNat, ⟨by simp; omega, hl, ?_, fun h0 => ?_⟩, by unfold maxLen at hm; omega⟩
    · intro y hy
      obtain ⟨z, hz1, rfl⟩ := List.mem_map.1 hy
      have := bounds_u64 (hw z (List.mem_of_mem_take hz1))
      unfold B64
      omega
    · obtain ⟨b, off, rfl, hcell⟩ := ints_at hc (by omega)
      refine ⟨b, off, rfl, block_lt (hcell 0 (by omega)), fun j hj => ?_⟩
      rw [hcell j (by omega)]
      have hb := bounds_u64 (hw (zs[j]'(by omega)) (List.getElem_mem _))
      have hj2 : j < zs.length := by omega
      rw [List.getElem?_map, List.getElem?_take_of_lt hj, List.getElem?_eq_getElem hj2]
      simp only [List.getD_eq_getElem?_getD, List.getElem?_eq_getElem hj2, Option.getD_some, Option.map_some]
      rw [Int.toNat_of_nonneg hb.1]

theorem num_zero (w : World) : Num w none 0 0 0 := by
  unfold Num
  rw [limbs_zero]
  exact Lim.nil _ _ _ _

section
variable {w : World} {A B : Option Addr} {n c m d x y : Nat}
theorem cmp_lt_N (ha : Num w A n c x) (hb : Num w B m d y) (hx : (limbs x).length ≤ 2147483648) (hy : (limbs y).length ≤ 2147483648) (h : x < y) : Calls Tryz.prog 75 #[.slice A n c, .slice B m d] w (GotV w (.int .i64 (-1))) := by
  have := cmp_N ha hb hx hy
  rwa [cmpN_lt h] at this
theorem cmp_gt_N (ha : Num w A n c x) (hb : Num w B m d y) (hx : (limbs x).length ≤ 2147483648) (hy : (limbs y).length ≤ 2147483648) (h : y < x) : Calls Tryz.prog 75 #[.slice A n c, .slice B m d] w (GotV w (.int .i64 1)) := by
  have := cmp_N ha hb hx hy
  rwa [cmpN_gt h] at this
theorem cmp_eq_N (ha : Num w A n c x) (hb : Num w B m d y) (hx : (limbs x).length ≤ 2147483648) (hy : (limbs y).length ≤ 2147483648) (h : x = y) : Calls Tryz.prog 75 #[.slice A n c, .slice B m d] w (GotV w (.int .i64 0)) := by
  have := cmp_N ha hb hx hy
  rwa [cmpN_zero.2 h] at this
end

/-- Digits that are right are a number's own. -/
theorem Lim.num {w : World} {A : Option Addr} {n c : Nat} {l : List Nat} (h : Lim w.heap.size w A n c l) (hc : canon l = true) : Num w A n c (val l) := by
  unfold Num
  rw [limbs_val h.2.2.1 hc]
  exact h

theorem ok_parts {a : Arg} (h : a.ok = true) : a.n ≤ 20 ∧ canon a.l = true := by
  unfold Arg.ok at h
  simpa using h

theorem Arg.isIn.on {a : Arg} {w w' : World} (h : a.isIn w) (hb : Below w.heap.size w w') : a.isIn w' := ⟨(h.1.below hb).more hb.size, h.2⟩

end Go.Proofs.YtmaolhajeoigpaaGreat

/-
  The contracts of the reference's Bare and Of.
-/
namespace Go.Proofs.YtmaolhajeoigpaaGreat
set_option maxRecDepth 100000
set_option maxHeartbeats 2000000
open Go.RowKit

theorem isL_of_own {w : World} {base : Nat} {e : TypeId} {v : Value} {n : Nat} {l : List Nat} (h : w.ownsRow base e 1 v n (l.map encD)) (hd : Dig l) : ∃ A c, v = .slice A n c ∧ Lim w.heap.size w A n c l := by
  rcases h.2 with ⟨rfl, rfl⟩ | ⟨g, cap, cur, rfl, _⟩
  · exact ⟨none, 0, rfl, Lim.of_own h hd⟩
  · exact ⟨_, _, rfl, Lim.of_own h hd⟩

/-- A slice lies in new memory: in a block from B on, if it has anything. -/
def Fresh (B : Nat) (A : Option Addr) (n : Nat) : Prop := 0 < n → ∃ b off, A = some ⟨b, off, none⟩ ∧ B ≤ b
theorem Fresh.mono {B B' : Nat} {A : Option Addr} {n : Nat} (h : Fresh B A n) (hB : B' ≤ B) : Fresh B' A n := fun h0 => by
  obtain ⟨b, off, e, hb⟩ := h h0
  exact ⟨b, off, e, Nat.le_trans hB hb⟩
theorem fresh_of_own {w : World} {base : Nat} {e : TypeId} {A : Option Addr} {n c : Nat} {xs : List Value} (h : w.ownsRow base e 1 (.slice A n c) n xs) : Fresh base A n := fun h0 => by
  rcases h.2 with ⟨_, h1⟩ | ⟨g, cap, cur, e1, hb, _⟩
  · omega
  · injection e1 with e2
    exact ⟨g, 0, e2, hb⟩
/-- A call has answered a number in new memory, and nothing that was there has changed. -/
def GotNF (w : World) (x : Nat) (e : Ending) (w' : World) : Prop := ∃ A n c, e = .returned (.slice A n c) ∧ Num w' A n c x ∧ Below w.heap.size w w' ∧ Fresh w.heap.size A n
theorem GotNF.weak {w w' : World} {x : Nat} {e : Ending} (h : GotNF w x e w') : GotN w x e w' := by
  obtain ⟨A, n, c, he, hl, hb, _⟩ := h
  exact ⟨A, n, c, he, hl, hb⟩
/-- Likewise, with a code. -/
def GotPF (w : World) (x : Nat) (r : Int) (e : Ending) (w' : World) : Prop := ∃ A n c, e = .returned (.tuple #[.slice A n c, .int .i64 r]) ∧ Num w' A n c x ∧ Below w.heap.size w w' ∧ Fresh w.heap.size A n
theorem GotPF.weak {w w' : World} {x : Nat} {r : Int} {e : Ending} (h : GotPF w x r e w') : GotP w x r e w' := by
  obtain ⟨A, n, c, he, hl, hb, _⟩ := h
  exact ⟨A, n, c, he, hl, hb⟩

theorem own_empty (w : World) (base : Nat) (h : base ≤ w.heap.size) : (w.alloc (.cells #[] 41)).ownsRow base 41 1 (.slice (some ⟨w.heap.size, 0, none⟩) 0 0) 0 [] :=
  ⟨rfl, .inr ⟨w.heap.size, 0, #[], rfl, h, heap_alloc_new w _, Nat.le_refl _, by unfold maxLen; omega, rfl, rfl⟩⟩

theorem encD_one (l : List Nat) : ∀ u ∈ l.map encD, u.oneCell' = true := fun u hu => by
  obtain ⟨x, _, rfl⟩ := List.mem_map.1 hu
  rfl

theorem bare_F (b off n c : Nat) (l : List Nat) (w : World) (h : Lim w.heap.size w (some ⟨b, off, none⟩) n c l) (hn : n ≤ 4294967296) (hc : ∀ j, j < n → w.cell? ⟨b, off + j, none⟩ = some (.int .u64 ((l[j]?.getD 0 : Nat) : Int))) (hb : 0 < n → b < w.heap.size) :
    Calls Tryz.prog 56 #[.slice (some ⟨b, off, none⟩) n c] w (GotNF w (val l)) := by
  obtain ⟨i0, hi, hz0, hz1, hz2⟩ := info_parts info24
  obtain ⟨hl, hcap, hdg, _⟩ := h
  have HL := Lib.hid hl
  clear hl
  go_enter Tryz.func56, Tryz.ntmps56
  go_wp2
  go_loop [3] (fun v => ∃ k : Nat, k ≤ n ∧ v = .int .i64 (k : Int) ∧ Hid (val (l.take k) = val l)) (fun v => (intOf v).toNat)
  case atStart => exact ⟨n, Nat.le_refl _, rfl, by rw [List.take_of_length_le (by have := HL.out; omega)]; exact Lib.hid rfl⟩
  case round =>
    obtain ⟨k, hk, rfl, hv⟩ := hrel
    by_cases hz : 0 < k ∧ l[k - 1]?.getD 0 = 0
    · obtain ⟨hk0, hz⟩ := hz
      obtain ⟨j, hj⟩ : ∃ j, k = j + 1 := ⟨k - 1, by omega⟩
      subst hj
      rw [Nat.add_sub_cancel] at hz
      have h1 := hc j (by omega)
      have hzb : (((l[j]?.getD 0 : Nat) : Int) == 0) = true := by simp [hz]
      have HZ := Lib.hid hz
      have HC := Lib.hid hc
      clear hz hc
      go_wp2
      go_round
      case rel => exact ⟨j, by omega, by go_num, Lib.hid (val_take_zero HZ.out hv.out)⟩
      case measure => simp [intOf]
    · have hne : 0 < k → l[k - 1]?.getD 0 ≠ 0 := fun h0 h1 => hz ⟨h0, h1⟩
      have ht := take_limbs hdg (by have := HL.out; omega) hv.out hne
      have HT := Lib.hid ht
      have hcells : ∀ (j : Nat) u, ((l.take k).map encD)[j]? = some u → (w.alloc (.cells #[] 41)).cell? ((⟨b, off, none⟩ : Addr).add j) = some u := by
        intro j u hu
        have hj : j < k := by
          have := (List.getElem?_eq_some_iff.1 hu).1
          simp at this; omega
        have hlj : j < l.length := by have := HL.out; omega
        have e1 : ((⟨b, off, none⟩ : Addr).add j) = ⟨b, off + j, none⟩ := by unfold Addr.add; split <;> simp_all
        rw [e1, World.cell?_alloc_lt w _ _ (hb (by omega)), hc j (by omega)]
        rw [List.getElem?_map, List.getElem?_take_of_lt hj, List.getElem?_eq_getElem hlj] at hu
        simp only [List.getElem?_eq_getElem hlj, Option.getD_some]
        exact hu
      have HCE := Lib.hid hcells
      have htest : (k = 0) ∨ (∃ j, k = j + 1 ∧ (((l[j]?.getD 0 : Nat) : Int) == 0) = false ∧ w.cell? ⟨b, off + j, none⟩ = some (.int .u64 ((l[j]?.getD 0 : Nat) : Int))) := by
        rcases Nat.eq_zero_or_pos k with h0 | h0
        · exact .inl h0
        · refine .inr ⟨k - 1, by omega, ?_, hc _ (by omega)⟩
          have := hne h0
          simp; omega
      have hlk : (l.take k).length = k := by rw [List.length_take, Nat.min_eq_left (by have := HL.out; omega)]
      have HLK := Lib.hid hlk
      clear hz hne ht hcells hc hlk
      rcases htest with rfl | ⟨j, rfl, hzb, h1⟩
      · go_wp2_with (at_builtin; go_must (refine wpList_append_own _ rfl _ _ 47 rfl w.heap.size 41 i0 (.int .u64 0) 1 8 Tryz.underlying47 hi hz0 hz1 hz2 rfl (by decide) _ _ _ rfl (own_empty w w.heap.size (Nat.le_refl _)) ⟨b, off, none⟩ (0) _ ((l.take (0)).map encD) rfl (by have := HLK.out; simp only [List.length_map]; omega) HCE.out (encD_one _) (by unfold maxLen; omega) (by omega) (by simp) ?_); intro v' w1 hown1 hgrow1 _)
        go_ret
        rw [List.nil_append] at hown1
        obtain ⟨A', c', rfl, hl'⟩ := isL_of_own hown1 (hdg.take _)
        have hfr := fresh_of_own hown1
        rw [HT.out] at hl'
        exact ⟨_, _, _, rfl, hl', ((Below.refl _ w).alloc (Nat.le_refl _) _).grown hgrow1 (by simp) (fun q e => by injection (show some w.heap.size = some q from e) with e1; omega), hfr⟩
      · go_wp2_with (at_builtin; go_must (refine wpList_append_own _ rfl _ _ 47 rfl w.heap.size 41 i0 (.int .u64 0) 1 8 Tryz.underlying47 hi hz0 hz1 hz2 rfl (by decide) _ _ _ rfl (own_empty w w.heap.size (Nat.le_refl _)) ⟨b, off, none⟩ (j + 1) _ ((l.take (j + 1)).map encD) rfl (by have := HLK.out; simp only [List.length_map]; omega) HCE.out (encD_one _) (by unfold maxLen; omega) (by omega) (by simp) ?_); intro v' w1 hown1 hgrow1 _)
        go_ret
        rw [List.nil_append] at hown1
        obtain ⟨A', c', rfl, hl'⟩ := isL_of_own hown1 (hdg.take _)
        have hfr := fresh_of_own hown1
        rw [HT.out] at hl'
        exact ⟨_, _, _, rfl, hl', ((Below.refl _ w).alloc (Nat.le_refl _) _).grown hgrow1 (by simp) (fun q e => by injection (show some w.heap.size = some q from e) with e1; omega), hfr⟩

theorem bare_any (b off n c : Nat) (l : List Nat) (w : World) (h : Lim w.heap.size w (some ⟨b, off, none⟩) n c l) (hn : n ≤ 4294967296) (hc : ∀ j, j < n → w.cell? ⟨b, off + j, none⟩ = some (.int .u64 ((l[j]?.getD 0 : Nat) : Int))) (hb : 0 < n → b < w.heap.size) :
    Calls Tryz.prog 56 #[.slice (some ⟨b, off, none⟩) n c] w (GotN w (val l)) := (bare_F b off n c l w h hn hc hb).mono fun _ _ h => h.weak

theorem lim_one {x : Nat} (hx : x < B64) (w : World) : Lim (w.alloc (.cells #[.int .u64 (x : Int)] 41)).heap.size (w.alloc (.cells #[.int .u64 (x : Int)] 41)) (some ⟨w.heap.size, 0, none⟩) 1 1 [x] := by
  refine ⟨rfl, Nat.le_refl _, Dig.cons hx Dig.nil, fun _ => ⟨_, _, rfl, by simp, fun j hj => ?_⟩⟩
  obtain rfl : j = 0 := by omega
  exact cell_one_new w _ 41 0 _ rfl

theorem GotN.from {w w1 : World} {x : Nat} {e : Ending} {w' : World} (h : GotN w1 x e w') (hb : Below w.heap.size w w1) : GotN w x e w' := by
  obtain ⟨A, n, c, he, hl, hb'⟩ := h
  exact ⟨A, n, c, he, hl, hb.trans (hb'.mono hb.size)⟩

theorem rof_N (w : World) (x : Nat) (hx : x < B64) : Calls Tryz.prog 29 #[.int .u64 (x : Int)] w (GotN w x) := by
  have hl := lim_one hx w
  have hv : val [x] = x := by simp [val_cons, val_nil]
  have hB := bare_any w.heap.size 0 1 1 [x] _ hl (by omega) (fun j hj => by
    obtain rfl : j = 0 := by omega
    exact cell_one_new w _ 41 0 _ rfl) (fun _ => by simp)
  rw [hv] at hB
  have HB := Lib.hid hB
  clear hB hl hv
  go_enter Tryz.func29, Tryz.ntmps29
  go_wp2_with fail
  refine HB.out.mono ?_
  rintro e w' h
  obtain ⟨A, n, c, rfl, hl, hb⟩ := h.from ((Below.refl _ w).alloc (Nat.le_refl _) _)
  go_wp2_with fail
  go_ret
  exact ⟨A, n, c, rfl, hl, hb⟩

end Go.Proofs.YtmaolhajeoigpaaGreat

/-
  The contracts of the reference's at, halves and whole.
-/
namespace Go.Proofs.YtmaolhajeoigpaaGreat
set_option maxRecDepth 100000
set_option maxHeartbeats 2000000
open Go.RowKit

theorem at_any (B : Nat) (A : Option Addr) (n c k : Nat) (l : List Nat) (w : World) (h : Lim B w A n c l) (hn : n ≤ 9223372036854775807) (hk : k ≤ 9223372036854775807) :
    Calls Tryz.prog 96 #[.slice A n c, .int .i64 k] w fun e w' => e = .returned (.int .u64 ((l[k]?.getD 0 : Nat) : Int)) ∧ w = w' := by
  obtain ⟨hl, hcap, hdg, hc⟩ := h
  by_cases hlt : k < n
  · obtain ⟨b, off, rfl, hb, hcell⟩ := hc (by omega)
    have h1 := hcell k hlt
    clear hcell hc hdg
    have HL := Lib.hid hl
    clear hl
    go_enter Tryz.func96, Tryz.ntmps96
    go_wp2
    go_ret
    exact ⟨rfl, rfl⟩
  · have hz : l[k]?.getD 0 = 0 := by rw [List.getElem?_eq_none (by omega)]; rfl
    have HZ := Lib.hid hz
    clear hc hdg hl hz
    go_enter Tryz.func96, Tryz.ntmps96
    go_wp2
    go_ret
    exact ⟨by rw [HZ.out]; rfl, rfl⟩

theorem tmod_lo (x : Nat) : ((x : Int)).tmod 4294967296 = (loH x : Int) := by
  unfold loH H32
  rw [Int.tmod_eq_emod_of_nonneg (by omega)]
  omega
theorem wrap_hi {x : Nat} (h : x < B64) : IntKind.u64.wrap ((x : Int) / 4294967296) = (hiH x : Int) := by
  rw [IntKind.wrap_u64]
  unfold hiH H32
  unfold B64 at h
  omega

theorem halves_any (A : Option Addr) (n c : Nat) (l : List Nat) (w : World) (h : Lim w.heap.size w A n c l) (hn : n ≤ 2147483648) :
    Calls Tryz.prog 63 #[.slice A n c] w fun e w' => ∃ A' c', e = .returned (.slice A' (2 * n) c') ∧ Lim w'.heap.size w' A' (2 * n) c' (halvesL l) ∧ Below w.heap.size w w' := by
  obtain ⟨i0, hi, hz0, hz1, hz2⟩ := info_parts info24
  have HL := Lib.hid h.1
  go_enter Tryz.func63, Tryz.ntmps63
  go_wp2
  go_loopw [3, 4] (fun ov iv wr => ∃ k : Nat, k ≤ n ∧ iv = .int .i64 (k : Int) ∧ wr.ownsRow w.heap.size 41 1 ov (2 * k) ((halvesL (l.take k)).map encD) ∧ Below w.heap.size w wr) (fun _ iv _ => n - (intOf iv).toNat)
  case atStart => exact ⟨0, Nat.zero_le _, rfl, own_empty w _ (Nat.le_refl _), (Below.refl _ w).alloc (Nat.le_refl _) _⟩
  case round =>
    obtain ⟨k, hk, rfl, hown, hbl⟩ := hrel
    by_cases hlt : k < n
    · obtain ⟨b, off, rfl, hb, hcell⟩ := (h.below hbl).2.2.2 (by omega)
      have h1 := hcell k hlt
      have hdk : l[k]?.getD 0 < B64 := h.2.2.1.get k
      clear hcell
      have HO := Lib.hid hown
      clear hown
      have hk0 : (0 : Int) ≤ (k : Int) := by omega
      have hkn : (k : Int) < (n : Int) := by omega
      go_wp2
      go_region_law ((refine step_append_lies _ rfl _ _ 46 rfl w.heap.size 41 i0 (.int .u64 0) 1 8 Tryz.underlying46 hi hz0 hz1 hz2 rfl (by decide) _ _ _ rfl ((HO.out.alloc _).drew) ⟨wr.heap.size, 0, none⟩ 2 2 [.int .u64 (((l[k]?.getD 0 : Nat) : Int).tmod 4294967296), .int .u64 (IntKind.u64.wrap (((l[k]?.getD 0 : Nat) : Int) / 4294967296))] rfl rfl (fun j u h => cell_two_new wr _ _ 41 j u h) (by simp [Value.oneCell']) (by omega) (by unfold maxLen; omega) (by omega) (by simp; have := hbl.size; omega) _ rfl ?_; intro g cap w1 hown1 hgrow1 hat hlt1))
      all_goals
        go_wp2
        go_roundw
        case rel =>
          refine ⟨k + 1, by omega, by go_num, ?_, ?_⟩
          · have e : halvesL (l.take (k + 1)) = halvesL (l.take k) ++ [loH (l[k]?.getD 0), hiH (l[k]?.getD 0)] := by
              have hkl : k < l.length := by have := HL.out; omega
              rw [List.take_succ_eq_append_getElem hkl, halvesL_snoc]
              simp [hkl]
            rw [e, List.map_append]
            rw [tmod_lo, wrap_hi hdk] at hown1
            exact hown1
          · exact (below_drewN (hbl.alloc hbl.size _) 1).grown hgrow1 (by simp; have := hbl.size; omega) (fun q e => (HO.out.lt q e).1)
        case measure => simp [intOf]; omega
    · obtain rfl : k = n := by omega
      go_wp2
      go_ret
      rw [List.take_of_length_le (by have := HL.out; omega)] at hown
      obtain ⟨A', c', rfl, hl'⟩ := isL_of_own hown (halvesL_dig h.2.2.1).dig
      exact ⟨A', c', rfl, hl', hbl⟩

end Go.Proofs.YtmaolhajeoigpaaGreat

/-
  The contract of the reference's whole: figures of 32 bits as a number.
-/
namespace Go.Proofs.YtmaolhajeoigpaaGreat
set_option maxRecDepth 100000
open Go.RowKit

theorem bare_limF {g off n c : Nat} {l : List Nat} {w : World} (h : Lim w.heap.size w (some ⟨g, off, none⟩) n c l) (hn : n ≤ 4294967296) : Calls Tryz.prog 56 #[.slice (some ⟨g, off, none⟩) n c] w (GotNF w (val l)) := by
  refine bare_F g off n c l w h hn (fun j hj => ?_) (fun h0 => ?_)
  · obtain ⟨b, o, e, _, hc⟩ := h.2.2.2 (by omega)
    injection e with e
    injection e with e1 e2
    subst e1; subst e2
    exact hc j hj
  · obtain ⟨b, o, e, hb, _⟩ := h.2.2.2 h0
    injection e with e
    injection e with e1 e2
    omega

theorem bare_lim {g off n c : Nat} {l : List Nat} {w : World} (h : Lim w.heap.size w (some ⟨g, off, none⟩) n c l) (hn : n ≤ 4294967296) : Calls Tryz.prog 56 #[.slice (some ⟨g, off, none⟩) n c] w (GotN w (val l)) := (bare_limF h hn).mono fun _ _ h => h.weak

theorem wrap_join {a b : Nat} (ha : a < H32) (hb : b < H32) : IntKind.u64.wrap ((a : Int) + IntKind.u64.wrap ((b : Int) * 4294967296)) = (join a b : Int) := by
  have := join_lt ha hb
  simp only [IntKind.wrap_u64]
  unfold join H32 at *
  unfold B64 at this
  omega

set_option maxHeartbeats 2000000 in
theorem whole_F (A : Option Addr) (n c : Nat) (l : List Nat) (w : World) (h : Lim w.heap.size w A n c l) (hd : DigH l) (hn : n ≤ 4294967296) :
    Calls Tryz.prog 64 #[.slice A n c] w (GotNF w (valH l)) := by
  obtain ⟨i0, hi, hz0, hz1, hz2⟩ := info_parts info24
  have HL := Lib.hid h.1
  go_enter Tryz.func64, Tryz.ntmps64
  go_wp2
  go_loopw [3, 4] (fun ov iv wr => ∃ k g cap : Nat, 2 * k ≤ n + 1 ∧ iv = .int .i64 ((2 * k : Nat) : Int) ∧ ov = .slice (some ⟨g, 0, none⟩) k cap ∧ wr.ownsRow w.heap.size 41 1 (.slice (some ⟨g, 0, none⟩) k cap) k ((joinL l k).map encD) ∧ Below w.heap.size w wr) (fun _ iv _ => n - (intOf iv).toNat)
  case atStart => exact ⟨0, w.heap.size, 0, by omega, rfl, rfl, own_empty w _ (Nat.le_refl _), (Below.refl _ w).alloc (Nat.le_refl _) _⟩
  case round =>
    obtain ⟨k, g, cap, hk, rfl, rfl, hown, hbl⟩ := hrel
    by_cases hlt : 2 * k < n
    · obtain ⟨b, off, rfl, hb, hcell⟩ := (h.below hbl).2.2.2 (by omega)
      have h1 := hcell (2 * k) hlt
      have hda : l[2 * k]?.getD 0 < H32 := hd.get _
      have hdb : l[2 * k + 1]?.getD 0 < H32 := hd.get _
      have hgl := hown.lt g rfl
      have HO := Lib.hid hown
      clear hown
      by_cases hlt2 : 2 * k + 1 < n
      · have h2 := hcell (2 * k + 1) hlt2
        clear hcell
        go_wp2_with (at_builtin; refine wpList_append_lies _ rfl _ _ 47 rfl w.heap.size 41 i0 (.int .u64 0) 1 8 Tryz.underlying47 hi hz0 hz1 hz2 rfl (by decide) _ _ _ rfl (HO.out.alloc _) ⟨wr.heap.size, 0, none⟩ 1 1 [.int .u64 (IntKind.u64.wrap (((l[2 * k]?.getD 0 : Nat) : Int) + IntKind.u64.wrap (((l[2 * k + 1]?.getD 0 : Nat) : Int) * 4294967296)))] rfl rfl (cell_one_new _ _ _) (by simp [Value.oneCell']) (by omega) (by unfold maxLen; omega) (by omega) (by simp; have := hbl.size; omega) _ rfl ?_; intro g1 cap1 w1 hown1 hgrow1 hat hlt1)
        go_roundw
        case rel =>
          refine ⟨k + 1, g1, cap1, by omega, by go_num, rfl, ?_, ?_⟩
          · rw [joinL_succ, List.map_append]
            rw [wrap_join hda hdb] at hown1
            exact hown1
          · exact (hbl.alloc hbl.size _).grown hgrow1 (by simp; have := hbl.size; omega) (fun q e => by injection (show some g = some q from e) with e1; omega)
        case measure => simp [intOf]; omega
      · clear hcell
        have hz1' : l[2 * k + 1]?.getD 0 = 0 := by rw [List.getElem?_eq_none (by have := HL.out; omega)]; rfl
        have HZ := Lib.hid hz1'
        clear hz1'
        go_wp2_with (at_builtin; refine wpList_append_lies _ rfl _ _ 47 rfl w.heap.size 41 i0 (.int .u64 0) 1 8 Tryz.underlying47 hi hz0 hz1 hz2 rfl (by decide) _ _ _ rfl (HO.out.alloc _) ⟨wr.heap.size, 0, none⟩ 1 1 [.int .u64 ((l[2 * k]?.getD 0 : Nat) : Int)] rfl rfl (cell_one_new _ _ _) (by simp [Value.oneCell']) (by omega) (by unfold maxLen; omega) (by omega) (by simp; have := hbl.size; omega) _ rfl ?_; intro g1 cap1 w1 hown1 hgrow1 hat hlt1)
        go_roundw
        case rel =>
          refine ⟨k + 1, g1, cap1, by omega, by go_num, rfl, ?_, ?_⟩
          · rw [joinL_succ, List.map_append]
            rw [show join (l[2 * k]?.getD 0) (l[2 * k + 1]?.getD 0) = l[2 * k]?.getD 0 from by rw [HZ.out]; simp [join]]
            exact hown1
          · exact (hbl.alloc hbl.size _).grown hgrow1 (by simp; have := hbl.size; omega) (fun q e => by injection (show some g = some q from e) with e1; omega)
        case measure => simp [intOf]; omega
    · have hlim := Lim.of_own hown (joinL_dig hd k)
      have hv : val (joinL l k) = valH l := by rw [joinL_val, List.take_of_length_le (by have := HL.out; omega)]
      have HV := Lib.hid hv
      clear hv hown
      go_wp2_with fail
      refine (bare_limF hlim (by omega)).mono ?_
      rintro e w1 ⟨A1, n1, c1, rfl, hl1, b1, f1⟩
      go_wp2_with fail
      go_ret
      rw [HV.out] at hl1
      exact ⟨A1, n1, c1, rfl, hl1, hbl.trans (b1.mono hbl.size), f1.mono hbl.size⟩

theorem whole_any (A : Option Addr) (n c : Nat) (l : List Nat) (w : World) (h : Lim w.heap.size w A n c l) (hd : DigH l) (hn : n ≤ 4294967296) :
    Calls Tryz.prog 64 #[.slice A n c] w (GotN w (valH l)) := (whole_F A n c l w h hd hn).mono fun _ _ h => h.weak

end Go.Proofs.YtmaolhajeoigpaaGreat

/-
  The contract of the reference's Add.
-/
namespace Go.Proofs.YtmaolhajeoigpaaGreat
set_option maxRecDepth 100000
open Go.RowKit

attribute [local go_sem ↓] mx_run

/-- A call has answered a slice of figures, and nothing that was there has changed. -/
def GotF (w : World) (l : List Nat) (e : Ending) (w' : World) : Prop := ∃ A n c, e = .returned (.slice A n c) ∧ Lim w'.heap.size w' A n c l ∧ Below w.heap.size w w'
theorem halves_F {w : World} {A : Option Addr} {n c x : Nat} (h : Num w A n c x) (hx : (limbs x).length ≤ 2147483648) : Calls Tryz.prog 63 #[.slice A n c] w (GotF w (halvesL (limbs x))) :=
  (halves_any A n c _ w h (by rw [h.len]; exact hx)).mono fun _ _ ⟨A', c', he, hl, hb⟩ => ⟨A', _, c', he, hl, hb⟩
theorem Lim.on {w w' : World} {A : Option Addr} {n c : Nat} {l : List Nat} (h : Lim w.heap.size w A n c l) (hb : Below w.heap.size w w') : Lim w'.heap.size w' A n c l := (h.below hb).more hb.size

theorem radd_lo (a b c : Nat) : (IntKind.u64.wrap (IntKind.u64.wrap ((a : Int) + (b : Int)) + (c : Int))).tmod 4294967296 = (loH (a + b + c) : Int) := by
  simp only [IntKind.wrap_u64]
  rw [Int.tmod_eq_emod_of_nonneg (by omega)]
  unfold loH H32
  omega
theorem radd_hi {a b c : Nat} (ha : a < H32) (hb : b < H32) (hc : c ≤ 1) : IntKind.u64.wrap ((IntKind.u64.wrap (IntKind.u64.wrap ((a : Int) + (b : Int)) + (c : Int))).tdiv 4294967296) = (hiH (a + b + c) : Int) := by
  simp only [IntKind.wrap_u64]
  rw [Int.tdiv_eq_ediv_of_nonneg (by omega)]
  unfold hiH
  unfold H32 at *
  omega

/-- What has been reckoned when k figures are done: the figures D and the carry c. -/
def AddAt (la lb D : List Nat) (k c : Nat) : Prop := DigH D ∧ D.length = k ∧ c ≤ 1 ∧ valH D + H32 ^ k * c = valH (la.take k) + valH (lb.take k)
theorem AddAt.start (la lb : List Nat) : AddAt la lb [] 0 0 := ⟨DigH.nil, rfl, by omega, by simp [valH_nil]⟩
theorem AddAt.step {la lb D : List Nat} {k c : Nat} (ha : DigH la) (hb : DigH lb) (h : AddAt la lb D k c) :
    AddAt la lb (D ++ [loH (la[k]?.getD 0 + lb[k]?.getD 0 + c)]) (k + 1) (hiH (la[k]?.getD 0 + lb[k]?.getD 0 + c)) := by
  obtain ⟨h1, h2, h3, h4⟩ := h
  refine ⟨h1.snoc (loH_lt _), by simp [h2], div_le_one (ha.get k) (hb.get k) h3, ?_⟩
  rw [valH_snoc, h2, valH_take_succ, valH_take_succ, Nat.pow_succ, Nat.mul_assoc]
  have hs := half_split (la[k]?.getD 0 + lb[k]?.getD 0 + c)
  generalize loH (la[k]?.getD 0 + lb[k]?.getD 0 + c) = lo at *
  generalize hiH (la[k]?.getD 0 + lb[k]?.getD 0 + c) = hi at *
  have h5 : H32 ^ k * lo + H32 ^ k * (H32 * hi) = H32 ^ k * la[k]?.getD 0 + H32 ^ k * lb[k]?.getD 0 + H32 ^ k * c := by
    rw [← Nat.mul_add, hs, Nat.mul_add, Nat.mul_add]
  omega
theorem AddAt.done {la lb D : List Nat} {c N : Nat} (ha : DigH la) (hb : DigH lb) (hN : max la.length lb.length ≤ N) (h : AddAt la lb D (N + 1) c) : valH D = valH la + valH lb := by
  obtain ⟨h1, h2, h3, h4⟩ := h
  rw [List.take_of_length_le (by omega), List.take_of_length_le (by omega)] at h4
  have h5 := Nat.lt_of_lt_of_le (valH_lt ha) (Nat.pow_le_pow_right (n := H32) H32_pos (show la.length ≤ N by omega))
  have h6 := Nat.lt_of_lt_of_le (valH_lt hb) (Nat.pow_le_pow_right (n := H32) H32_pos (show lb.length ≤ N by omega))
  have hc : c = 0 ∨ c = 1 := by omega
  have hg : 2 ≤ H32 := by have := H32_gt; omega
  rw [Nat.pow_succ] at h4
  generalize H32 ^ N = P at *
  generalize H32 = Q at *
  have h8 : P * 2 ≤ P * Q := Nat.mul_le_mul_left _ hg
  rcases hc with rfl | rfl
  · rw [Nat.mul_zero, Nat.add_zero] at h4; exact h4
  · rw [Nat.mul_one] at h4; omega

set_option maxHeartbeats 4000000 in
theorem radd_F {w : World} {A B : Option Addr} {n c m d x y : Nat} (ha : Num w A n c x) (hb : Num w B m d y) (hx : (limbs x).length ≤ 1000000) (hy : (limbs y).length ≤ 1000000) : Calls Tryz.prog 59 #[.slice A n c, .slice B m d] w (GotNF w (x + y)) := by
  obtain ⟨i0, hi, hz0, hz1, hz2⟩ := info_parts info24
  go_enter Tryz.func59, Tryz.ntmps59
  go_wp2_with fail
  refine (halves_F ha (by omega)).mono ?_
  rintro e w1 ⟨A1, n1, c1, rfl, h1, b1⟩
  go_wp2_with fail
  refine (halves_F (hb.on b1) (by omega)).mono ?_
  rintro e w2 ⟨A2, n2, c2, rfl, h2, b2⟩
  replace h1 := h1.on b2
  have cc := b1.trans (b2.mono b1.size)
  clear b1 b2 ha hb
  have hv1 : valH (halvesL (limbs x)) = x := by rw [halvesL_val, val_limbs]
  have hv2 : valH (halvesL (limbs y)) = y := by rw [halvesL_val, val_limbs]
  have hd1 := halvesL_dig (limbs_dig x)
  have hd2 := halvesL_dig (limbs_dig y)
  have hn1 : n1 ≤ 2000000 := by have := h1.1; rw [halvesL_length] at this; omega
  have hn2 : n2 ≤ 2000000 := by have := h2.1; rw [halvesL_length] at this; omega
  have hE : valH (halvesL (limbs x)) + valH (halvesL (limbs y)) = x + y := by rw [hv1, hv2]
  have HE := Lib.hid hE
  clear hv1 hv2 hx hy hE
  generalize halvesL (limbs x) = la at *
  generalize halvesL (limbs y) = lb at *
  have hmx : mx n1 n2 ≤ 2000000 := by unfold mx; omega
  have hmm : max la.length lb.length ≤ mx n1 n2 := by have := h1.1; have := h2.1; unfold mx; omega
  have HM := Lib.hid hmm
  clear hmm
  go_wp2_with fail
  go_loopw [7, 8, 9] (fun ov cv iv wr => ∃ (k : Nat) (v : Nat) (D : List Nat) (g cap : Nat), k ≤ mx n1 n2 + 1 ∧ iv = .int .i64 (k : Int) ∧ cv = .int .u64 (v : Int) ∧ ov = .slice (some ⟨g, 0, none⟩) k cap ∧ AddAt la lb D k v ∧ wr.ownsRow w2.heap.size 41 1 (.slice (some ⟨g, 0, none⟩) k cap) k (D.map encD) ∧ Below w2.heap.size w2 wr) (fun _ _ iv _ => mx n1 n2 + 1 - (intOf iv).toNat)
  case atStart => exact ⟨0, 0, [], w2.heap.size, 0, by omega, rfl, rfl, rfl, AddAt.start _ _, own_empty w2 _ (Nat.le_refl _), (Below.refl _ w2).alloc (Nat.le_refl _) _⟩
  case round =>
    obtain ⟨k, v, D, g, cap, hk, rfl, rfl, rfl, hA, hown, hbl⟩ := hrel
    by_cases hlt : k < mx n1 n2 + 1
    · have hp := hd1.get k
      have hq := hd2.get k
      have hv1 : v ≤ 1 := hA.2.2.1
      have hgl := hown.lt g rfl
      have HA := Lib.hid hA
      have HO := Lib.hid hown
      clear hA hown
      go_wp2_with fail
      refine (at_any _ _ _ _ _ _ _ (h1.on hbl) (by omega) (by omega)).mono ?_
      rintro e w3 ⟨rfl, rfl⟩
      go_wp2_with fail
      refine (at_any _ _ _ _ _ _ _ (h2.on hbl) (by omega) (by omega)).mono ?_
      rintro e w3 ⟨rfl, rfl⟩
      go_wp2_with (at_builtin; refine wpList_append_lies _ rfl _ _ 46 rfl w2.heap.size 41 i0 (.int .u64 0) 1 8 Tryz.underlying46 hi hz0 hz1 hz2 rfl (by decide) _ _ _ rfl (HO.out.alloc _) ⟨wr.heap.size, 0, none⟩ 1 1 [.int .u64 ((IntKind.u64.wrap (IntKind.u64.wrap (((la[k]?.getD 0 : Nat) : Int) + ((lb[k]?.getD 0 : Nat) : Int)) + (v : Int))).tmod 4294967296)] rfl rfl (cell_one_new _ _ _) (by simp [Value.oneCell']) (by omega) (by unfold maxLen; omega) (by omega) (by simp; have := hbl.size; omega) _ rfl ?_; intro g1 cap1 w4 hown1 hgrow1 hat hlt1)
      go_roundw
      case rel =>
        refine ⟨k + 1, hiH (la[k]?.getD 0 + lb[k]?.getD 0 + v), _, g1, cap1, by omega, by go_num, by rw [radd_hi hp hq hv1], rfl, HA.out.step hd1 hd2, ?_, ?_⟩
        · rw [radd_lo] at hown1
          rw [List.map_append]
          exact hown1
        · exact (hbl.alloc hbl.size _).grown hgrow1 (by simp; have := hbl.size; omega) (fun q e => by injection (show some g = some q from e) with e1; omega)
      case measure => simp [intOf]; omega
    · obtain rfl : k = mx n1 n2 + 1 := by omega
      have hlim := Lim.of_own hown hA.1.dig
      have hD := hA.1
      have hval := hA.done hd1 hd2 HM.out
      rw [HE.out] at hval
      have HV := Lib.hid hval
      clear hval hA hown
      go_wp2_with fail
      refine (whole_F _ _ _ _ _ hlim hD (by omega)).mono ?_
      rintro e w3 ⟨A3, n3, c3, rfl, h3, b3, f3⟩
      go_wp2_with fail
      go_ret
      rw [HV.out] at h3
      exact ⟨A3, n3, c3, rfl, h3, cc.trans ((hbl.trans (b3.mono hbl.size)).mono cc.size), f3.mono (Nat.le_trans cc.size hbl.size)⟩

theorem radd_N {w : World} {A B : Option Addr} {n c m d x y : Nat} (ha : Num w A n c x) (hb : Num w B m d y) (hx : (limbs x).length ≤ 1000000) (hy : (limbs y).length ≤ 1000000) : Calls Tryz.prog 59 #[.slice A n c, .slice B m d] w (GotN w (x + y)) := (radd_F ha hb hx hy).mono fun _ _ h => h.weak

end Go.Proofs.YtmaolhajeoigpaaGreat

/-
  The contract of the reference's Sub.
-/
namespace Go.Proofs.YtmaolhajeoigpaaGreat
set_option maxRecDepth 100000
set_option maxHeartbeats 4000000
open Go.RowKit

/-- A figure of a difference, and the borrow. -/
def dLo (a b c : Nat) : Nat := (H32 + a - b - c) % H32
def dHi (a b c : Nat) : Nat := 1 - (H32 + a - b - c) / H32
theorem dLo_lt (a b c : Nat) : dLo a b c < H32 := Nat.mod_lt _ H32_pos
theorem dHi_le (a b c : Nat) : dHi a b c ≤ 1 := Nat.sub_le _ _
theorem d_split {a b c : Nat} (ha : a < H32) (hb : b < H32) (hc : c ≤ 1) : dLo a b c + b + c = a + H32 * dHi a b c := by
  unfold dLo dHi
  unfold H32 at *
  omega
theorem rsub_lo {a b c : Nat} (hb : b < H32) (hc : c ≤ 1) : (IntKind.u64.wrap (IntKind.u64.wrap (IntKind.u64.wrap (4294967296 + (a : Int)) - (b : Int)) - (c : Int))).tmod 4294967296 = (dLo a b c : Int) := by
  simp only [IntKind.wrap_u64]
  rw [Int.tmod_eq_emod_of_nonneg (by omega)]
  unfold dLo
  unfold H32 at *
  omega
theorem rsub_hi {a b c : Nat} (ha : a < H32) (hb : b < H32) (hc : c ≤ 1) : IntKind.u64.wrap (1 - IntKind.u64.wrap ((IntKind.u64.wrap (IntKind.u64.wrap (IntKind.u64.wrap (4294967296 + (a : Int)) - (b : Int)) - (c : Int))).tdiv 4294967296)) = (dHi a b c : Int) := by
  simp only [IntKind.wrap_u64]
  rw [Int.tdiv_eq_ediv_of_nonneg (by omega)]
  unfold dHi
  unfold H32 at *
  omega

def SubAt (la lb D : List Nat) (k c : Nat) : Prop := DigH D ∧ D.length = k ∧ c ≤ 1 ∧ valH D + valH (lb.take k) = valH (la.take k) + H32 ^ k * c
theorem SubAt.start (la lb : List Nat) : SubAt la lb [] 0 0 := ⟨DigH.nil, rfl, by omega, by simp [valH_nil]⟩
theorem SubAt.step {la lb D : List Nat} {k c : Nat} (ha : DigH la) (hb : DigH lb) (h : SubAt la lb D k c) :
    SubAt la lb (D ++ [dLo (la[k]?.getD 0) (lb[k]?.getD 0) c]) (k + 1) (dHi (la[k]?.getD 0) (lb[k]?.getD 0) c) := by
  obtain ⟨h1, h2, h3, h4⟩ := h
  refine ⟨h1.snoc (dLo_lt _ _ _), by simp [h2], dHi_le _ _ _, ?_⟩
  rw [valH_snoc, h2, valH_take_succ, valH_take_succ, Nat.pow_succ, Nat.mul_assoc]
  have hs := d_split (ha.get k) (hb.get k) h3
  generalize dLo (la[k]?.getD 0) (lb[k]?.getD 0) c = lo at *
  generalize dHi (la[k]?.getD 0) (lb[k]?.getD 0) c = hi at *
  have h5 : H32 ^ k * lo + H32 ^ k * lb[k]?.getD 0 + H32 ^ k * c = H32 ^ k * la[k]?.getD 0 + H32 ^ k * (H32 * hi) := by
    rw [← Nat.mul_add, ← Nat.mul_add, hs, Nat.mul_add]
  omega
theorem SubAt.done {la lb D : List Nat} {c : Nat} (hl : lb.length ≤ la.length) (hle : valH lb ≤ valH la) (h : SubAt la lb D la.length c) : valH D = valH la - valH lb := by
  obtain ⟨h1, h2, h3, h4⟩ := h
  rw [List.take_of_length_le (by omega), List.take_of_length_le (by omega)] at h4
  have h5 := valH_lt h1
  rw [h2] at h5
  generalize H32 ^ la.length = P at *
  rcases (by omega : c = 0 ∨ c = 1) with rfl | rfl
  · rw [Nat.mul_zero, Nat.add_zero] at h4; omega
  · rw [Nat.mul_one] at h4; omega

theorem at_same (B : Nat) (A : Option Addr) (n c k : Nat) (l : List Nat) (w : World) (h : Lim B w A n c l) (hn : n ≤ 9223372036854775807) (hk : k ≤ 9223372036854775807) :
    Calls Tryz.prog 96 #[.slice A n c, .int .i64 k] w fun e w' => e = .returned (.int .u64 ((l[k]?.getD 0 : Nat) : Int)) ∧ w' = w :=
  (at_any B A n c k l w h hn hk).mono fun _ _ ⟨he, hw⟩ => ⟨he, hw.symm⟩

theorem rsub_F {w : World} {A B : Option Addr} {n c m d x y : Nat} (ha : Num w A n c x) (hb : Num w B m d y) (hx : (limbs x).length ≤ 1000000) (hy : (limbs y).length ≤ 1000000) (hle : y ≤ x) : Calls Tryz.prog 62 #[.slice A n c, .slice B m d] w (GotPF w (x - y) 0) := by
  obtain ⟨i0, hi, hz0, hz1, hz2⟩ := info_parts info24
  have hcm : ¬ cmpN x y < 0 := by
    rcases Nat.lt_or_ge y x with h | h
    · rw [cmpN_gt h]; omega
    · rw [cmpN_zero.2 (by omega)]; omega
  have hll : (halvesL (limbs y)).length ≤ (halvesL (limbs x)).length := by rw [halvesL_length, halvesL_length]; have := limbs_length_mono hle; omega
  go_enter Tryz.func62, Tryz.ntmps62
  go_wp2_with fail
  refine (rcmp_N ha hb (by omega) (by omega)).mono ?_
  rintro e w0 ⟨rfl, b0⟩
  replace ha := ha.on b0
  replace hb := hb.on b0
  go_wp2_with fail
  refine (halves_F ha (by omega)).mono ?_
  rintro e w1 ⟨A1, n1, c1, rfl, h1, b1⟩
  go_wp2_with fail
  refine (halves_F (hb.on b1) (by omega)).mono ?_
  rintro e w2 ⟨A2, n2, c2, rfl, h2, b2⟩
  replace h1 := h1.on b2
  have cc := b0.trans ((b1.trans (b2.mono b1.size)).mono b0.size)
  clear b0 b1 b2 ha hb
  have hv1 : valH (halvesL (limbs x)) = x := by rw [halvesL_val, val_limbs]
  have hv2 : valH (halvesL (limbs y)) = y := by rw [halvesL_val, val_limbs]
  have hd1 := halvesL_dig (limbs_dig x)
  have hd2 := halvesL_dig (limbs_dig y)
  have hn1 : n1 ≤ 2000000 := by have := h1.1; rw [halvesL_length] at this; omega
  have hn2 : n2 ≤ 2000000 := by have := h2.1; rw [halvesL_length] at this; omega
  have hle' : valH (halvesL (limbs y)) ≤ valH (halvesL (limbs x)) := by rw [hv1, hv2]; exact hle
  have hE : valH (halvesL (limbs x)) - valH (halvesL (limbs y)) = x - y := by rw [hv1, hv2]
  have HE := Lib.hid hE
  have HLE := Lib.hid hle'
  have HLL := Lib.hid hll
  have HN1 := Lib.hid h1.1
  clear hv1 hv2 hx hy hE hle' hll hle hcm
  generalize halvesL (limbs x) = la at *
  generalize halvesL (limbs y) = lb at *
  go_wp2_with fail
  go_loopw [8, 9, 10] (fun ov cv iv wr => ∃ (k : Nat) (v : Nat) (D : List Nat) (g cap : Nat), k ≤ n1 ∧ iv = .int .i64 (k : Int) ∧ cv = .int .u64 (v : Int) ∧ ov = .slice (some ⟨g, 0, none⟩) k cap ∧ SubAt la lb D k v ∧ wr.ownsRow w2.heap.size 41 1 (.slice (some ⟨g, 0, none⟩) k cap) k (D.map encD) ∧ Below w2.heap.size w2 wr) (fun _ _ iv _ => n1 - (intOf iv).toNat)
  case atStart => exact ⟨0, 0, [], w2.heap.size, 0, by omega, rfl, rfl, rfl, SubAt.start _ _, own_empty w2 _ (Nat.le_refl _), (Below.refl _ w2).alloc (Nat.le_refl _) _⟩
  case round =>
    obtain ⟨k, v, D, g, cap, hk, rfl, rfl, rfl, hA, hown, hbl⟩ := hrel
    by_cases hlt : k < n1
    · have hp := hd1.get k
      have hq := hd2.get k
      have hv1 : v ≤ 1 := hA.2.2.1
      have hgl := hown.lt g rfl
      obtain ⟨b, off, rfl, hbb, hcell⟩ := (h1.on hbl).2.2.2 (by omega)
      have hck := hcell k hlt
      have HA := Lib.hid hA
      have HO := Lib.hid hown
      have h2' := h2.on hbl
      have hk0 : (0 : Int) ≤ (k : Int) := by omega
      have hkn : (k : Int) < (n1 : Int) := by omega
      clear hA hown hcell
      go_wp2_with fail
      go_quiet ((go_at_call 96; exact Calls.quiet_of_same (at_same _ _ _ _ _ _ _ h2' (by omega) (by omega))))
      go_wp2_with (at_builtin; go_must (refine wpList_append_lies _ rfl _ _ 46 rfl w2.heap.size 41 i0 (.int .u64 0) 1 8 Tryz.underlying46 hi hz0 hz1 hz2 rfl (by decide) _ _ _ rfl (by exact HO.out.alloc _) ⟨wr.heap.size, 0, none⟩ 1 1 [.int .u64 ((IntKind.u64.wrap (IntKind.u64.wrap (IntKind.u64.wrap (4294967296 + ((la[k]?.getD 0 : Nat) : Int)) - ((lb[k]?.getD 0 : Nat) : Int)) - (v : Int))).tmod 4294967296)] rfl rfl (fun j u h => cell_one_new wr _ 41 j u h) (by simp [Value.oneCell']) (by omega) (by unfold maxLen; omega) (by omega) (by simp; have := hbl.size; omega) _ rfl ?_); intro g1 cap1 w4 hown1 hgrow1 hat hlt1)
      go_roundw
      case rel =>
        refine ⟨k + 1, dHi (la[k]?.getD 0) (lb[k]?.getD 0) v, _, g1, cap1, by omega, by go_num, by rw [rsub_hi hp hq hv1], rfl, HA.out.step hd1 hd2, ?_, ?_⟩
        · rw [rsub_lo hq hv1] at hown1
          rw [List.map_append]
          exact hown1
        · exact (below_drewN (hbl.alloc hbl.size _) nq).grown hgrow1 (by simp; have := hbl.size; omega) (fun q e => by injection (show some g = some q from e) with e1; omega)
      case measure => simp [intOf]; omega
    · obtain rfl : k = n1 := by omega
      have hlim := Lim.of_own hown hA.1.dig
      have hD := hA.1
      have hA' := hA
      rw [HN1.out] at hA'
      have hval := hA'.done HLL.out HLE.out
      rw [HE.out] at hval
      have HV := Lib.hid hval
      clear hval hA hown hA'
      go_wp2_with fail
      refine (whole_F _ _ _ _ _ hlim hD (by omega)).mono ?_
      rintro e w3 ⟨A3, n3, c3, rfl, h3, b3, f3⟩
      go_wp2_with fail
      go_ret2
      rw [HV.out] at h3
      exact ⟨A3, n3, c3, rfl, h3, cc.trans ((hbl.trans (b3.mono hbl.size)).mono cc.size), f3.mono (Nat.le_trans cc.size hbl.size)⟩

theorem rsub_N {w : World} {A B : Option Addr} {n c m d x y : Nat} (ha : Num w A n c x) (hb : Num w B m d y) (hx : (limbs x).length ≤ 1000000) (hy : (limbs y).length ≤ 1000000) (hle : y ≤ x) : Calls Tryz.prog 62 #[.slice A n c, .slice B m d] w (GotP w (x - y) 0) := (rsub_F ha hb hx hy hle).mono fun _ _ h => h.weak

theorem rsub_less_N {w : World} {A B : Option Addr} {n c m d x y : Nat} (ha : Num w A n c x) (hb : Num w B m d y) (hx : (limbs x).length ≤ 1000000) (hy : (limbs y).length ≤ 1000000) (hlt : x < y) : Calls Tryz.prog 62 #[.slice A n c, .slice B m d] w (GotV w (.tuple #[.slice none 0 0, .int .i64 2])) := by
  have hcm : cmpN x y < 0 := by rw [cmpN_lt hlt]; omega
  go_enter Tryz.func62, Tryz.ntmps62
  go_wp2_with fail
  refine (rcmp_N ha hb (by omega) (by omega)).mono ?_
  rintro e w0 ⟨rfl, b0⟩
  go_wp2_with fail
  go_ret2
  exact ⟨rfl, b0⟩

end Go.Proofs.YtmaolhajeoigpaaGreat

/-
  The contract of the reference's Mul.
-/
namespace Go.Proofs.YtmaolhajeoigpaaGreat
set_option maxRecDepth 100000
open Go.RowKit

/-- A product of figures, a figure and a carry, in two parts. -/
def pLo (x y q c : Nat) : Nat := (q + x * y + c) % H32
def pHi (x y q c : Nat) : Nat := (q + x * y + c) / H32
theorem pLo_lt (x y q c : Nat) : pLo x y q c < H32 := Nat.mod_lt _ H32_pos
theorem p_split (x y q c : Nat) : pLo x y q c + H32 * pHi x y q c = q + x * y + c := Nat.mod_add_div _ _
theorem p_bound {x y q c : Nat} (hx : x < H32) (hy : y < H32) (hq : q < H32) (hc : c < H32) : q + x * y + c < B64 := by
  have h1 : x * y ≤ (H32 - 1) * (H32 - 1) := Nat.mul_le_mul (by omega) (by omega)
  have h2 : (H32 - 1) * (H32 - 1) + (H32 - 1) + (H32 - 1) < B64 := by unfold H32 B64; omega
  omega
theorem pHi_lt {x y q c : Nat} (hx : x < H32) (hy : y < H32) (hq : q < H32) (hc : c < H32) : pHi x y q c < H32 := by
  unfold pHi
  rw [Nat.div_lt_iff_lt_mul H32_pos, H32_sq]
  exact p_bound hx hy hq hc
theorem p_wrap {x y q c : Nat} (hx : x < H32) (hy : y < H32) (hq : q < H32) (hc : c < H32) :
    IntKind.u64.wrap (IntKind.u64.wrap ((q : Int) + IntKind.u64.wrap ((x : Int) * (y : Int))) + (c : Int)) = ((q + x * y + c : Nat) : Int) := by
  have h := p_bound hx hy hq hc
  simp only [IntKind.wrap_u64]
  have e : (x : Int) * (y : Int) = ((x * y : Nat) : Int) := by simp
  rw [e]
  generalize x * y = p at *
  unfold B64 at h
  omega
theorem rmul_lo {x y q c : Nat} (hx : x < H32) (hy : y < H32) (hq : q < H32) (hc : c < H32) :
    (IntKind.u64.wrap (IntKind.u64.wrap ((q : Int) + IntKind.u64.wrap ((x : Int) * (y : Int))) + (c : Int))).tmod 4294967296 = (pLo x y q c : Int) := by
  rw [p_wrap hx hy hq hc, tmod_lo]
  rfl
theorem rmul_hi {x y q c : Nat} (hx : x < H32) (hy : y < H32) (hq : q < H32) (hc : c < H32) :
    IntKind.u64.wrap ((IntKind.u64.wrap (IntKind.u64.wrap ((q : Int) + IntKind.u64.wrap ((x : Int) * (y : Int))) + (c : Int))).tdiv 4294967296) = (pHi x y q c : Int) := by
  rw [p_wrap hx hy hq hc, Int.tdiv_eq_ediv_of_nonneg (by omega), wrap_hi (p_bound hx hy hq hc)]
  rfl

/-- What has been reckoned when k figures of one line are done: the row Q and the carry c. -/
def LineAt (P Q : List Nat) (i k x : Nat) (l : List Nat) (c : Nat) : Prop :=
  DigH Q ∧ Q.length = P.length ∧ c < H32 ∧ (∀ j, i + k ≤ j → Q[j]?.getD 0 = P[j]?.getD 0) ∧ valH Q + H32 ^ (i + k) * c = valH P + H32 ^ i * (x * valH (l.take k))
theorem LineAt.start {P : List Nat} (h : DigH P) (i x : Nat) (l : List Nat) : LineAt P P i 0 x l 0 := ⟨h, rfl, H32_pos, fun _ _ => rfl, by simp [valH_nil]⟩
theorem LineAt.step {P Q l : List Nat} {i k x c : Nat} (h : LineAt P Q i k x l c) (hx : x < H32) (hl : DigH l) (hk : i + k < P.length) :
    LineAt P (Q.set (i + k) (pLo x (l[k]?.getD 0) (Q[i + k]?.getD 0) c)) i (k + 1) x l (pHi x (l[k]?.getD 0) (Q[i + k]?.getD 0) c) := by
  obtain ⟨hd, hlen, hc, hsame, hv⟩ := h
  refine ⟨hd.set _ (pLo_lt _ _ _ _), by rw [List.length_set, hlen], pHi_lt hx (hl.get k) (hd.get _) hc, fun j hj => ?_, ?_⟩
  · rw [List.getElem?_set_ne (by omega)]; exact hsame j (by omega)
  · have hs := valH_set (l := Q) (k := i + k) (by omega) (pLo x (l[k]?.getD 0) (Q[i + k]?.getD 0) c)
    have hm := p_split x (l[k]?.getD 0) (Q[i + k]?.getD 0) c
    rw [valH_take_succ, ← Nat.add_assoc, Nat.pow_succ, Nat.mul_assoc]
    generalize pLo x (l[k]?.getD 0) (Q[i + k]?.getD 0) c = lo at *
    generalize pHi x (l[k]?.getD 0) (Q[i + k]?.getD 0) c = hi at *
    generalize Q[i + k]?.getD 0 = q at *
    generalize l[k]?.getD 0 = y at *
    have h1 : H32 ^ (i + k) * lo + H32 ^ (i + k) * (H32 * hi) = H32 ^ (i + k) * q + H32 ^ (i + k) * (x * y) + H32 ^ (i + k) * c := by
      rw [← Nat.mul_add, hm, Nat.mul_add, Nat.mul_add]
    have h2 : H32 ^ i * (x * (valH (l.take k) + H32 ^ k * y)) = H32 ^ i * (x * valH (l.take k)) + H32 ^ (i + k) * (x * y) := by
      rw [Nat.mul_add, Nat.mul_add, Nat.pow_add]
      have : H32 ^ i * (x * (H32 ^ k * y)) = H32 ^ i * H32 ^ k * (x * y) := by ac_rfl
      rw [this]
    rw [h2]
    omega
theorem LineAt.done {P Q l : List Nat} {i x c m : Nat} (hml : m = l.length) (h : LineAt P Q i m x l c) (hk : i + m < P.length) (hz : P[i + m]?.getD 0 = 0) :
    DigH (Q.set (i + m) c) ∧ (Q.set (i + m) c).length = P.length ∧ (∀ j, i + m < j → (Q.set (i + m) c)[j]?.getD 0 = P[j]?.getD 0) ∧ valH (Q.set (i + m) c) = valH P + H32 ^ i * (x * valH l) := by
  obtain ⟨hd, hlen, hc, hsame, hv⟩ := h
  refine ⟨hd.set _ hc, by rw [List.length_set, hlen], fun j hj => ?_, ?_⟩
  · rw [List.getElem?_set_ne (by omega)]; exact hsame j (by omega)
  · have hs := valH_set (l := Q) (k := i + m) (by omega) c
    rw [hsame _ (Nat.le_refl _), hz, Nat.mul_zero, Nat.add_zero] at hs
    rw [List.take_of_length_le (by omega)] at hv
    omega

set_option maxHeartbeats 4000000 in
theorem rmul_N {w : World} {A B : Option Addr} {n c m d x y : Nat} (ha : Num w A n c x) (hb : Num w B m d y) (hx : (limbs x).length ≤ 1000000) (hy : (limbs y).length ≤ 1000000) : Calls Tryz.prog 31 #[.slice A n c, .slice B m d] w (GotN w (x * y)) := by
  obtain ⟨i0, hi, hz0, hz1, hz2⟩ := info_parts info24
  go_enter Tryz.func31, Tryz.ntmps31
  go_wp2_with fail
  refine (halves_F ha (by omega)).mono ?_
  rintro e w1 ⟨A1, n1, c1, rfl, h1, b1⟩
  go_wp2_with fail
  refine (halves_F (hb.on b1) (by omega)).mono ?_
  rintro e w2 ⟨A2, n2, c2, rfl, h2, b2⟩
  replace h1 := h1.on b2
  have cc := b1.trans (b2.mono b1.size)
  clear b1 b2 ha hb
  have hv1 : valH (halvesL (limbs x)) = x := by rw [halvesL_val, val_limbs]
  have hv2 : valH (halvesL (limbs y)) = y := by rw [halvesL_val, val_limbs]
  have hd1 := halvesL_dig (limbs_dig x)
  have hd2 := halvesL_dig (limbs_dig y)
  have hn1 : n1 ≤ 2000000 := by have := h1.1; rw [halvesL_length] at this; omega
  have hn2 : n2 ≤ 2000000 := by have := h2.1; rw [halvesL_length] at this; omega
  have hE : valH (halvesL (limbs x)) * valH (halvesL (limbs y)) = x * y := by rw [hv1, hv2]
  have HE := Lib.hid hE
  have HN1 := Lib.hid h1.1
  have HN2 := Lib.hid h2.1
  clear hv1 hv2 hx hy hE
  generalize halvesL (limbs x) = la at *
  generalize halvesL (limbs y) = lb at *
  obtain ⟨s, hs⟩ : ∃ s, w2.heap.size = s := ⟨_, rfl⟩
  rw [hs] at h1 h2
  have HS := Lib.hid hs
  clear hs
  go_wp2_with (at_make; refine wpList_make_full _ rfl _ _ 46 rfl s 41 i0 (.int .u64 0) 1 Tryz.underlying46 hi hz0 hz1 .i64 .i64 _ _ (n1 + n2 + 1) rfl rfl (by omega) (by omega) (by rw [hz2]; omega) (by unfold maxLen; omega) (by rw [HS.out]; omega) ?_; intro w3 hown3 hgrow3; rw [made_zero] at hown3)
  rw [HS.out] at hown3 ⊢
  have hb3 : Below s w2 w3 := (Below.refl s w2).grown hgrow3 (by have := HS.out; omega) (fun k h => by cases h)
  clear hgrow3
  go_loopw [8] (fun iv wr => ∃ (k : Nat) (P : List Nat), k ≤ n1 ∧ iv = .int .i64 (k : Int) ∧ DigH P ∧ Hid (valH P = valH (la.take k) * valH lb) ∧ (∀ j, k + n2 ≤ j → Hid (P[j]?.getD 0 = 0)) ∧ wr.ownsRow s 41 1 (.slice (some ⟨s, 0, none⟩) (n1 + n2 + 1) (n1 + n2 + 1)) (n1 + n2 + 1) (P.map encD) ∧ Below s w2 wr)
    (fun iv _ => n1 - (intOf iv).toNat)
  case atStart => exact ⟨0, List.replicate (n1 + n2 + 1) 0, Nat.zero_le _, rfl, digH_zeros _, by rw [valH_zeros]; simp [valH_nil, Hid], fun j _ => get_zeros _ _, hown3, hb3⟩
  case round =>
    obtain ⟨k, P, hk, rfl, hP, hv, hzs, hown, hbl⟩ := hrel
    by_cases hlt : k < n1
    · obtain ⟨b, off, rfl, hbb, hcell⟩ := (h1.below hbl).2.2.2 (by omega)
      have hxl : la[k]?.getD 0 < H32 := hd1.get k
      have hPl : P.length = n1 + n2 + 1 := by have := hown.1; simpa using this
      have HPL := Lib.hid hPl
      have HV := Lib.hid hv
      have HZS := Lib.hid hzs
      clear hPl hv hzs
      obtain ⟨wo, hwo⟩ : ∃ wo : World, wo = wr := ⟨_, rfl⟩
      subst hwo
      go_wp2_with fail
      go_loopw [9, 10] (fun cv jv wi => ∃ (j : Nat) (v : Nat) (Q : List Nat), j ≤ n2 ∧ jv = .int .i64 (j : Int) ∧ cv = .int .u64 (v : Int) ∧ LineAt P Q k j (la[k]?.getD 0) lb v ∧ wi.ownsRow s 41 1 (.slice (some ⟨s, 0, none⟩) (n1 + n2 + 1) (n1 + n2 + 1)) (n1 + n2 + 1) (Q.map encD) ∧ Below s w2 wi)
        (fun _ jv _ => n2 - (intOf jv).toNat)
      case atStart => exact ⟨0, 0, P, Nat.zero_le _, rfl, rfl, LineAt.start hP _ _ _, hown, hbl⟩
      case round =>
        obtain ⟨j, v, Q, hj, rfl, rfl, hL, hown2, hbl2⟩ := hrel
        by_cases hlt2 : j < n2
        · have g1 := hcell k hlt
          have hc1 : wr.cell? ⟨b, off + k, none⟩ = some (.int .u64 ((la[k]?.getD 0 : Nat) : Int)) := by
            obtain ⟨b', off', e, _, hc'⟩ := (h1.below hbl2).2.2.2 (by omega)
            injection e with e
            injection e with e1 e2
            subst e1; subst e2
            exact hc' k hlt
          obtain ⟨b3, off3, rfl, hb3', hcell3⟩ := (h2.below hbl2).2.2.2 (by omega)
          have hc2 := hcell3 j hlt2
          have hQl : Q.length = n1 + n2 + 1 := by rw [hL.2.1]; exact HPL.out
          have hc3 : wr.cell? ⟨s, k + j, none⟩ = some (.int .u64 ((Q[k + j]?.getD 0 : Nat) : Int)) := by
            rw [hown2.cellAt (k + j) (by omega), List.getElem?_map, List.getElem?_eq_getElem (by omega)]
            simp [encD]
          have hf3 := hown2.frozenAt (k + j)
          have hyl : lb[j]?.getD 0 < H32 := hd2.get j
          have hql : Q[k + j]?.getD 0 < H32 := hL.1.get _
          have hvl : v < H32 := hL.2.2.1
          have HL := Lib.hid hL
          have HO2 := Lib.hid hown2
          clear hL hown2 hcell3 hQl g1
          have t1 : (0 : Int) ≤ (k : Int) := by omega
          have t2 : (k : Int) < (n1 : Int) := by omega
          have t3 : (0 : Int) ≤ (j : Int) := by omega
          have t4 : (j : Int) < (n2 : Int) := by omega
          have t5 : (0 : Int) ≤ (k : Int) + (j : Int) := by omega
          have t6 : (k : Int) + (j : Int) < (n1 : Int) + (n2 : Int) + 1 := by omega
          have t7 : IntKind.i64.wrap ((k : Int) + (j : Int)) = (k : Int) + (j : Int) := IntWalk.i64_in _ (by omega)
          have t8 : ((k : Int) + (j : Int)).toNat = k + j := by omega
          go_wp2_with fail
          go_quiet (fail)
          clear t7 t8
          go_wp2_with fail
          have hst := World.ownsRow.stored (w := wr.drewN nq) HO2.out (k + j) (.int .u64 ((IntKind.u64.wrap (IntKind.u64.wrap (((Q[k + j]?.getD 0 : Nat) : Int) + IntKind.u64.wrap (((la[k]?.getD 0 : Nat) : Int) * ((lb[j]?.getD 0 : Nat) : Int))) + (v : Int))).tmod 4294967296))
          refine ⟨⟨j + 1, pHi (la[k]?.getD 0) (lb[j]?.getD 0) (Q[k + j]?.getD 0) v, Q.set (k + j) (pLo (la[k]?.getD 0) (lb[j]?.getD 0) (Q[k + j]?.getD 0) v), by omega, by go_num, ?_, HL.out.step hxl hd2 (by have := HPL.out; omega), ?_, ?_⟩, by simp [intOf]; omega⟩
          · rw [rmul_hi hxl hyl hql hvl]
          · have h5 := hst.1
            rw [List.map_set]
            rw [rmul_lo hxl hyl hql hvl] at h5 ⊢
            exact h5
          · exact (below_drewN hbl2 nq).grown hst.2 (by have := hbl2.size; have := HS.out; simp; omega) (fun q e => by cases e; exact Nat.le_refl _)
        · obtain rfl : j = n2 := by omega
          have hQl : Q.length = n1 + j + 1 := by rw [hL.2.1]; exact HPL.out
          have hc3 : wr.cell? ⟨s, k + j, none⟩ = some (.int .u64 ((Q[k + j]?.getD 0 : Nat) : Int)) := by
            rw [hown2.cellAt (k + j) (by omega), List.getElem?_map, List.getElem?_eq_getElem (by omega)]
            simp [encD]
          have hf3 := hown2.frozenAt (k + j)
          obtain ⟨q1, q2, q3, q4⟩ := hL.done HN2.out (by have := HPL.out; omega) (HZS.out _ (Nat.le_refl _)).out
          have hst := hown2.stored (k + j) (.int .u64 (v : Int))
          have Q4 := Lib.hid q4
          have HST := Lib.hid hst
          have Q3 := Lib.hid q3
          clear hL hown2 hQl q2 q3 q4 hst
          go_wp2_with fail
          go_roundw
          case rel =>
            refine ⟨k + 1, Q.set (k + j) v, by omega, by go_num, q1, ?_, fun i hi => ?_, ?_, ?_⟩
            · have e1 := Q4.out
              rw [HV.out] at e1
              rw [e1, valH_take_succ, Nat.add_mul, Nat.mul_assoc]
              exact Lib.hid rfl
            · rw [Q3.out i (by omega)]
              exact HZS.out i (by omega)
            · rw [List.map_set]
              exact HST.out.1
            · exact hbl2.grown HST.out.2 (by have := hbl2.size; have := HS.out; omega) (fun q e => by cases e; exact Nat.le_refl _)
          case measure => simp [intOf]; omega
    · obtain rfl : k = n1 := by omega
      have hlim := Lim.of_own hown hP.dig
      have hval := hv.out
      rw [List.take_of_length_le (by have := HN1.out; omega), HE.out] at hval
      have HV := Lib.hid hval
      clear hval hv hown
      go_wp2_with fail
      refine (whole_any _ _ _ _ _ hlim hP (by omega)).mono ?_
      rintro e w4 ⟨A4, n4, c4, rfl, h4, b4⟩
      go_wp2_with fail
      go_ret
      rw [HV.out] at h4
      refine ⟨A4, n4, c4, rfl, h4, cc.trans (Below.mono (B := s) ?_ (by have := cc.size; have := HS.out; omega))⟩
      exact hbl.trans (b4.mono (by have := hbl.size; have := HS.out; omega))

end Go.Proofs.YtmaolhajeoigpaaGreat

/-
  The contracts of the second reference's power, bit, Shl and Shr.
-/
namespace Go.Proofs.YtmaolhajeoigpaaGreat
set_option maxRecDepth 100000
set_option maxHeartbeats 4000000
open Go.RowKit

theorem made_zeros (n : Nat) : (madeCells (Value.int .u64 0).cells (n * 1)).toList = (List.replicate n 0).map encD := by
  rw [Nat.mul_one, show (Value.int .u64 0).cells = #[Value.int .u64 0] from rfl, toList_madeCells_one, List.map_replicate]
  rfl

theorem wrap_pw {k : Nat} (h : k + 1 < 64) : IntKind.u64.wrap ((pw k : Int) * 2) = (pw (k + 1) : Int) := by
  have h1 := pw_lt h
  rw [pw_succ] at h1 ⊢
  rw [IntKind.wrap_u64]
  unfold B64 at h1
  omega

theorem power_N (w : World) (n : Nat) (hn : n ≤ 20000) : Calls Tryz.prog 97 #[.int .i64 (n : Int)] w (GotN w (2 ^ n)) := by
  obtain ⟨i0, hi, hz0, hz1, hz2⟩ := info_parts info24
  obtain ⟨s, hs⟩ : ∃ s, w.heap.size = s := ⟨_, rfl⟩
  have HS := Lib.hid hs
  clear hs
  go_enter Tryz.func97, Tryz.ntmps97
  go_wp2_with (at_make; refine wpList_make_full _ rfl _ _ 47 rfl s 41 i0 (.int .u64 0) 1 Tryz.underlying47 hi hz0 hz1 .i64 .i64 _ _ (n / 64 + 1) rfl rfl (by omega) (by omega) (by rw [hz2]; omega) (by unfold maxLen; omega) (by rw [HS.out]; omega) ?_; intro w1 hown1 hgrow1; rw [made_zeros] at hown1)
  rw [HS.out] at hown1 ⊢
  go_loop [4, 5] (fun ov iv => ∃ k : Nat, k ≤ n % 64 ∧ iv = .int .i64 (k : Int) ∧ ov = .int .u64 (pw k : Int)) (fun _ iv => n % 64 - (intOf iv).toNat)
  case atStart => exact ⟨0, Nat.zero_le _, rfl, rfl⟩
  case round =>
    obtain ⟨k, hk, rfl, rfl⟩ := hrel
    by_cases hlt : k < n % 64
    · go_wp2
      go_round
      case rel => exact ⟨k + 1, by omega, by go_num, congrArg (Value.int .u64) (wrap_pw (by omega))⟩
      case measure => simp [intOf]; omega
    · have hk' : k = n % 64 := by omega
      have hf := hown1.frozenAt (n / 64)
      have hc : w1.cell? ⟨s, n / 64, none⟩ = some (.int .u64 0) := by
        rw [hown1.cellAt (n / 64) (by omega)]
        simp [encD]
      have hst := hown1.stored (n / 64) (.int .u64 (pw k : Int))
      have HK := Lib.hid hk'
      have HST := Lib.hid hst
      have HO := Lib.hid hown1
      clear hk' hst hown1
      go_wp2
      go_ret
      have hl : (List.replicate (n / 64 + 1) 0).set (n / 64) (pw k) = limbs (2 ^ n) := by rw [HK.out]; exact pw_limbs n
      have hrow := HST.out.1
      rw [show (Value.int IntKind.u64 (pw k : Int)) = encD (pw k) from rfl, ← List.map_set, hl] at hrow
      refine ⟨_, _, _, rfl, Lim.of_own hrow (limbs_dig _), ?_⟩
      rw [HS.out]
      exact ((Below.refl s w).grown hgrow1 (by have := HS.out; omega) (fun k h => by cases h)).grown HST.out.2 (by have := hgrow1.size; have := HS.out; omega) (fun q e => by cases e; exact Nat.le_refl _)

theorem wrap_sh {g k : Nat} (h : g < B64) : IntKind.u64.wrap (((g / 2 ^ k : Nat) : Int) / 2) = ((g / 2 ^ (k + 1) : Nat) : Int) := by
  have h1 : g / 2 ^ k < B64 := Nat.lt_of_le_of_lt (Nat.div_le_self _ _) h
  rw [Nat.pow_succ, ← Nat.div_div_eq_div_mul]
  generalize g / 2 ^ k = t at *
  rw [IntKind.wrap_u64]
  unfold B64 at h1
  omega
/-- Shifted down by k places, behind a name. -/
def sd (g k : Nat) : Nat := g / 2 ^ k
theorem sd_step {g k : Nat} (h : g < B64) : IntKind.u64.wrap ((sd g k : Int) / 2) = (sd g (k + 1) : Int) := wrap_sh h
theorem sd_zero (g : Nat) : sd g 0 = g := Nat.div_one g

theorem bit_N {w : World} {A : Option Addr} {n c x i : Nat} (ha : Num w A n c x) (hn : n ≤ 1000000) (hin : i < 64 * n) : Calls Tryz.prog 60 #[.slice A n c, .int .i64 (i : Int)] w fun e w' => e = .returned (.int .u64 (bitN x i : Int)) ∧ w = w' := by
  obtain ⟨b, off, rfl, hb, hcell⟩ := ha.2.2.2 (by omega)
  have hc := hcell (i / 64) (by omega)
  rw [limbs_get] at hc
  have hd := dig_lt x (i / 64)
  have hbd := bitN_dig x i
  have HB := Lib.hid hbd
  clear hcell hbd
  generalize dig x (i / 64) = g at *
  go_enter Tryz.func60, Tryz.ntmps60
  go_wp2
  go_loop [5, 6] (fun ov iv => ∃ k : Nat, k ≤ i % 64 ∧ iv = .int .i64 (k : Int) ∧ ov = .int .u64 (sd g k : Int)) (fun _ iv => i % 64 - (intOf iv).toNat)
  case atStart => exact ⟨0, Nat.zero_le _, rfl, by rw [sd_zero]⟩
  case round =>
    obtain ⟨k, hk, rfl, rfl⟩ := hrel
    by_cases hlt : k < i % 64
    · go_wp2
      go_round
      case rel => exact ⟨k + 1, by omega, by go_num, congrArg (Value.int .u64) (sd_step hd)⟩
      case measure => simp [intOf]; omega
    · have hk' : k = i % 64 := by omega
      have HK := Lib.hid hk'
      clear hk'
      go_wp2
      go_ret
      refine ⟨?_, rfl⟩
      rw [← HB.out, ← HK.out]
      refine congrArg Ending.returned (congrArg (Value.int .u64) ?_)
      show ((sd g k : Int)).tmod 2 = ((sd g k % 2 : Nat) : Int)
      rw [Int.tmod_eq_emod_of_nonneg (by omega)]
      omega

theorem rshl_N {w : World} {A : Option Addr} {m c x n : Nat} (ha : Num w A m c x) (hx : (limbs x).length ≤ 1000) (hn : n ≤ 20000) : Calls Tryz.prog 65 #[.slice A m c, .int .i64 (n : Int)] w (GotP w (x * 2 ^ n) 0) := by
  have hp : (limbs (2 ^ n)).length ≤ 1000 := by
    refine Nat.le_trans (limbs_length_le (k := n / 64 + 1) ?_) (by omega)
    rw [B64_pow2]
    exact (Nat.pow_lt_pow_iff_right (by omega)).2 (by omega)
  have HP := Lib.hid hp
  clear hp
  go_enter Tryz.func65, Tryz.ntmps65
  go_wp2_with fail
  refine (power_N _ n hn).mono ?_
  rintro e w1 ⟨A1, n1, c1, rfl, h1, b1⟩
  go_wp2_with fail
  refine (rmul_N (ha.on b1) h1 (by omega) (by have := HP.out; omega)).mono ?_
  rintro e w2 ⟨A2, n2, c2, rfl, h2, b2⟩
  go_wp2_with fail
  go_ret2
  exact ⟨A2, n2, c2, rfl, h2, b1.trans (b2.mono b1.size)⟩

theorem rshl_no (w : World) (A : Option Addr) (m c : Nat) (n : Int) (hn : n < 0 ∨ 20000 < n) : Calls Tryz.prog 65 #[.slice A m c, .int .i64 n] w (GotV w (.tuple #[.slice none 0 0, .int .i64 1])) := by
  rcases hn with h | h
  · go_enter Tryz.func65, Tryz.ntmps65
    go_wp2
    go_ret2
    exact ⟨rfl, Below.refl _ _⟩
  · have h0 : ¬ n < 0 := by omega
    go_enter Tryz.func65, Tryz.ntmps65
    go_wp2
    go_ret2
    exact ⟨rfl, Below.refl _ _⟩

theorem rshr_no (w : World) (A : Option Addr) (m c : Nat) (n : Int) (hn : n < 0 ∨ 20000 < n) : Calls Tryz.prog 58 #[.slice A m c, .int .i64 n] w (GotV w (.tuple #[.slice none 0 0, .int .i64 1])) := by
  rcases hn with h | h
  · go_enter Tryz.func58, Tryz.ntmps58
    go_wp2
    go_ret2
    exact ⟨rfl, Below.refl _ _⟩
  · have h0 : ¬ n < 0 := by omega
    go_enter Tryz.func58, Tryz.ntmps58
    go_wp2
    go_ret2
    exact ⟨rfl, Below.refl _ _⟩

/-- A step of the inner loop, as the walk has it. -/
theorem wrap_step {x y k : Nat} (hx : x < B64) :
    IntKind.u64.wrap (IntKind.u64.wrap ((sh2 x y k : Int) / 2) + (sd y k : Int) % 2 * 9223372036854775808) = (sh2 x y (k + 1) : Int) := by
  have h1 := sh2_lt x y (k + 1)
  have h2 := sh2_succ hx y k
  rw [show y / 2 ^ k = sd y k from rfl] at h2
  have h3 := sh2_lt x y k
  generalize sh2 x y k = a at *
  generalize sh2 x y (k + 1) = b at *
  generalize sd y k = c at *
  simp only [IntKind.wrap_u64]
  unfold B64 at h1 h3
  omega

theorem rshr_F {w : World} {A : Option Addr} {m c x n : Nat} (ha : Num w A m c x) (hx : (limbs x).length ≤ 1000) (hn : n ≤ 20000) : Calls Tryz.prog 58 #[.slice A m c, .int .i64 (n : Int)] w (GotPF w (x / 2 ^ n) 0) := by
  obtain ⟨i0, hi, hz0, hz1, hz2⟩ := info_parts info24
  have hm : m ≤ 1000 := by rw [ha.len]; exact hx
  have hlt0 : x / 2 ^ n < B64 ^ (m - n / 64) := shr_lt (by rw [ha.len]; exact lt_of_limbs_length (Nat.le_refl _))
  have HLT := Lib.hid hlt0
  clear hlt0 hx
  go_enter Tryz.func58, Tryz.ntmps58
  go_wp2_with fail
  go_loopw [6, 7] (fun ov iv wr => ∃ k g cap : Nat, (k ≤ m - n / 64) ∧ iv = .int .i64 ((n / 64 + k : Nat) : Int) ∧ ov = .slice (some ⟨g, 0, none⟩) k cap ∧ wr.ownsRow w.heap.size 41 1 (.slice (some ⟨g, 0, none⟩) k cap) k ((digs (x / 2 ^ n) k).map encD) ∧ Below w.heap.size w wr) (fun _ iv _ => m - (intOf iv).toNat)
  case atStart => exact ⟨0, w.heap.size, 0, Nat.zero_le _, by go_num, rfl, own_empty w _ (Nat.le_refl _), (Below.refl _ w).alloc (Nat.le_refl _) _⟩
  case round =>
    obtain ⟨k, g, cap, hk, rfl, rfl, hown, hbl⟩ := hrel
    by_cases hlt : n / 64 + k < m
    · obtain ⟨b, off, rfl, hb, hcell⟩ := (ha.on hbl).2.2.2 (by omega)
      have h1 := hcell (n / 64 + k) hlt
      rw [limbs_get] at h1
      have hd1 := dig_lt x (n / 64 + k)
      have hd2 := dig_lt x (n / 64 + k + 1)
      have hsd := shr_dig x n k
      have HSD := Lib.hid hsd
      have hgl := hown.lt g rfl
      have HO := Lib.hid hown
      clear hown hsd
      obtain ⟨wo, hwo⟩ : ∃ wo : World, wo = wr := ⟨_, rfl⟩
      subst hwo
      have h2 : n / 64 + k + 1 < m → wo.cell? ⟨b, off + (n / 64 + k + 1), none⟩ = some (.int .u64 ((dig x (n / 64 + k + 1) : Nat) : Int)) := fun h => by
        have := hcell (n / 64 + k + 1) h
        rw [limbs_get] at this
        exact this
      have h2z : ¬ n / 64 + k + 1 < m → dig x (n / 64 + k + 1) = 0 := fun h => by
        rw [← limbs_get, List.getElem?_eq_none (by have := ha.len; omega)]; rfl
      clear hcell
      by_cases hlt2 : n / 64 + k + 1 < m
      · have h3 := h2 hlt2
        clear h2 h2z
        generalize dig x (n / 64 + k) = p at *
        generalize dig x (n / 64 + k + 1) = q at *
        go_wp2_with fail
        go_loop [8, 9, 10] (fun xv yv jv => ∃ j : Nat, j ≤ n % 64 ∧ jv = .int .i64 (j : Int) ∧ xv = .int .u64 (sh2 p q j : Int) ∧ yv = .int .u64 (sd q j : Int)) (fun _ _ jv => n % 64 - (intOf jv).toNat)
        case atStart => exact ⟨0, Nat.zero_le _, rfl, by rw [sh2_zero hd1], by rw [sd_zero]⟩
        case round =>
          obtain ⟨j, hj, rfl, rfl, rfl⟩ := hrel
          by_cases hltj : j < n % 64
          · go_wp2
            go_round
            case rel => exact ⟨j + 1, by omega, by go_num, congrArg (Value.int .u64) (wrap_step hd1), congrArg (Value.int .u64) (sd_step hd2)⟩
            case measure => simp [intOf]; omega
          · have hje : j = n % 64 := by omega
            have HJ := Lib.hid hje
            clear hje
            go_wp2_with (at_builtin; refine wpList_append_lies _ rfl _ _ 47 rfl w.heap.size 41 i0 (.int .u64 0) 1 8 Tryz.underlying47 hi hz0 hz1 hz2 rfl (by decide) _ _ _ rfl (HO.out.alloc _) ⟨wo.heap.size, 0, none⟩ 1 1 [.int .u64 (sh2 p q j : Int)] rfl rfl (cell_one_new _ _ _) (by simp [Value.oneCell']) (by omega) (by unfold maxLen; omega) (by omega) (by simp; have := hbl.size; omega) _ rfl ?_; intro g1 cap1 w1 hown1 hgrow1 hat hlt1)
            go_roundw
            case rel =>
              refine ⟨k + 1, g1, cap1, by omega, by go_num, rfl, ?_, ?_⟩
              · rw [HJ.out, HSD.out] at hown1
                rw [digs_succ, List.map_append]
                exact hown1
              · exact (hbl.alloc hbl.size _).grown hgrow1 (by simp; have := hbl.size; omega) (fun q e => by injection (show some g = some q from e) with e1; omega)
            case measure => simp [intOf]; omega
      · have h3 := h2z hlt2
        clear h2 h2z
        generalize dig x (n / 64 + k) = p at *
        generalize dig x (n / 64 + k + 1) = q at *
        have HQ := Lib.hid h3
        clear h3
        go_wp2_with fail
        go_loop [8, 9, 10] (fun xv yv jv => ∃ j : Nat, j ≤ n % 64 ∧ jv = .int .i64 (j : Int) ∧ xv = .int .u64 (sh2 p q j : Int) ∧ yv = .int .u64 (sd q j : Int)) (fun _ _ jv => n % 64 - (intOf jv).toNat)
        case atStart => exact ⟨0, Nat.zero_le _, rfl, by rw [sh2_zero hd1], by rw [sd_zero, HQ.out]; rfl⟩
        case round =>
          obtain ⟨j, hj, rfl, rfl, rfl⟩ := hrel
          by_cases hltj : j < n % 64
          · go_wp2
            go_round
            case rel => exact ⟨j + 1, by omega, by go_num, congrArg (Value.int .u64) (wrap_step hd1), congrArg (Value.int .u64) (sd_step hd2)⟩
            case measure => simp [intOf]; omega
          · have hje : j = n % 64 := by omega
            have HJ := Lib.hid hje
            clear hje
            go_wp2_with (at_builtin; refine wpList_append_lies _ rfl _ _ 47 rfl w.heap.size 41 i0 (.int .u64 0) 1 8 Tryz.underlying47 hi hz0 hz1 hz2 rfl (by decide) _ _ _ rfl (HO.out.alloc _) ⟨wo.heap.size, 0, none⟩ 1 1 [.int .u64 (sh2 p q j : Int)] rfl rfl (cell_one_new _ _ _) (by simp [Value.oneCell']) (by omega) (by unfold maxLen; omega) (by omega) (by simp; have := hbl.size; omega) _ rfl ?_; intro g1 cap1 w1 hown1 hgrow1 hat hlt1)
            go_roundw
            case rel =>
              refine ⟨k + 1, g1, cap1, by omega, by go_num, rfl, ?_, ?_⟩
              · rw [HJ.out, HSD.out] at hown1
                rw [digs_succ, List.map_append]
                exact hown1
              · exact (hbl.alloc hbl.size _).grown hgrow1 (by simp; have := hbl.size; omega) (fun q e => by injection (show some g = some q from e) with e1; omega)
            case measure => simp [intOf]; omega
    · have hlim := Lim.of_own hown (digs_dig _ _)
      have hkm : m - n / 64 ≤ k := by omega
      have hv : val (digs (x / 2 ^ n) k) = x / 2 ^ n := digs_all (Nat.lt_of_lt_of_le HLT.out (Nat.pow_le_pow_right B64_pos hkm))
      have HV := Lib.hid hv
      clear hv hown
      go_wp2_with fail
      refine (bare_limF hlim (by omega)).mono ?_
      rintro e w1 ⟨A1, n1, c1, rfl, hl1, b1, f1⟩
      go_wp2_with fail
      go_ret2
      rw [HV.out] at hl1
      exact ⟨A1, n1, c1, rfl, hl1, hbl.trans (b1.mono hbl.size), f1.mono hbl.size⟩

theorem rshr_N {w : World} {A : Option Addr} {m c x n : Nat} (ha : Num w A m c x) (hx : (limbs x).length ≤ 1000) (hn : n ≤ 20000) : Calls Tryz.prog 58 #[.slice A m c, .int .i64 (n : Int)] w (GotP w (x / 2 ^ n) 0) := (rshr_F ha hx hn).mono fun _ _ h => h.weak

end Go.Proofs.YtmaolhajeoigpaaGreat

/-
  The contract of the second reference's DivMod.
-/
namespace Go.Proofs.YtmaolhajeoigpaaGreat
set_option maxRecDepth 100000
set_option maxHeartbeats 8000000
open Go.RowKit

/-- A call has answered a quotient, what is left, and no error. -/
def GotD (w : World) (q r : Nat) (e : Ending) (w' : World) : Prop := ∃ A n c B m d, e = .returned (.tuple #[.slice A n c, .slice B m d, .int .i64 0]) ∧ Num w' A n c q ∧ Num w' B m d r ∧ Below w.heap.size w w'

theorem ownsRow_below {w w' : World} {base : Nat} {e : TypeId} {size : Nat} {v : Value} {n : Nat} {xs : List Value} (h : w.ownsRow base e size v n xs) (hb : Below w.heap.size w w') : w'.ownsRow base e size v n xs := by
  refine h.kept (row := none) ⟨hb.os, hb.tape, hb.output, hb.size, fun k hk _ => hb.block k hk⟩ ?_
  rcases h.2 with ⟨rfl, _⟩ | ⟨g, cap, cur, rfl, _⟩
  · exact .inl rfl
  · exact .inr (by simp [Value.ownBlock])

/-- A number that lies elsewhere is kept where a cell of a block is written. -/
theorem Num.far {w : World} {A : Option Addr} {n c x s o : Nat} {v : Value} (h : Num w A n c x) (hf : Fresh (s + 1) A n) : Num (w.setCell ⟨s, o, none⟩ v) A n c x := by
  refine ⟨h.1, h.2.1, h.2.2.1, fun h0 => ?_⟩
  obtain ⟨b, off, e, hb, hc⟩ := h.2.2.2 h0
  obtain ⟨b', off', e', hb'⟩ := hf h0
  rw [e] at e'
  injection e' with e'
  injection e' with e1 e2
  refine ⟨b, off, e, by rw [World.size_setCell]; exact hb, fun j hj => ?_⟩
  exact (World.cell?_of_block (a := ⟨b, off + j, none⟩) (Below.heap_setCell w ⟨s, o, none⟩ v b (by simp; omega))).trans (hc j hj)

theorem rbits_eq {w : World} {A : Option Addr} {n c x p : Nat} (ha : Num w A n c x) (hx : (limbs x).length ≤ 2147483648) (hp : blen x = p) : Calls Tryz.prog 57 #[.slice A n c] w (GotV w (.int .i64 (p : Int))) := by
  have := rbits_N ha hx
  rwa [hp] at this
theorem rshr_Fv {w : World} {A : Option Addr} {m c x n : Nat} {v : Int} (hv : v = (n : Int)) (ha : Num w A m c x) (hx : (limbs x).length ≤ 1000) (hn : n ≤ 20000) : Calls Tryz.prog 58 #[.slice A m c, .int .i64 v] w (GotPF w (x / 2 ^ n) 0) := by
  subst hv
  exact rshr_F ha hx hn
/-- Twice what a digit holds. -/
def tq (F i : Nat) : Nat := 2 * qd F (i + 1) (i / 64)
theorem wrap_two (F i : Nat) : IntKind.u64.wrap ((qd F (i + 1) (i / 64) : Int) * 2) = (tq F i : Int) := by
  have := qd_room F i
  unfold tq
  rw [IntKind.wrap_u64]
  unfold B64 at this
  omega
theorem wrap_tq (F i : Nat) : IntKind.u64.wrap ((tq F i : Int) + 1) = ((tq F i + 1 : Nat) : Int) := by
  have := qd_room F i
  unfold tq
  rw [IntKind.wrap_u64]
  unfold B64 at this
  omega

theorem rdiv_zero (w : World) (A B : Option Addr) (n c d : Nat) : Calls Tryz.prog 30 #[.slice A n c, .slice B 0 d] w (GotV w (.tuple #[.slice none 0 0, .slice none 0 0, .int .i64 4])) := by
  go_enter Tryz.func30, Tryz.ntmps30
  go_wp2
  go_ret3
  exact ⟨rfl, Below.refl _ _⟩

theorem div_start {x y f : Nat} (hy : y ≠ 0) (h : blen x = f + blen y) : x / y < 2 ^ (f + 1) ∧ x / 2 ^ (f + 1) < y := by
  have h1 := lt_blen x
  have h2 := blen_ge hy
  have h3 := blen_pos hy
  have e : 2 ^ blen x = 2 ^ (f + 1) * 2 ^ (blen y - 1) := by rw [← Nat.pow_add, h]; congr 1; omega
  have h4 : 2 ^ (f + 1) * 2 ^ (blen y - 1) ≤ 2 ^ (f + 1) * y := Nat.mul_le_mul_left _ h2
  constructor
  · rw [Nat.div_lt_iff_lt_mul (by omega)]; omega
  · rw [Nat.div_lt_iff_lt_mul (Nat.pow_pos (by omega)), Nat.mul_comm]; omega

theorem len_bits {x k : Nat} (h : (limbs x).length ≤ k) : blen x ≤ 64 * k := by
  refine blen_le ?_
  have h1 := lt_of_limbs_length h
  rw [B64_pow2] at h1
  exact h1
theorem r_len {x y k : Nat} (hy : 0 < y) (h : (limbs y).length ≤ k) : (limbs (x % y)).length ≤ k := Nat.le_trans (limbs_length_mono (Nat.le_of_lt (Nat.mod_lt _ hy))) h

theorem rdiv_main {w : World} {A B : Option Addr} {n c m d x y f : Nat} (ha : Num w A n c x) (hb : Num w B m d y) (hx : (limbs x).length ≤ 300) (hy : (limbs y).length ≤ 300) (hy0 : y ≠ 0) (hf : blen x = f + blen y) : Calls Tryz.prog 30 #[.slice A n c, .slice B m d] w (GotD w (x / y) (x % y)) := by
  obtain ⟨i0, hi, hz0, hz1, hz2⟩ := info_parts info24
  obtain ⟨hF, hR⟩ := div_start hy0 hf
  have hbx := len_bits hx
  have hn : n ≤ 300 := by rw [ha.len]; exact hx
  have hxn : blen x ≤ 64 * n := by rw [ha.len]; exact blen_le (by rw [← B64_pow2]; exact lt_of_limbs_length (Nat.le_refl _))
  have hm0 : ((m : Int) == 0) = false := by have := hb.len; have := limbs_ne_nil hy0; simp; omega
  obtain ⟨q, hq⟩ : ∃ q, blen y = q := ⟨_, rfl⟩
  have hq1 : 1 ≤ q := by have := blen_pos hy0; omega
  rw [hq] at hf
  rw [hf] at hbx hxn
  have HQ := Lib.hid hq
  have HP := Lib.hid hf
  clear hq hf
  go_enter Tryz.func30, Tryz.ntmps30
  go_wp2_with fail
  refine (rbits_eq ha (by omega) HP.out).mono ?_
  rintro e w1 ⟨rfl, b1⟩
  replace ha := ha.on b1
  replace hb := hb.on b1
  go_wp2_with fail
  refine (rbits_eq hb (by omega) HQ.out).mono ?_
  rintro e w2 ⟨rfl, b2⟩
  replace ha := ha.on b2
  replace hb := hb.on b2
  have cc := b1.trans (b2.mono b1.size)
  clear b1 b2
  obtain ⟨s, hs⟩ : ∃ s, w2.heap.size = s := ⟨_, rfl⟩
  unfold Num at ha hb
  rw [hs] at ha hb
  have HS := Lib.hid hs
  clear hs
  go_wp2_with (at_make; refine wpList_make_full _ rfl _ _ 47 rfl s 41 i0 (.int .u64 0) 1 Tryz.underlying47 hi hz0 hz1 .i64 .i64 _ _ n rfl rfl (by omega) (by omega) (by rw [hz2]; omega) (by unfold maxLen; omega) (by rw [HS.out]; omega) ?_; intro w3 hown3 hgrow3; rw [made_zeros] at hown3)
  rw [HS.out] at hown3 ⊢
  have hb3 : Below s w2 w3 := (Below.refl s w2).grown hgrow3 (by have := HS.out; omega) (fun k h => by cases h)
  have hs3 := (hown3.lt s rfl).2
  clear hgrow3
  have ha3 : Num w3 A n c x := (ha.below hb3).more (by omega)
  refine (rshr_Fv (n := f + 1) (by omega) ha3 (by omega) (by omega)).mono ?_
  rintro e w4 ⟨A4, n4, c4, rfl, h4, b4, f4⟩
  have hb4 : Below s w2 w4 := hb3.trans (b4.mono (by omega))
  have hown4 := ownsRow_below hown3 b4
  have hfr : Fresh (s + 1) A4 n4 := f4.mono (by omega)
  have hR4 : x / 2 ^ (f + 1) = x / 2 ^ (f + 1) % y := (Nat.mod_eq_of_lt hR).symm
  rw [hR4] at h4
  rw [← qlist_none hF] at hown4
  have hy1 : 0 < y := by omega
  clear b4 f4 ha3 hown3 hb3 hs3 hR4 hF hR
  go_wp2_with fail
  go_loopw [9, 11] (fun rv iv wr => ∃ (k : Nat) (A' : Option Addr) (n' c' : Nat), iv = .int .i64 ((k : Int) - 1) ∧ k ≤ f + 1 ∧ rv = .slice A' n' c' ∧ Num wr A' n' c' (x / 2 ^ k % y) ∧ Fresh (s + 1) A' n' ∧ wr.ownsRow s 41 1 (.slice (some ⟨s, 0, none⟩) n n) n ((qlist (x / y) k n).map encD) ∧ Below s w2 wr) (fun _ iv _ => (intOf iv + 1).toNat)
  case atStart => exact ⟨f + 1, A4, n4, c4, congrArg (Value.int .i64) (by omega), Nat.le_refl _, rfl, h4, hfr, hown4, hb4⟩
  case round =>
    obtain ⟨k, A', n', c', rfl, hk, rfl, hr, hfr', hown, hbl⟩ := hrel
    by_cases h0 : k = 0
    · subst h0
      have hlim := Lim.of_own hown (qlist_dig _ _ _)
      have hv : val (qlist (x / y) 0 n) = x / y := by
        rw [qlist_done]
        refine digs_all (Nat.lt_of_le_of_lt (Nat.div_le_self _ _) ?_)
        rw [ha.1]
        exact lt_of_limbs_length (Nat.le_refl _)
      have HV := Lib.hid hv
      have hr0 : x / 2 ^ 0 % y = x % y := by rw [Nat.pow_zero, Nat.div_one]
      rw [hr0] at hr
      clear hv hown hr0
      go_wp2_with fail
      refine (bare_lim hlim (by omega)).mono ?_
      rintro e w5 ⟨A5, n5, c5, rfl, h5, b5⟩
      rw [HV.out] at h5
      go_wp2_with fail
      go_ret3
      exact ⟨A5, n5, c5, A', n', c', rfl, h5, hr.on b5, cc.trans (Below.mono (B := s) (hbl.trans (b5.mono (by have := hbl.size; have := HS.out; omega))) (by have := cc.size; have := HS.out; omega))⟩
    · obtain ⟨i, hi'⟩ : ∃ i, k = i + 1 := ⟨k - 1, by omega⟩
      subst hi'
      have e1 : ((i + 1 : Nat) : Int) - 1 = (i : Int) := by omega
      rw [e1]
      clear e1
      obtain ⟨hstep, hbit⟩ := div_step (x := x) hy1 i
      have HST := Lib.hid hstep
      have HBT := Lib.hid hbit
      clear hstep hbit
      have hsz := (hown.lt s rfl).2
      have l1 := r_len (x := x / 2 ^ (i + 1)) hy1 hy
      obtain ⟨r, hre⟩ : ∃ r, x / 2 ^ (i + 1) % y = r := ⟨_, rfl⟩
      rw [hre] at hr l1
      have HRE := Lib.hid hre
      clear hre
      have l2 : (limbs (r + r)).length ≤ 301 := limbs_length_add l1 l1
      have hbl0 : bitN x i < B64 := Nat.lt_trans (bitN_lt x i) (by unfold B64; omega)
      have l3 : (limbs (bitN x i)).length ≤ 301 := Nat.le_trans (limbs_length_le (k := 1) (by rw [Nat.pow_one]; exact hbl0)) (by omega)
      have l4 : (limbs (r + r + bitN x i)).length ≤ 302 := limbs_length_add l2 l3
      have HO := Lib.hid hown
      clear hown
      go_wp2_with fail
      refine (radd_F hr hr (by omega) (by omega)).mono ?_
      rintro e w5 ⟨A5, n5, c5, rfl, h5, b5, f5⟩
      replace HO := Lib.hid (ownsRow_below HO.out b5)
      have hb5 : Below s w2 w5 := hbl.trans (b5.mono (by omega))
      have hs5 : s < w5.heap.size := Nat.lt_of_lt_of_le hsz b5.size
      clear b5 f5 hr hfr' hbl hsz
      go_wp2_with fail
      refine (bit_N (x := x) ((ha.below hb5).more (by omega)) (by omega) (by omega)).mono ?_
      rintro e w6 ⟨rfl, rfl⟩
      go_wp2_with fail
      refine (rof_N _ _ hbl0).mono ?_
      rintro e w6 ⟨A6, n6, c6, rfl, h6, b6⟩
      replace HO := Lib.hid (ownsRow_below HO.out b6)
      replace h5 := h5.on b6
      have hb6 : Below s w2 w6 := hb5.trans (b6.mono (by omega))
      have hs6 : s < w6.heap.size := Nat.lt_of_lt_of_le hs5 b6.size
      clear b6 hb5 hs5
      go_wp2_with fail
      refine (radd_F h5 h6 (by omega) (by omega)).mono ?_
      rintro e w7 ⟨A7, n7, c7, rfl, h7, b7, f7⟩
      replace HO := Lib.hid (ownsRow_below HO.out b7)
      have hb7 : Below s w2 w7 := hb6.trans (b7.mono (by omega))
      have hs7 : s < w7.heap.size := Nat.lt_of_lt_of_le hs6 b7.size
      have hf7 : Fresh (s + 1) A7 n7 := f7.mono (by omega)
      clear b7 f7 h5 h6 hb6 hs6
      have hit : i / 64 < n := by omega
      have hc1 : w7.cell? ⟨s, i / 64, none⟩ = some (.int .u64 (qd (x / y) (i + 1) (i / 64) : Int)) := by
        rw [HO.out.cellAt (i / 64) (by omega), List.getElem?_map, List.getElem?_eq_getElem (by rw [qlist_length]; exact hit)]
        simp [encD, qlist]
      have hf1 := HO.out.frozenAt (i / 64)
      have hst1 := HO.out.stored (i / 64) (.int .u64 (tq (x / y) i : Int))
      have HS1 := Lib.hid hst1
      clear hst1 HO
      have hw2 := wrap_two (x / y) i
      go_wp2_with fail
      clear hw2 hc1 hf1
      have h8 := h7.far (o := i / 64) (v := .int .u64 (tq (x / y) i : Int)) hf7
      have hb8 : Below s w2 (w7.setCell ⟨s, i / 64, none⟩ (.int .u64 (tq (x / y) i : Int))) := hb7.setCell (p := ⟨s, i / 64, none⟩) (Nat.le_refl _) _
      have hs8 : s < (w7.setCell ⟨s, i / 64, none⟩ (.int .u64 (tq (x / y) i : Int))).heap.size := by rw [World.size_setCell]; exact hs7
      have hn8 : Num (w7.setCell ⟨s, i / 64, none⟩ (.int .u64 (tq (x / y) i : Int))) B m d y := (hb.below hb8).more (by omega)
      have ho8 := HS1.out.1
      clear HS1 h7 hb7 hs7
      generalize w7.setCell ⟨s, i / 64, none⟩ (.int .u64 (tq (x / y) i : Int)) = w8 at *
      have HO8 := Lib.hid ho8
      clear ho8
      by_cases hge : y ≤ r + r + bitN x i
      · have hcm : 0 ≤ cmpN (r + r + bitN x i) y := by
          rcases Nat.lt_or_ge y (r + r + bitN x i) with h | h
          · rw [cmpN_gt h]; omega
          · rw [cmpN_zero.2 (by omega)]; omega
        have hst := HST.out
        have hbt := HBT.out
        rw [HRE.out, show 2 * r = r + r by omega, if_pos hge] at hst hbt
        have HRN := Lib.hid hst
        have HBN := Lib.hid hbt
        clear hst hbt HST HBT HRE
        refine (rcmp_N h8 hn8 (by omega) (by omega)).mono ?_
        rintro e w9 ⟨rfl, b9⟩
        replace h8 := h8.on b9
        replace hn8 := hn8.on b9
        have hb9 : Below s w2 w9 := hb8.trans (b9.mono (by omega))
        have hs9 : s < w9.heap.size := Nat.lt_of_lt_of_le hs8 b9.size
        replace HO8 := Lib.hid (ownsRow_below HO8.out b9)
        clear b9 hb8 hs8
        go_wp2_with fail
        refine (rsub_F h8 hn8 (by omega) (by omega) hge).mono ?_
        rintro e w10 ⟨A10, n10, c10, rfl, h10, b10, f10⟩
        have hb10 : Below s w2 w10 := hb9.trans (b10.mono (by omega))
        have hs10 : s < w10.heap.size := Nat.lt_of_lt_of_le hs9 b10.size
        have hf10 : Fresh (s + 1) A10 n10 := f10.mono (by omega)
        replace HO8 := Lib.hid (ownsRow_below HO8.out b10)
        clear b10 f10 hb9 h8 hn8 hs9
        have hc2 : w10.cell? ⟨s, i / 64, none⟩ = some (.int .u64 (tq (x / y) i : Int)) := by
          rw [HO8.out.cellAt (i / 64) (by omega), List.getElem?_set_self (by rw [List.length_map, qlist_length]; exact hit)]
        have hf2 := HO8.out.frozenAt (i / 64)
        have hst2 := HO8.out.stored (i / 64) (.int .u64 ((tq (x / y) i + 1 : Nat) : Int))
        have HS2 := Lib.hid hst2
        clear hst2 HO8
        have hw3 := wrap_tq (x / y) i
        go_wp2_with fail
        go_roundw
        case rel =>
          refine ⟨i, A10, n10, c10, by go_num, by omega, rfl, ?_, hf10, ?_, ?_⟩
          · rw [HRN.out]; exact h10.far hf10
          · have hrow := HS2.out.1
            rw [List.set_set] at hrow
            have e2 : tq (x / y) i + 1 = qd (x / y) i (i / 64) := by rw [qd_same, HBN.out]; rfl
            rw [← qlist_set (x / y) i n, List.map_set, ← e2]
            exact hrow
          · exact hb10.setCell (p := ⟨s, i / 64, none⟩) (Nat.le_refl _) _
        case measure => simp [intOf]
      · have hcm : ¬ 0 ≤ cmpN (r + r + bitN x i) y := by rw [cmpN_lt (by omega)]; omega
        have hst := HST.out
        have hbt := HBT.out
        rw [HRE.out, show 2 * r = r + r by omega, if_neg hge] at hst hbt
        have HRN := Lib.hid hst
        have HBN := Lib.hid hbt
        clear hst hbt HST HBT HRE
        refine (rcmp_N h8 hn8 (by omega) (by omega)).mono ?_
        rintro e w9 ⟨rfl, b9⟩
        replace h8 := h8.on b9
        have hb9 : Below s w2 w9 := hb8.trans (b9.mono (by omega))
        replace HO8 := Lib.hid (ownsRow_below HO8.out b9)
        clear b9 hb8 hs8 hn8
        go_wp2_with fail
        go_roundw
        case rel =>
          refine ⟨i, A7, n7, c7, by go_num, by omega, rfl, ?_, hf7, ?_, hb9⟩
          · rw [HRN.out]; exact h8
          · have hrow := HO8.out
            have e2 : tq (x / y) i = qd (x / y) i (i / 64) := by rw [qd_same, HBN.out]; rfl
            rw [← qlist_set (x / y) i n, List.map_set, ← e2]
            exact hrow
        case measure => simp [intOf]

theorem own_two (w : World) (o : Obj) (base : Nat) (h : base ≤ w.heap.size) : ((w.alloc o).alloc (.cells #[] 41)).ownsRow base 41 1 (.slice (some ⟨w.heap.size + 1, 0, none⟩) 0 0) 0 [] := by
  have := own_empty (w.alloc o) base (by rw [World.size_alloc]; omega)
  rw [World.size_alloc] at this
  exact this

theorem num_empty (w : World) (A : Option Addr) (c : Nat) : Num w A 0 c 0 := by
  unfold Num
  rw [limbs_zero]
  exact Lim.nil _ _ _ _

theorem rdiv_small {w : World} {A B : Option Addr} {n c m d x y : Nat} (ha : Num w A n c x) (hb : Num w B m d y) (hx : (limbs x).length ≤ 300) (hy : (limbs y).length ≤ 300) (hf : blen x < blen y) : Calls Tryz.prog 30 #[.slice A n c, .slice B m d] w (GotD w 0 x) := by
  obtain ⟨i0, hi, hz0, hz1, hz2⟩ := info_parts info24
  have hbx := len_bits hx
  have hby := len_bits hy
  have hy0 : y ≠ 0 := fun e => by subst e; rw [blen_zero] at hf; omega
  have hn : n ≤ 300 := by rw [ha.len]; exact hx
  have hm0 : ((m : Int) == 0) = false := by have := hb.len; have := limbs_ne_nil hy0; simp; omega
  obtain ⟨p, hp⟩ : ∃ p, blen x = p := ⟨_, rfl⟩
  obtain ⟨q, hq⟩ : ∃ q, blen y = q := ⟨_, rfl⟩
  rw [hp] at hf hbx
  rw [hq] at hf hby
  have HQ := Lib.hid hq
  have HP := Lib.hid hp
  clear hq hp hy0
  have hxn := Lib.hid ha.len
  go_enter Tryz.func30, Tryz.ntmps30
  go_wp2_with fail
  refine (rbits_eq ha (by omega) HP.out).mono ?_
  rintro e w1 ⟨rfl, b1⟩
  replace ha := ha.on b1
  replace hb := hb.on b1
  go_wp2_with fail
  refine (rbits_eq hb (by omega) HQ.out).mono ?_
  rintro e w2 ⟨rfl, b2⟩
  replace ha := ha.on b2
  have cc := b1.trans (b2.mono b1.size)
  clear b1 b2 hb
  by_cases h0 : n = 0
  · subst h0
    have hx0 : x = 0 := by
      have h2 := val_limbs x
      rw [List.eq_nil_of_length_eq_zero hxn.out.symm] at h2
      exact h2.symm
    subst hx0
    have hfin : ∀ (W : World) (e : Ending), Below w2.heap.size w2 W → e = .returned (.tuple #[.slice (some ⟨w2.heap.size, 0, none⟩) 0 0, .slice (some ⟨w2.heap.size + 1, 0, none⟩) 0 0, .int .i64 0]) → GotD w 0 0 e W := fun W e hW he =>
      ⟨_, _, _, _, _, _, he, num_empty _ _ _, num_empty _ _ _, cc.trans (hW.mono cc.size)⟩
    have HF := Lib.hid hfin
    clear hfin
    cases A with
    | none =>
      go_wp2
      go_ret3
      exact HF.out _ _ (((Below.refl _ w2).alloc (Nat.le_refl _) _).alloc (by simp) _) rfl
    | some ad =>
      go_wp2_with (at_builtin; refine wpList_append_own _ rfl _ _ 47 rfl w2.heap.size 41 i0 (.int .u64 0) 1 8 Tryz.underlying47 hi hz0 hz1 hz2 rfl (by decide) _ _ _ rfl (own_two w2 _ w2.heap.size (Nat.le_refl _)) ad 0 _ [] rfl rfl (by intro j u h; simp at h) (by simp) (by unfold maxLen; omega) (by omega) (by simp; omega) ?_; intro v' w5 hown5 hgrow5 _)
      go_ret3
      obtain ⟨A5, c5, rfl, hl5⟩ := isL_of_own (l := []) hown5 Dig.nil
      have hB5 : Below w2.heap.size w2 w5 := (((Below.refl _ w2).alloc (Nat.le_refl _) _).alloc (by simp) _).grown hgrow5 (by simp; omega) (fun k e => by injection (show some (w2.heap.size + 1) = some k from e) with e1; omega)
      exact ⟨_, _, _, _, _, _, rfl, num_empty _ _ _, num_empty _ _ _, cc.trans (hB5.mono cc.size)⟩
  · obtain ⟨b, off, rfl, hbb, hcell⟩ := ha.2.2.2 (by omega)
    have hcells : ∀ (j : Nat) u, ((limbs x).map encD)[j]? = some u → ((w2.alloc (.cells #[] 41)).alloc (.cells #[] 41)).cell? ((⟨b, off, none⟩ : Addr).add j) = some u := by
      intro j u hu
      have hj : j < n := by
        have := (List.getElem?_eq_some_iff.1 hu).1
        rw [List.length_map] at this
        have := hxn.out; omega
      have e1 : ((⟨b, off, none⟩ : Addr).add j) = ⟨b, off + j, none⟩ := by unfold Addr.add; split <;> simp_all
      rw [e1, World.cell?_alloc_lt _ _ _ (by simp; omega), World.cell?_alloc_lt _ _ _ hbb, hcell j hj]
      rw [List.getElem?_map] at hu
      have hjl : j < (limbs x).length := by have := hxn.out; omega
      rw [List.getElem?_eq_getElem hjl] at hu ⊢
      exact hu
    have HC := Lib.hid hcells
    clear hcells hcell
    go_wp2_with (at_builtin; refine wpList_append_own _ rfl _ _ 47 rfl w2.heap.size 41 i0 (.int .u64 0) 1 8 Tryz.underlying47 hi hz0 hz1 hz2 rfl (by decide) _ _ _ rfl (own_two w2 _ w2.heap.size (Nat.le_refl _)) ⟨b, off, none⟩ n _ ((limbs x).map encD) rfl (by have := hxn.out; simp only [List.length_map]; omega) HC.out (encD_one _) (by unfold maxLen; omega) (by omega) (by simp; omega) ?_; intro v' w5 hown5 hgrow5 _)
    go_ret3
    rw [List.nil_append] at hown5
    obtain ⟨A5, c5, rfl, hl5⟩ := isL_of_own hown5 (limbs_dig x)
    have hB5 : Below w2.heap.size w2 w5 := (((Below.refl _ w2).alloc (Nat.le_refl _) _).alloc (by simp) _).grown hgrow5 (by simp; omega) (fun k e => by injection (show some (w2.heap.size + 1) = some k from e) with e1; omega)
    exact ⟨_, _, _, _, _, _, rfl, num_empty _ _ _, hl5, cc.trans (hB5.mono cc.size)⟩

theorem rdiv_N {w : World} {A B : Option Addr} {n c m d x y : Nat} (ha : Num w A n c x) (hb : Num w B m d y) (hx : (limbs x).length ≤ 300) (hy : (limbs y).length ≤ 300) (hy0 : y ≠ 0) : Calls Tryz.prog 30 #[.slice A n c, .slice B m d] w (GotD w (x / y) (x % y)) := by
  rcases Nat.lt_or_ge (blen x) (blen y) with h | h
  · have hlt : x < y := by
      rcases Nat.lt_or_ge x y with h1 | h1
      · exact h1
      · have := blen_le (Nat.lt_of_le_of_lt h1 (lt_blen x)); omega
    rw [Nat.div_eq_of_lt hlt, Nat.mod_eq_of_lt hlt]
    exact rdiv_small ha hb hx hy h
  · exact rdiv_main (f := blen x - blen y) ha hb hx hy hy0 (by omega)

end Go.Proofs.YtmaolhajeoigpaaGreat
