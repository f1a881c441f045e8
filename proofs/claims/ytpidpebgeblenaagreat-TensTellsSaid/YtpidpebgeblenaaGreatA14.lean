/-
  Several texts in one: M14, JTb, JTg, RD, JTi, JTf.
-/
import Derived.Test.YtpidpebgeblenaaGreatA13
import Derived.Test.YtpidpebgeblenaaGreatA12
import Derived.Test.YtpidpebgeblenaaGreatA3
import Derived.RangeFuncNested
import Derived.RangeFuncBound
import Derived.RangeFuncBox
import Derived.RangeFuncCalls
import Derived.RangeFuncLeaves
import Derived.Shelf.Abstract
import Derived.Shelf.RegionOpen
import Derived.OwnWalkIn
import Derived.TacticsInMore
import Derived.LoopNIn
import Derived.LoopIn
import Derived.Deep.RegionHeld
import Derived.Test.YtpidpebgeblenaaGreatA1
import Derived.WalkKit
import Derived.WalkSpells
import Derived.Maps.AppendAt
import Derived.Lib.Hide

/-
  Rows cut into blocks, kept, loaded, what they cost; numbers alone.
-/
namespace Go.Proofs.YtpidpebgeblenaaGreat
open Go.RowKit
set_option linter.unusedVariables false
set_option linter.unusedSimpArgs false

/-- The numbers of the block i; how many blocks; the kind of one; what it is kept as; the first i of all. -/
def cutL (s : Nat) (L : List Int) (i : Nat) : List Int := (L.drop (i * s)).take s
def nbk (s n : Nat) : Nat := (n + s - 1) / s
def kdB (kk km ko lg : Int) (p : List Int) : Int := if Wd km ko lg (gr p) then 4 else kk
def ofB (kk km ko lg : Int) (p : List Int) : Bk := (kdB kk km ko lg p, pkS (kdB kk km ko lg p) p, pkC (kdB kk km ko lg p) p, pkW (kdB kk km ko lg p) p)
def ofL (kk km ko lg : Int) (s : Nat) (L : List Int) (i : Nat) : List Bk := (List.range i).map fun j => ofB kk km ko lg (cutL s L j)
/-- May the first i blocks be packed? -/
def OkO (kk km ko lg : Int) (s : Nat) (L : List Int) (i : Nat) : Prop := ∀ j, j < i → OkP (kdB kk km ko lg (cutL s L j)) (cutL s L j)
theorem nbk_lt {s n i : Nat} (hs : 1 ≤ s) : i < nbk s n ↔ i * s < n := by
  unfold nbk
  rw [Nat.lt_iff_add_one_le, Nat.le_div_iff_mul_le (by omega), Nat.add_mul]
  generalize i * s = t
  omega
theorem cutL_len (s : Nat) (L : List Int) (i : Nat) : (cutL s L i).length = min s (L.length - i * s) := by unfold cutL; rw [List.length_take, List.length_drop]
theorem cutL_mem {s : Nat} {L : List Int} {i : Nat} {x : Int} (h : x ∈ cutL s L i) : x ∈ L := List.mem_of_mem_drop (List.mem_of_mem_take h)
theorem gr_mem {L : List Int} {x : Int} (h : x ∈ L) : x ≤ gr L ∧ -x ≤ gr L := by
  obtain ⟨j, hj, rfl⟩ := at_mem 0 h
  exact gr_ge hj
theorem ofL_len (kk km ko lg : Int) (s : Nat) (L : List Int) (i : Nat) : (ofL kk km ko lg s L i).length = i := by simp [ofL]
theorem ofL_at {kk km ko lg : Int} {s : Nat} {L : List Int} {i j : Nat} (h : j < i) : (ofL kk km ko lg s L i)[j]?.getD bk0 = ofB kk km ko lg (cutL s L j) := by
  unfold ofL
  rw [List.getElem?_map, List.getElem?_range h]
  rfl
theorem ofB_len {kk km ko lg : Int} (p : List Int) : (ofB kk km ko lg p).2.2.1.length + (ofB kk km ko lg p).2.2.2.length = p.length := by
  show (pkC _ p).length + (pkW _ p).length = p.length
  unfold pkC pkW
  split <;> simp
theorem kdB_cases {kk km ko lg : Int} (hk : 0 ≤ kk ∧ kk ≤ 3) (p : List Int) : (kdB kk km ko lg p = 4 ∧ Wd km ko lg (gr p)) ∨ (kdB kk km ko lg p = kk ∧ kk ≠ 4 ∧ ¬ Wd km ko lg (gr p)) := by
  unfold kdB
  split
  · exact .inl ⟨rfl, by assumption⟩
  · exact .inr ⟨rfl, by omega, by assumption⟩
theorem ofB_ok {kk km ko lg : Int} (p : List Int) (h : OkP (kdB kk km ko lg p) p) (hl : p.length ≤ 4096) : OkX (ofB kk km ko lg p) := okB_pk h hl
theorem nbk_int {s n : Nat} (hs : 1 ≤ s) : ((nbk s n : Nat) : Int) = ((n : Int) + (s : Int) - 1) / (s : Int) := by
  unfold nbk
  rw [Int.natCast_ediv]
  congr 1
  omega
theorem allAt_all {kk ks km ko lg : Int} {L : List Bk} {m : Nat} (h : ∀ i, i < m → OkAt kk ks km ko lg i (L[i]?.getD bk0)) : allAt kk ks km ko lg L m = true :=
  List.all_eq_true.2 fun i hi => decide_eq_true (h i (List.mem_range.1 hi))
/-- What is kept is right. -/
theorem okS_of {kk km ko : Int} {s : Nat} {L : List Int} (hK : OkK kk (s : Int) km ko) (hl : L.length ≤ 4096) (hO : OkO kk km ko L.length s L (nbk s L.length)) :
    OkS kk (s : Int) km ko L.length (ofL kk km ko L.length s L (nbk s L.length)) := by
  have hs : 1 ≤ s := by have := hK.2.1; omega
  refine ⟨hK, by omega, by rw [ofL_len, nbk_int hs], ?_⟩
  rw [ofL_len]
  refine allAt_all fun i hi => ?_
  rw [ofL_at hi]
  have hc := cutL_len s L i
  have hlt := (nbk_lt hs).1 hi
  refine ⟨ofB_ok _ (hO i hi) (by omega), ?_, ?_⟩
  · have h1 := ofB_len (kk := kk) (km := km) (ko := ko) (lg := (L.length : Int)) (cutL s L i)
    rw [hc] at h1
    have e : (i : Int) * (s : Int) = ((i * s : Nat) : Int) := by rw [Int.natCast_mul]
    rw [e]
    generalize i * s = t at *
    omega
  · rcases kdB_cases (km := km) (ko := ko) (lg := (L.length : Int)) hK.1 (cutL s L i) with ⟨h1, h2⟩ | ⟨h1, h2, h3⟩
    · rw [if_pos (show (ofB kk km ko L.length (cutL s L i)).1 = 4 from h1)]
      show Wd km ko L.length (gr (pkW (kdB kk km ko L.length (cutL s L i)) (cutL s L i)))
      rw [h1]; unfold pkW; rw [if_pos rfl]; exact h2
    · rw [if_neg (show ¬ (ofB kk km ko L.length (cutL s L i)).1 = 4 from fun e => h2 (by rw [← h1]; exact e))]
      refine ⟨h1, ?_⟩
      show ¬ Wd km ko L.length (pkS (kdB kk km ko L.length (cutL s L i)) (cutL s L i))
      rw [h1]; unfold pkS; rw [if_neg h2]; exact h3
/-- What a block is loaded as. -/
def ldX (x : Bk) : List Int := ldB x.1 x.2.1 x.2.2.1 x.2.2.2
theorem ldX_len {x : Bk} (h : OkX x) : (ldX x).length = x.2.2.1.length + x.2.2.2.length := (ldB_len h).1
theorem ofB_ldlen {kk km ko lg : Int} {p : List Int} (h : OkP (kdB kk km ko lg p) p) (hl : p.length ≤ 4096) : (ldX (ofB kk km ko lg p)).length = p.length := by
  rw [ldX_len (ofB_ok p h hl), ofB_len]
section
variable {kk km ko lg : Int} {s : Nat} {L : List Int} {m : Nat}
theorem ldS_of (hs : 1 ≤ s) (hs2 : s ≤ 4096) (hm : m ≤ nbk s L.length) (hO : OkO kk km ko lg s L m) : ∀ i, i ≤ m →
    (ldS (ofL kk km ko lg s L m) i).length = min (i * s) L.length ∧ ∀ j, j < min (i * s) L.length → (ldS (ofL kk km ko lg s L m) i)[j]? = (ldX (ofB kk km ko lg (cutL s L (j / s))))[j % s]?
  | 0, _ => by simp [ldS]
  | i + 1, hi => by
    obtain ⟨ih1, ih2⟩ := ldS_of hs hs2 hm hO i (by omega)
    have hlt := (nbk_lt (s := s) (n := L.length) (i := i) hs).1 (by omega)
    have hc := cutL_len s L i
    have hx := ofB_ldlen (hO i (by omega)) (by omega)
    have e : (i + 1) * s = i * s + s := by rw [Nat.add_mul, Nat.one_mul]
    have hst : ldS (ofL kk km ko lg s L m) (i + 1) = ldS (ofL kk km ko lg s L m) i ++ ldX (ofB kk km ko lg (cutL s L i)) := by
      show _ ++ ldX ((ofL kk km ko lg s L m)[i]?.getD bk0) = _
      rw [ofL_at (by omega)]
    rw [hst, e]
    have hq : ∀ j, i * s ≤ j → j < i * s + s → j / s = i ∧ j % s = j - i * s := by
      intro j h1 h2
      have e1 : j / s = i := by
        apply Nat.div_eq_of_lt_le
        · exact h1
        · rw [Nat.add_mul, Nat.one_mul]; exact h2
      refine ⟨e1, ?_⟩
      have := Nat.div_add_mod j s
      rw [e1, Nat.mul_comm] at this
      omega
    generalize i * s = t at *
    refine ⟨by rw [List.length_append, ih1, hx, hc]; omega, fun j hj => ?_⟩
    rcases Nat.lt_or_ge j (min t L.length) with h | h
    · rw [List.getElem?_append_left (by rw [ih1]; exact h)]
      exact ih2 j h
    · obtain ⟨e1, e2⟩ := hq j (by omega) (by omega)
      rw [List.getElem?_append_right (by rw [ih1]; exact h), ih1, e1, e2]
      congr 1
      omega
theorem ldS_len_of (hs : 1 ≤ s) (hs2 : s ≤ 4096) (hO : OkO kk km ko lg s L (nbk s L.length)) : (ldS (ofL kk km ko lg s L (nbk s L.length)) (nbk s L.length)).length = L.length := by
  rw [(ldS_of hs hs2 (Nat.le_refl _) hO _ (Nat.le_refl _)).1]
  have := (nbk_lt (s := s) (n := L.length) (i := nbk s L.length) hs)
  omega
theorem ldS_at_of (hs : 1 ≤ s) (hs2 : s ≤ 4096) (hO : OkO kk km ko lg s L (nbk s L.length)) {j : Nat} (hj : j < L.length) :
    (ldS (ofL kk km ko lg s L (nbk s L.length)) (nbk s L.length))[j]?.getD 0 = (ldX (ofB kk km ko lg (cutL s L (j / s))))[j % s]?.getD 0 := by
  have h := ldS_of hs hs2 (Nat.le_refl _) hO _ (Nat.le_refl _)
  have h2 := (nbk_lt (s := s) (n := L.length) (i := nbk s L.length) hs)
  rw [h.2 j (by omega)]
end
/-- What a block costs. -/
def cst (x : Bk) : Nat := if x.1 = 4 then 8 * x.2.2.2.length else x.2.2.1.length + 8
def cstS (L : List Bk) : Nat → Nat
  | 0 => 0
  | i + 1 => cstS L i + cst (L[i]?.getD bk0)
theorem fc_eq {L : List Bk} {B : Nat} (hB : B ≤ 1000000) : ∀ i, (∀ j, j < i → cst (L[j]?.getD bk0) ≤ B) → i ≤ 1000000 → fc L i = ((cstS L i : Nat) : Int) ∧ cstS L i ≤ B * i
  | 0, _, _ => by simp [fc, cstS]
  | i + 1, h, hi => by
    obtain ⟨ih, ih2⟩ := fc_eq hB i (fun j hj => h j (by omega)) (by omega)
    have h1 := h i (by omega)
    have hmul : B * i ≤ 1000000 * 1000000 := Nat.mul_le_mul hB (by omega)
    have hB2 : B * (i + 1) = B * i + B := by rw [Nat.mul_add, Nat.mul_one]
    have hle : cstS L (i + 1) ≤ B * (i + 1) := by show cstS L i + cst _ ≤ _; omega
    refine ⟨?_, hle⟩
    show (if (L[i]?.getD bk0).1 = 4 then _ else _) = ((cstS L i + cst (L[i]?.getD bk0) : Nat) : Int)
    unfold cst at h1 ⊢
    rw [ih]
    by_cases h4 : (L[i]?.getD bk0).1 = 4
    · rw [if_pos h4] at h1 ⊢
      rw [if_pos h4, IntWalk.i64_in (8 * _) (by omega), IntWalk.i64_in _ (by omega)]
      omega
    · rw [if_neg h4] at h1 ⊢
      rw [if_neg h4, IntWalk.i64_in (((cstS L i : Nat) : Int) + ((L[i]?.getD bk0).2.2.1.length : Int)) (by omega), IntWalk.i64_in _ (by omega)]
      omega
/-- Is one of the first i blocks wide? -/
def wdS (L : List Bk) (i : Nat) : Bool := anyK (fun x : Bk => decide (x.1 = 4)) L i
section
variable {kk km ko lg : Int} {s : Nat} {L : List Int}
theorem cst_of (hk : 0 ≤ kk ∧ kk ≤ 3) (p : List Int) : cst (ofB kk km ko lg p) = if Wd km ko lg (gr p) then 8 * p.length else p.length + 8 := by
  unfold cst
  rcases kdB_cases (km := km) (ko := ko) (lg := lg) hk p with ⟨h1, h2⟩ | ⟨h1, h2, h3⟩
  · rw [if_pos (show (ofB kk km ko lg p).1 = 4 from h1), if_pos h2]
    show 8 * (pkW (kdB kk km ko lg p) p).length = _
    rw [h1]; rfl
  · rw [if_neg (show ¬ (ofB kk km ko lg p).1 = 4 from fun e => h2 (by rw [← h1]; exact e)), if_neg h3]
    show (pkC (kdB kk km ko lg p) p).length + 8 = _
    rw [h1]; unfold pkC; rw [if_neg h2, List.length_map]
theorem cstS_of (hk : 0 ≤ kk ∧ kk ≤ 3) (m : Nat) : ∀ i, i ≤ m → cstS (ofL kk km ko lg s L m) i ≤ 8 * min (i * s) L.length + 8 * i ∧ ((∀ j, j < i → ¬ Wd km ko lg (gr (cutL s L j))) → cstS (ofL kk km ko lg s L m) i = min (i * s) L.length + 8 * i)
  | 0, _ => by simp [cstS]
  | i + 1, hi => by
    obtain ⟨ih1, ih2⟩ := cstS_of hk m i (by omega)
    have hc := cutL_len s L i
    have e : (i + 1) * s = i * s + s := by rw [Nat.add_mul, Nat.one_mul]
    have h1 : cstS (ofL kk km ko lg s L m) (i + 1) = cstS (ofL kk km ko lg s L m) i + cst (ofB kk km ko lg (cutL s L i)) := by
      show _ + cst ((ofL kk km ko lg s L m)[i]?.getD bk0) = _
      rw [ofL_at (by omega)]
    have h2 := cst_of (km := km) (ko := ko) (lg := lg) hk (cutL s L i)
    rw [h1, e]
    generalize i * s = t at *
    refine ⟨by rw [h2]; split <;> omega, fun hn => ?_⟩
    rw [ih2 (fun j hj => hn j (by omega)), h2, if_neg (hn i (by omega))]
    omega
end
section
variable {kk km ko : Int} {s q : Nat} {a b : List Int}
end
end Go.Proofs.YtpidpebgeblenaaGreat

/-
  The contracts of the landed tens: May, isWide.
-/
namespace Go.Proofs.YtpidpebgeblenaaGreat
set_option maxRecDepth 100000
set_option maxHeartbeats 8000000
open Go.RowKit
set_option linter.unusedVariables false
set_option linter.unusedSimpArgs false

theorem okB_nil {k : Int} (h : ¬ k = 4) : OkB k 0 [] [] ↔ (0 ≤ k ∧ k ≤ 3) := by
  unfold OkB OkC Kind9
  constructor
  · rintro (h1 | h1)
    · have := h1.1; omega
    · exact absurd h1.1 h
  · intro h1
    exact .inl ⟨by omega, by simp, rfl, .inl ⟨rfl, by simp⟩⟩

theorem tnCoded_w (w : World) : Calls Tryz.prog 25 #[.int .i64 4] w (GotV w (.bool false)) := by
  have cc := Below.refl w.heap.size w
  go_enter Tryz.func25, Tryz.ntmps25
  go_wp2_with fail
  go_ret
  exact ⟨rfl, cc⟩

theorem tnCoded_o (w : World) {k : Int} (h : ¬ k = 4) : Calls Tryz.prog 25 #[.int .i64 k] w (GotV w (.bool (decide (0 ≤ k ∧ k ≤ 3)))) := by
  have e : decide (0 ≤ k ∧ k ≤ 3) = decide (OkB k 0 [] []) := decide_eq_decide.2 (okB_nil h).symm
  rw [e]
  have CR := fun W : World => bkRight_N (k := k) (s := 0) (BR.nil W none 0) (IR.nil W none 0) (by omega) (by omega)
  have t0 : (k == 4) = false := beq_eq_false_iff_ne.2 h
  have t1 : (k != 4) = true := by simp; exact h
  generalize decide (OkB k 0 [] []) = r at *
  have cc := Below.refl w.heap.size w
  go_enter Tryz.func25, Tryz.ntmps25
  go_wp2_with fail
  refine (CR _).mono ?_
  rintro e w1 ⟨rfl, b⟩
  replace cc := bK cc b
  clear b
  go_wp2_with fail
  go_ret
  exact ⟨rfl, cc⟩

theorem tnCoded_N (w : World) {k : Int} : Calls Tryz.prog 25 #[.int .i64 k] w (GotV w (.bool (decide (0 ≤ k ∧ k ≤ 3)))) := by
  by_cases h : k = 4
  · subst h; rw [decide_eq_false (by omega)]; exact tnCoded_w w
  · exact tnCoded_o w h

theorem tnMay_0 {w : World} {kk ks km ko : Int} (q0 : ¬ (0 ≤ kk ∧ kk ≤ 3)) :
    Calls Tryz.prog 9 #[.agg #[.int .i64 kk, .int .i64 ks, .int .i64 km, .int .i64 ko]] w (GotV w (.bool false)) := by
  have CD : ∀ W : World, Calls Tryz.prog 25 #[.int .i64 kk] W (GotV W (.bool false)) := fun W => by have h := tnCoded_N W (k := kk); rw [decide_eq_false q0] at h; exact h
  clear q0
  have cc := Below.refl w.heap.size w
  go_enter Tryz.func9, Tryz.ntmps9
  go_upto_region 1 with fail
  generalize hv_ : w.alloc (.cells #[.int .i64 kk, .int .i64 ks, .int .i64 km, .int .i64 ko] 23) = v1
  have bA : Below w.heap.size w v1 := by rw [← hv_]; exact ((Below.refl _ w).alloc (by simp) _)
  replace cc := bK cc bA
  clear bA
  have pa0 : v1.cell? ⟨w.heap.size, 0, none⟩ = some (.int .i64 kk) := by simp [← hv_, go_sem]
  have pa1 : v1.cell? ⟨w.heap.size, 1, none⟩ = some (.int .i64 ks) := by simp [← hv_, go_sem]
  have pa2 : v1.cell? ⟨w.heap.size, 2, none⟩ = some (.int .i64 km) := by simp [← hv_, go_sem]
  have pa3 : v1.cell? ⟨w.heap.size, 3, none⟩ = some (.int .i64 ko) := by simp [← hv_, go_sem]
  have pal : w.heap.size < v1.heap.size := by simp [← hv_] <;> omega
  clear hv_
  go_wp2_with fail
  refine (CD _).mono ?_
  rintro e w2 ⟨rfl, b⟩
  rewrite [cR b pal] at pa0 pa1 pa2 pa3
  replace pal := lK b pal
  replace cc := bK cc b
  clear b
  go_wp2_with fail
  go_ret
  exact ⟨rfl, cc⟩

theorem tnMay_1 {w : World} {kk ks km ko : Int} (q0 : 0 ≤ kk ∧ kk ≤ 3) (q1 : ¬ (1 ≤ ks)) :
    Calls Tryz.prog 9 #[.agg #[.int .i64 kk, .int .i64 ks, .int .i64 km, .int .i64 ko]] w (GotV w (.bool false)) := by
  have CD : ∀ W : World, Calls Tryz.prog 25 #[.int .i64 kk] W (GotV W (.bool true)) := fun W => by have h := tnCoded_N W (k := kk); rw [decide_eq_true q0] at h; exact h
  have t1 : decide (1 ≤ ks) = false := decide_eq_false (by omega)
  clear q0 q1
  have cc := Below.refl w.heap.size w
  go_enter Tryz.func9, Tryz.ntmps9
  go_upto_region 1 with fail
  generalize hv_ : w.alloc (.cells #[.int .i64 kk, .int .i64 ks, .int .i64 km, .int .i64 ko] 23) = v1
  have bA : Below w.heap.size w v1 := by rw [← hv_]; exact ((Below.refl _ w).alloc (by simp) _)
  replace cc := bK cc bA
  clear bA
  have pa0 : v1.cell? ⟨w.heap.size, 0, none⟩ = some (.int .i64 kk) := by simp [← hv_, go_sem]
  have pa1 : v1.cell? ⟨w.heap.size, 1, none⟩ = some (.int .i64 ks) := by simp [← hv_, go_sem]
  have pa2 : v1.cell? ⟨w.heap.size, 2, none⟩ = some (.int .i64 km) := by simp [← hv_, go_sem]
  have pa3 : v1.cell? ⟨w.heap.size, 3, none⟩ = some (.int .i64 ko) := by simp [← hv_, go_sem]
  have pal : w.heap.size < v1.heap.size := by simp [← hv_] <;> omega
  clear hv_
  go_wp2_with fail
  refine (CD _).mono ?_
  rintro e w2 ⟨rfl, b⟩
  rewrite [cR b pal] at pa0 pa1 pa2 pa3
  replace pal := lK b pal
  replace cc := bK cc b
  clear b
  go_wp2_with fail
  go_ret
  exact ⟨rfl, cc⟩

theorem tnMay_2 {w : World} {kk ks km ko : Int} (q0 : 0 ≤ kk ∧ kk ≤ 3) (q1 : 1 ≤ ks) (q2 : ¬ (ks ≤ 4096)) :
    Calls Tryz.prog 9 #[.agg #[.int .i64 kk, .int .i64 ks, .int .i64 km, .int .i64 ko]] w (GotV w (.bool false)) := by
  have CD : ∀ W : World, Calls Tryz.prog 25 #[.int .i64 kk] W (GotV W (.bool true)) := fun W => by have h := tnCoded_N W (k := kk); rw [decide_eq_true q0] at h; exact h
  have t1 : decide (1 ≤ ks) = true := decide_eq_true (by omega)
  have t2 : decide (ks ≤ 4096) = false := decide_eq_false (by omega)
  clear q0 q1 q2
  have cc := Below.refl w.heap.size w
  go_enter Tryz.func9, Tryz.ntmps9
  go_upto_region 1 with fail
  generalize hv_ : w.alloc (.cells #[.int .i64 kk, .int .i64 ks, .int .i64 km, .int .i64 ko] 23) = v1
  have bA : Below w.heap.size w v1 := by rw [← hv_]; exact ((Below.refl _ w).alloc (by simp) _)
  replace cc := bK cc bA
  clear bA
  have pa0 : v1.cell? ⟨w.heap.size, 0, none⟩ = some (.int .i64 kk) := by simp [← hv_, go_sem]
  have pa1 : v1.cell? ⟨w.heap.size, 1, none⟩ = some (.int .i64 ks) := by simp [← hv_, go_sem]
  have pa2 : v1.cell? ⟨w.heap.size, 2, none⟩ = some (.int .i64 km) := by simp [← hv_, go_sem]
  have pa3 : v1.cell? ⟨w.heap.size, 3, none⟩ = some (.int .i64 ko) := by simp [← hv_, go_sem]
  have pal : w.heap.size < v1.heap.size := by simp [← hv_] <;> omega
  clear hv_
  go_wp2_with fail
  refine (CD _).mono ?_
  rintro e w2 ⟨rfl, b⟩
  rewrite [cR b pal] at pa0 pa1 pa2 pa3
  replace pal := lK b pal
  replace cc := bK cc b
  clear b
  go_wp2_with fail
  go_ret
  exact ⟨rfl, cc⟩

theorem tnMay_3 {w : World} {kk ks km ko : Int} (q0 : 0 ≤ kk ∧ kk ≤ 3) (q1 : 1 ≤ ks) (q2 : ks ≤ 4096) (q3 : ¬ (0 ≤ km)) :
    Calls Tryz.prog 9 #[.agg #[.int .i64 kk, .int .i64 ks, .int .i64 km, .int .i64 ko]] w (GotV w (.bool false)) := by
  have CD : ∀ W : World, Calls Tryz.prog 25 #[.int .i64 kk] W (GotV W (.bool true)) := fun W => by have h := tnCoded_N W (k := kk); rw [decide_eq_true q0] at h; exact h
  have t1 : decide (1 ≤ ks) = true := decide_eq_true (by omega)
  have t2 : decide (ks ≤ 4096) = true := decide_eq_true (by omega)
  have t3 : decide (0 ≤ km) = false := decide_eq_false (by omega)
  clear q0 q1 q2 q3
  have cc := Below.refl w.heap.size w
  go_enter Tryz.func9, Tryz.ntmps9
  go_upto_region 1 with fail
  generalize hv_ : w.alloc (.cells #[.int .i64 kk, .int .i64 ks, .int .i64 km, .int .i64 ko] 23) = v1
  have bA : Below w.heap.size w v1 := by rw [← hv_]; exact ((Below.refl _ w).alloc (by simp) _)
  replace cc := bK cc bA
  clear bA
  have pa0 : v1.cell? ⟨w.heap.size, 0, none⟩ = some (.int .i64 kk) := by simp [← hv_, go_sem]
  have pa1 : v1.cell? ⟨w.heap.size, 1, none⟩ = some (.int .i64 ks) := by simp [← hv_, go_sem]
  have pa2 : v1.cell? ⟨w.heap.size, 2, none⟩ = some (.int .i64 km) := by simp [← hv_, go_sem]
  have pa3 : v1.cell? ⟨w.heap.size, 3, none⟩ = some (.int .i64 ko) := by simp [← hv_, go_sem]
  have pal : w.heap.size < v1.heap.size := by simp [← hv_] <;> omega
  clear hv_
  go_wp2_with fail
  refine (CD _).mono ?_
  rintro e w2 ⟨rfl, b⟩
  rewrite [cR b pal] at pa0 pa1 pa2 pa3
  replace pal := lK b pal
  replace cc := bK cc b
  clear b
  go_wp2_with fail
  go_ret
  exact ⟨rfl, cc⟩

theorem tnMay_4 {w : World} {kk ks km ko : Int} (q0 : 0 ≤ kk ∧ kk ≤ 3) (q1 : 1 ≤ ks) (q2 : ks ≤ 4096) (q3 : 0 ≤ km) (q4 : ¬ (0 ≤ ko)) :
    Calls Tryz.prog 9 #[.agg #[.int .i64 kk, .int .i64 ks, .int .i64 km, .int .i64 ko]] w (GotV w (.bool false)) := by
  have CD : ∀ W : World, Calls Tryz.prog 25 #[.int .i64 kk] W (GotV W (.bool true)) := fun W => by have h := tnCoded_N W (k := kk); rw [decide_eq_true q0] at h; exact h
  have t1 : decide (1 ≤ ks) = true := decide_eq_true (by omega)
  have t2 : decide (ks ≤ 4096) = true := decide_eq_true (by omega)
  have t3 : decide (0 ≤ km) = true := decide_eq_true (by omega)
  have t4 : decide (0 ≤ ko) = false := decide_eq_false (by omega)
  clear q0 q1 q2 q3 q4
  have cc := Below.refl w.heap.size w
  go_enter Tryz.func9, Tryz.ntmps9
  go_upto_region 1 with fail
  generalize hv_ : w.alloc (.cells #[.int .i64 kk, .int .i64 ks, .int .i64 km, .int .i64 ko] 23) = v1
  have bA : Below w.heap.size w v1 := by rw [← hv_]; exact ((Below.refl _ w).alloc (by simp) _)
  replace cc := bK cc bA
  clear bA
  have pa0 : v1.cell? ⟨w.heap.size, 0, none⟩ = some (.int .i64 kk) := by simp [← hv_, go_sem]
  have pa1 : v1.cell? ⟨w.heap.size, 1, none⟩ = some (.int .i64 ks) := by simp [← hv_, go_sem]
  have pa2 : v1.cell? ⟨w.heap.size, 2, none⟩ = some (.int .i64 km) := by simp [← hv_, go_sem]
  have pa3 : v1.cell? ⟨w.heap.size, 3, none⟩ = some (.int .i64 ko) := by simp [← hv_, go_sem]
  have pal : w.heap.size < v1.heap.size := by simp [← hv_] <;> omega
  clear hv_
  go_wp2_with fail
  refine (CD _).mono ?_
  rintro e w2 ⟨rfl, b⟩
  rewrite [cR b pal] at pa0 pa1 pa2 pa3
  replace pal := lK b pal
  replace cc := bK cc b
  clear b
  go_wp2_with fail
  go_ret
  exact ⟨rfl, cc⟩

theorem tnMay_5 {w : World} {kk ks km ko : Int} (q0 : 0 ≤ kk ∧ kk ≤ 3) (q1 : 1 ≤ ks) (q2 : ks ≤ 4096) (q3 : 0 ≤ km) (q4 : 0 ≤ ko) :
    Calls Tryz.prog 9 #[.agg #[.int .i64 kk, .int .i64 ks, .int .i64 km, .int .i64 ko]] w (GotV w (.bool true)) := by
  have CD : ∀ W : World, Calls Tryz.prog 25 #[.int .i64 kk] W (GotV W (.bool true)) := fun W => by have h := tnCoded_N W (k := kk); rw [decide_eq_true q0] at h; exact h
  have t1 : decide (1 ≤ ks) = true := decide_eq_true (by omega)
  have t2 : decide (ks ≤ 4096) = true := decide_eq_true (by omega)
  have t3 : decide (0 ≤ km) = true := decide_eq_true (by omega)
  have t4 : decide (0 ≤ ko) = true := decide_eq_true (by omega)
  clear q0 q1 q2 q3 q4
  have cc := Below.refl w.heap.size w
  go_enter Tryz.func9, Tryz.ntmps9
  go_upto_region 1 with fail
  generalize hv_ : w.alloc (.cells #[.int .i64 kk, .int .i64 ks, .int .i64 km, .int .i64 ko] 23) = v1
  have bA : Below w.heap.size w v1 := by rw [← hv_]; exact ((Below.refl _ w).alloc (by simp) _)
  replace cc := bK cc bA
  clear bA
  have pa0 : v1.cell? ⟨w.heap.size, 0, none⟩ = some (.int .i64 kk) := by simp [← hv_, go_sem]
  have pa1 : v1.cell? ⟨w.heap.size, 1, none⟩ = some (.int .i64 ks) := by simp [← hv_, go_sem]
  have pa2 : v1.cell? ⟨w.heap.size, 2, none⟩ = some (.int .i64 km) := by simp [← hv_, go_sem]
  have pa3 : v1.cell? ⟨w.heap.size, 3, none⟩ = some (.int .i64 ko) := by simp [← hv_, go_sem]
  have pal : w.heap.size < v1.heap.size := by simp [← hv_] <;> omega
  clear hv_
  go_wp2_with fail
  refine (CD _).mono ?_
  rintro e w2 ⟨rfl, b⟩
  rewrite [cR b pal] at pa0 pa1 pa2 pa3
  replace pal := lK b pal
  replace cc := bK cc b
  clear b
  go_wp2_with fail
  go_ret
  exact ⟨rfl, cc⟩

theorem tnMayA_N (w : World) {kk ks km ko : Int} : Calls Tryz.prog 9 #[.agg #[.int .i64 kk, .int .i64 ks, .int .i64 km, .int .i64 ko]] w (GotV w (.bool (decide (OkK kk ks km ko)))) := by
  by_cases q0 : 0 ≤ kk ∧ kk ≤ 3
  rotate_left
  · rw [decide_eq_false (fun h => by unfold OkK at h; omega)]; exact tnMay_0 q0
  by_cases q1 : 1 ≤ ks
  rotate_left
  · rw [decide_eq_false (fun h => by unfold OkK at h; omega)]; exact tnMay_1 q0 q1
  by_cases q2 : ks ≤ 4096
  rotate_left
  · rw [decide_eq_false (fun h => by unfold OkK at h; omega)]; exact tnMay_2 q0 q1 q2
  by_cases q3 : 0 ≤ km
  rotate_left
  · rw [decide_eq_false (fun h => by unfold OkK at h; omega)]; exact tnMay_3 q0 q1 q2 q3
  by_cases q4 : 0 ≤ ko
  rotate_left
  · rw [decide_eq_false (fun h => by unfold OkK at h; omega)]; exact tnMay_4 q0 q1 q2 q3 q4
  rw [decide_eq_true (show OkK kk ks km ko from ⟨q0, ⟨q1, q2⟩, q3, q4⟩)]
  exact tnMay_5 q0 q1 q2 q3 q4

theorem tnPred_a {w : World} {b : Nat} {x ko : Int} (h3 : w.cell? ⟨b, 3, none⟩ = some (.int .i64 ko)) (h0 : 0 < ko ∧ ko ≤ 9223372036854775807) (q : ko < x) : Calls Tryz.prog 47 #[.int .i64 x, .pointer (some ⟨b, 0, none⟩)] w (GotV w (.bool true)) := by
  have t0 : decide (ko < x) = true := decide_eq_true (by omega)
  have k0 : IntKind.i64.wrap (-ko) = -ko := by rw [IntWalk.i64_in _ (by omega)]
  have k1 : wrap64 (-ko) = -ko := IntWalk.wrap64_in _ (by omega)
  clear h0 q
  have cc := Below.refl w.heap.size w
  go_enter Tryz.func47, Tryz.ntmps47
  go_wp2_with fail
  go_ret
  exact ⟨rfl, cc⟩

theorem tnPred_b {w : World} {b : Nat} {x ko : Int} (h3 : w.cell? ⟨b, 3, none⟩ = some (.int .i64 ko)) (h0 : 0 < ko ∧ ko ≤ 9223372036854775807) (q : ¬ ko < x) (q2 : x < -ko) : Calls Tryz.prog 47 #[.int .i64 x, .pointer (some ⟨b, 0, none⟩)] w (GotV w (.bool true)) := by
  have t0 : decide (ko < x) = false := decide_eq_false (by omega)
  have t1 : decide (x < -ko) = true := decide_eq_true (by omega)
  have k0 : IntKind.i64.wrap (-ko) = -ko := by rw [IntWalk.i64_in _ (by omega)]
  have k1 : wrap64 (-ko) = -ko := IntWalk.wrap64_in _ (by omega)
  clear h0 q q2
  have cc := Below.refl w.heap.size w
  go_enter Tryz.func47, Tryz.ntmps47
  go_wp2_with fail
  go_ret
  exact ⟨rfl, cc⟩

theorem tnPred_c {w : World} {b : Nat} {x ko : Int} (h3 : w.cell? ⟨b, 3, none⟩ = some (.int .i64 ko)) (h0 : 0 < ko ∧ ko ≤ 9223372036854775807) (q : ¬ ko < x) (q2 : ¬ x < -ko) : Calls Tryz.prog 47 #[.int .i64 x, .pointer (some ⟨b, 0, none⟩)] w (GotV w (.bool false)) := by
  have t0 : decide (ko < x) = false := decide_eq_false (by omega)
  have t1 : decide (x < -ko) = false := decide_eq_false (by omega)
  have k0 : IntKind.i64.wrap (-ko) = -ko := by rw [IntWalk.i64_in _ (by omega)]
  have k1 : wrap64 (-ko) = -ko := IntWalk.wrap64_in _ (by omega)
  clear h0 q q2
  have cc := Below.refl w.heap.size w
  go_enter Tryz.func47, Tryz.ntmps47
  go_wp2_with fail
  go_ret
  exact ⟨rfl, cc⟩

theorem tnPred_N {w : World} {b : Nat} {x ko : Int} (h3 : w.cell? ⟨b, 3, none⟩ = some (.int .i64 ko)) (h0 : 0 < ko ∧ ko ≤ 9223372036854775807) : Calls Tryz.prog 47 #[.int .i64 x, .pointer (some ⟨b, 0, none⟩)] w (GotV w (.bool (decide (ko < x ∨ ko < -x)))) := by
  by_cases q : ko < x
  · rw [decide_eq_true (.inl q)]; exact tnPred_a h3 h0 q
  · by_cases q2 : x < -ko
    · rw [decide_eq_true (.inr (by omega))]; exact tnPred_b h3 h0 q q2
    · rw [decide_eq_false (by omega)]; exact tnPred_c h3 h0 q q2

theorem any_pre {F : Int → Bool} {L : List Int} (h : ∀ j, j < L.length → F (L[j]?.getD 0) = false) : L.any F = false := by
  rw [List.any_eq_false]
  intro x hx
  obtain ⟨j, hj, rfl⟩ := at_mem 0 hx
  rw [h j hj]; simp

theorem tnIndex_N {w : World} {b : Nat} {F : Int → Bool} {A : Option Addr} {n c : Nat} {L : List Int} (hA : IR w A n c L) (hn : n ≤ 9223372036854775807) (hf : ∀ (W : World) (x : Int), Below w.heap.size w W → Calls Tryz.prog 47 #[.int .i64 x, .pointer (some ⟨b, 0, none⟩)] W (GotV W (.bool (F x)))) : Calls Tryz.prog 55 #[.slice A n c, .func (.func 47) #[] #[.pointer (some ⟨b, 0, none⟩)]] w (fun e w' => ∃ v, e = .returned (.int .i64 v) ∧ decide (0 ≤ v) = L.any F ∧ Below w.heap.size w w') := by
  have HN := Lib.hid hn
  have HLN := Lib.hid hA.1
  have HAV := Lib.hid hA
  clear hn
  have cc := Below.refl w.heap.size w
  go_enter Tryz.func55, Tryz.ntmps55
  go_wp2_with fail
  go_loopw [8] (fun iv wr => ∃ i : Nat, i ≤ n ∧ iv = .int .i64 (i : Int) ∧ (∀ j, j < i → F (L[j]?.getD 0) = false) ∧ Below w.heap.size w wr) (fun iv _ => n - (intOf iv).toNat)
  case atStart => exact ⟨0, by omega, rfl, fun j h => absurd h (by omega), cc⟩
  case round =>
    clear cc hA
    obtain ⟨i, hi, rfl, hj, cc⟩ := hrel
    by_cases hlt : i < n
    · have hA := HAV.out.on cc
      obtain ⟨b2, o2, rfl, hb2_, hc2⟩ := HAV.out.2.2 (by omega)
      have e1 := hA.cell hlt
      obtain ⟨x, hx⟩ : ∃ x, L[i]?.getD 0 = x := ⟨_, rfl⟩
      rw [hx] at e1
      have CF := hf wr x cc
      have k3 : IntKind.i64.wrap ((i : Int) + 1) = ((i + 1 : Nat) : Int) := by rw [IntWalk.i64_in _ (by have := HN.out; omega)]; omega
      have jl : (i : Int) < (n : Int) := by omega
      have HX := Lib.hid hx
      cases tx : F x with
      | true =>
        rw [tx] at CF
        have HY : Hid (L.any F = true) := Lib.hid (List.any_eq_true.2 ⟨x, by rw [← hx]; exact mem_at (by rw [← HLN.out]; exact hlt), tx⟩)
        have k4 : (0 : Int) ≤ (i : Int) := by omega
        clear hf hc2 hA hj hb2_ hx tx
        go_wp2_with fail
        refine CF.mono ?_
        rintro e w1 ⟨rfl, q⟩
        replace cc := bK cc q
        clear q
        go_wp2_with fail
        go_ret
        exact ⟨_, rfl, by rw [HY.out]; exact decide_eq_true (by omega), cc⟩
      | false =>
        rw [tx] at CF
        have HJ : Hid (∀ j, j < i + 1 → F (L[j]?.getD 0) = false) := Lib.hid (fun j h => by
          rcases Nat.lt_or_ge j i with e | e
          · exact hj j e
          · have e2 : j = i := by omega
            rw [e2, hx]; exact tx)
        clear hf hc2 hA hj hb2_ hx tx
        go_wp2_with fail
        refine CF.mono ?_
        rintro e w1 ⟨rfl, q⟩
        replace cc := bK cc q
        clear q
        go_wp2_with fail
        go_roundw
        case rel => exact ⟨i + 1, by omega, by go_num, HJ.out, cc⟩
        case measure => simp [intOf] <;> omega
    · obtain rfl : i = n := by omega
      have HY : Hid (L.any F = false) := Lib.hid (any_pre (by rw [← HLN.out]; exact hj))
      clear hj hf
      go_wp2_with fail
      go_ret
      exact ⟨_, rfl, by rw [HY.out]; rfl, cc⟩

theorem tnCont_N {w : World} {b : Nat} {F : Int → Bool} {A : Option Addr} {n c : Nat} {L : List Int} (hA : IR w A n c L) (hn : n ≤ 9223372036854775807) (hf : ∀ (W : World) (x : Int), Below w.heap.size w W → Calls Tryz.prog 47 #[.int .i64 x, .pointer (some ⟨b, 0, none⟩)] W (GotV W (.bool (F x)))) : Calls Tryz.prog 46 #[.slice A n c, .func (.func 47) #[] #[.pointer (some ⟨b, 0, none⟩)]] w (GotV w (.bool (L.any F))) := by
  have CI := fun {W : World} (h : IR W A n c L) (b : Below w.heap.size w W) => tnIndex_N h hn (fun V x q => hf V x (b.trans (q.mono b.size)))
  have hA0 := hA
  clear hf hn
  have cc := Below.refl w.heap.size w
  go_enter Tryz.func46, Tryz.ntmps46
  go_wp2_with fail
  refine (CI hA0 cc).mono ?_
  rintro e w1 ⟨v, rfl, hv, b⟩
  replace cc := bK cc b
  have HV := Lib.hid hv
  clear b hv CI
  go_wp2_with fail
  go_ret
  exact ⟨by rw [← HV.out]; rfl, cc⟩

theorem any_gr {ko : Int} (h0 : 0 < ko) (L : List Int) : L.any (fun x => decide (ko < x ∨ ko < -x)) = decide (ko < gr L) := by
  by_cases h : ko < gr L
  · rw [decide_eq_true h]
    by_cases h2 : L.any (fun x => decide (ko < x ∨ ko < -x)) = true
    · exact h2
    · exfalso
      have h3 := Bool.eq_false_iff.2 h2
      rw [List.any_eq_false] at h3
      have := gr_le (L := L) (s := ko) (by omega) (fun j hj => by
        have := h3 _ (mem_at (d := 0) hj)
        rw [decide_eq_true_eq] at this
        omega)
      omega
  · rw [decide_eq_false h, List.any_eq_false]
    intro x hx
    have := gr_mem hx
    rw [decide_eq_true_eq]
    omega

theorem tnWide_a {w : World} {kk ks km ko lg : Int} {A : Option Addr} {n c : Nat} {L : List Int} (hA : IR w A n c L) (hn : n ≤ 9223372036854775807) (hk : I64 ko) (q0 : lg < km) :
    Calls Tryz.prog 34 #[.agg #[.int .i64 kk, .int .i64 ks, .int .i64 km, .int .i64 ko], .int .i64 lg, .slice A n c] w (GotV w (.bool (true))) := by
  have t0 : decide (lg < km) = true := decide_eq_true (by omega)
  clear hn hk q0
  have cc := Below.refl w.heap.size w
  go_enter Tryz.func34, Tryz.ntmps34
  go_upto_region 1 with fail
  generalize hv_ : w.alloc (.cells #[.int .i64 kk, .int .i64 ks, .int .i64 km, .int .i64 ko] 23) = v1
  have bA : Below w.heap.size w v1 := by rw [← hv_]; exact ((Below.refl _ w).alloc (by simp) _)
  replace cc := bK cc bA
  clear bA
  have pa0 : v1.cell? ⟨w.heap.size, 0, none⟩ = some (.int .i64 kk) := by simp [← hv_, go_sem]
  have pa1 : v1.cell? ⟨w.heap.size, 1, none⟩ = some (.int .i64 ks) := by simp [← hv_, go_sem]
  have pa2 : v1.cell? ⟨w.heap.size, 2, none⟩ = some (.int .i64 km) := by simp [← hv_, go_sem]
  have pa3 : v1.cell? ⟨w.heap.size, 3, none⟩ = some (.int .i64 ko) := by simp [← hv_, go_sem]
  have pal : w.heap.size < v1.heap.size := by simp [← hv_] <;> omega
  clear hv_
  go_wp2_with fail
  go_ret
  exact ⟨rfl, cc⟩

theorem tnWide_b {w : World} {kk ks km ko lg : Int} {A : Option Addr} {n c : Nat} {L : List Int} (hA : IR w A n c L) (hn : n ≤ 9223372036854775807) (hk : I64 ko) (q0 : ¬ lg < km) (q1 : ¬ 0 < ko) :
    Calls Tryz.prog 34 #[.agg #[.int .i64 kk, .int .i64 ks, .int .i64 km, .int .i64 ko], .int .i64 lg, .slice A n c] w (GotV w (.bool (false))) := by
  have t0 : decide (lg < km) = false := decide_eq_false (by omega)
  have t1 : decide (0 < ko) = false := decide_eq_false (by omega)
  clear hn hk q0 q1
  have cc := Below.refl w.heap.size w
  go_enter Tryz.func34, Tryz.ntmps34
  go_upto_region 1 with fail
  generalize hv_ : w.alloc (.cells #[.int .i64 kk, .int .i64 ks, .int .i64 km, .int .i64 ko] 23) = v1
  have bA : Below w.heap.size w v1 := by rw [← hv_]; exact ((Below.refl _ w).alloc (by simp) _)
  replace cc := bK cc bA
  clear bA
  have pa0 : v1.cell? ⟨w.heap.size, 0, none⟩ = some (.int .i64 kk) := by simp [← hv_, go_sem]
  have pa1 : v1.cell? ⟨w.heap.size, 1, none⟩ = some (.int .i64 ks) := by simp [← hv_, go_sem]
  have pa2 : v1.cell? ⟨w.heap.size, 2, none⟩ = some (.int .i64 km) := by simp [← hv_, go_sem]
  have pa3 : v1.cell? ⟨w.heap.size, 3, none⟩ = some (.int .i64 ko) := by simp [← hv_, go_sem]
  have pal : w.heap.size < v1.heap.size := by simp [← hv_] <;> omega
  clear hv_
  go_wp2_with fail
  go_ret
  exact ⟨rfl, cc⟩

theorem tnWide_c {w : World} {kk ks km ko lg : Int} {A : Option Addr} {n c : Nat} {L : List Int} (hA : IR w A n c L) (hn : n ≤ 9223372036854775807) (hk : I64 ko) (q0 : ¬ lg < km) (q1 : 0 < ko) :
    Calls Tryz.prog 34 #[.agg #[.int .i64 kk, .int .i64 ks, .int .i64 km, .int .i64 ko], .int .i64 lg, .slice A n c] w (GotV w (.bool (decide (ko < gr L)))) := by
  have t0 : decide (lg < km) = false := decide_eq_false (by omega)
  have t1 : decide (0 < ko) = true := decide_eq_true (by omega)
  rw [← any_gr q1]
  have hk0 : 0 < ko ∧ ko ≤ 9223372036854775807 := ⟨q1, hk.2⟩
  have CC := fun {W : World} (h : IR W A n c L) (h3 : W.cell? ⟨w.heap.size, 3, none⟩ = some (.int .i64 ko)) (hl : w.heap.size < W.heap.size) => tnCont_N (b := w.heap.size) (F := fun x => decide (ko < x ∨ ko < -x)) h hn (fun V x q => tnPred_N (cK q h3 hl) hk0)
  generalize L.any (fun x => decide (ko < x ∨ ko < -x)) = r at *
  clear hn hk q0 q1 hk0
  have cc := Below.refl w.heap.size w
  go_enter Tryz.func34, Tryz.ntmps34
  go_upto_region 1 with fail
  generalize hv_ : w.alloc (.cells #[.int .i64 kk, .int .i64 ks, .int .i64 km, .int .i64 ko] 23) = v1
  have bA : Below w.heap.size w v1 := by rw [← hv_]; exact ((Below.refl _ w).alloc (by simp) _)
  replace hA := hA.on bA
  replace cc := bK cc bA
  clear bA
  have pa0 : v1.cell? ⟨w.heap.size, 0, none⟩ = some (.int .i64 kk) := by simp [← hv_, go_sem]
  have pa1 : v1.cell? ⟨w.heap.size, 1, none⟩ = some (.int .i64 ks) := by simp [← hv_, go_sem]
  have pa2 : v1.cell? ⟨w.heap.size, 2, none⟩ = some (.int .i64 km) := by simp [← hv_, go_sem]
  have pa3 : v1.cell? ⟨w.heap.size, 3, none⟩ = some (.int .i64 ko) := by simp [← hv_, go_sem]
  have pal : w.heap.size < v1.heap.size := by simp [← hv_] <;> omega
  clear hv_
  go_wp2_with fail
  refine (CC hA pa3 pal).mono ?_
  rintro e w2 ⟨rfl, b⟩
  replace hA := hA.on b
  rewrite [cR b pal] at pa0 pa1 pa2 pa3
  replace pal := lK b pal
  replace cc := bK cc b
  clear b
  go_wp2_with fail
  go_ret
  exact ⟨rfl, cc⟩

theorem tnWide_N {w : World} {kk ks km ko lg : Int} {A : Option Addr} {n c : Nat} {L : List Int} (hA : IR w A n c L) (hn : n ≤ 9223372036854775807) (hk : I64 ko) : Calls Tryz.prog 34 #[.agg #[.int .i64 kk, .int .i64 ks, .int .i64 km, .int .i64 ko], .int .i64 lg, .slice A n c] w (GotV w (.bool (decide (Wd km ko lg (gr L))))) := by
  by_cases q0 : lg < km
  · rw [decide_eq_true (show Wd km ko lg (gr L) from .inl q0)]; exact tnWide_a hA hn hk q0
  by_cases q1 : 0 < ko
  · rw [show decide (Wd km ko lg (gr L)) = decide (ko < gr L) from decide_eq_decide.2 (by unfold Wd; omega)]; exact tnWide_c hA hn hk q0 q1
  · rw [decide_eq_false (fun h => by unfold Wd at h; omega)]; exact tnWide_b hA hn hk q0 q1

end Go.Proofs.YtpidpebgeblenaaGreat

/-
  The contracts of the landed tens: fits.
-/
namespace Go.Proofs.YtpidpebgeblenaaGreat
set_option maxRecDepth 100000
set_option maxHeartbeats 8000000
open Go.RowKit
set_option linter.unusedVariables false
set_option linter.unusedSimpArgs false

theorem ir_one14 {w : World} {g : Nat} {x : Int} (hx : w.cell? ⟨g, 0, none⟩ = some (.int .i64 x)) : IR w (some ⟨g, 0, none⟩) 1 1 [x] := by
  refine ⟨rfl, Nat.le_refl _, fun _ => ⟨g, 0, rfl, cell_lt hx, fun j hj => ?_⟩⟩
  obtain rfl : j = 0 := by omega
  exact hx
theorem gr_one {z : Int} (h : 0 ≤ z) : gr [z] = z := by
  have h1 := gr_mem (L := [z]) (x := z) (by simp)
  have h2 := gr_le (L := [z]) (s := z) h (fun j hj => by
    obtain rfl : j = 0 := by simp at hj; exact hj
    show z ≤ z ∧ -z ≤ z
    omega)
  omega
theorem okB_nn {k s : Int} {C : List Nat} {W : List Int} (h : OkB k s C W) : 0 ≤ s := by
  rcases h with ⟨_, _, _, h | h⟩ | ⟨_, _, _, h, _⟩
  · omega
  · omega
  · omega

theorem tnFits_n {w : World} {kk ks km ko lg z1 z2 : Int} {A1 B1 : Option Addr} {n1 c1 m1 d1 : Nat} {C : List Nat} {W : List Int} (hC : BR w A1 n1 c1 C) (hW : IR w B1 m1 d1 W) (hn1 : n1 ≤ 9223372036854775807) (hm1 : m1 ≤ 9223372036854775807) (hk : I64 ko) (ho : ¬ OkB z1 z2 C W) :
    Calls Tryz.prog 28 #[.agg #[.int .i64 kk, .int .i64 ks, .int .i64 km, .int .i64 ko], .int .i64 lg, .agg #[.int .i64 z1, .int .i64 z2, .slice A1 n1 c1, .slice B1 m1 d1]] w (GotV w (.bool (false))) := by
  have CR := fun {U : World} (h1 : BR U A1 n1 c1 C) (h2 : IR U B1 m1 d1 W) => bkRight_N (k := z1) (s := z2) h1 h2 hn1 hm1
  rw [decide_eq_false ho] at CR
  clear ho hn1 hm1 hk
  have cc := Below.refl w.heap.size w
  go_enter Tryz.func28, Tryz.ntmps28
  go_upto_region 1 with fail
  generalize hv_ : (w.alloc (.cells #[.int .i64 kk, .int .i64 ks, .int .i64 km, .int .i64 ko] 23)).alloc (.cells #[.int .i64 z1, .int .i64 z2, .slice A1 n1 c1, .slice B1 m1 d1] 43) = v1
  have bA : Below w.heap.size w v1 := by rw [← hv_]; exact (((Below.refl _ w).alloc (by simp) _).alloc (by simp) _)
  replace hC := hC.on bA
  replace hW := hW.on bA
  replace cc := bK cc bA
  clear bA
  have pa0 : v1.cell? ⟨w.heap.size, 0, none⟩ = some (.int .i64 kk) := by simp [← hv_, go_sem]
  have pa1 : v1.cell? ⟨w.heap.size, 1, none⟩ = some (.int .i64 ks) := by simp [← hv_, go_sem]
  have pa2 : v1.cell? ⟨w.heap.size, 2, none⟩ = some (.int .i64 km) := by simp [← hv_, go_sem]
  have pa3 : v1.cell? ⟨w.heap.size, 3, none⟩ = some (.int .i64 ko) := by simp [← hv_, go_sem]
  have pal : w.heap.size < v1.heap.size := by simp [← hv_] <;> omega
  have xa0 : v1.cell? ⟨w.heap.size + 1, 0, none⟩ = some (.int .i64 z1) := by simp [← hv_, go_sem]
  have xa1 : v1.cell? ⟨w.heap.size + 1, 1, none⟩ = some (.int .i64 z2) := by simp [← hv_, go_sem]
  have xa2 : v1.cell? ⟨w.heap.size + 1, 2, none⟩ = some (.slice A1 n1 c1) := by simp [← hv_, go_sem]
  have xa3 : v1.cell? ⟨w.heap.size + 1, 3, none⟩ = some (.slice B1 m1 d1) := by simp [← hv_, go_sem]
  have xal : w.heap.size + 1 < v1.heap.size := by simp [← hv_] <;> omega
  clear hv_
  go_wp2_with fail
  refine (CR hC hW).mono ?_
  rintro e w2 ⟨rfl, b⟩
  replace hC := hC.on b
  replace hW := hW.on b
  rewrite [cR b pal] at pa0 pa1 pa2 pa3
  replace pal := lK b pal
  rewrite [cR b xal] at xa0 xa1 xa2 xa3
  replace xal := lK b xal
  replace cc := bK cc b
  clear b
  go_wp2_with fail
  go_ret
  exact ⟨rfl, cc⟩

theorem tnFits_w {w : World} {kk ks km ko lg z1 z2 : Int} {A1 B1 : Option Addr} {n1 c1 m1 d1 : Nat} {C : List Nat} {W : List Int} (hC : BR w A1 n1 c1 C) (hW : IR w B1 m1 d1 W) (hn1 : n1 ≤ 9223372036854775807) (hm1 : m1 ≤ 9223372036854775807) (hk : I64 ko) (ho : OkB z1 z2 C W) (h4 : z1 = 4) :
    Calls Tryz.prog 28 #[.agg #[.int .i64 kk, .int .i64 ks, .int .i64 km, .int .i64 ko], .int .i64 lg, .agg #[.int .i64 z1, .int .i64 z2, .slice A1 n1 c1, .slice B1 m1 d1]] w (GotV w (.bool (decide (Wd km ko lg (gr W))))) := by
  have CR := fun {U : World} (h1 : BR U A1 n1 c1 C) (h2 : IR U B1 m1 d1 W) => bkRight_N (k := z1) (s := z2) h1 h2 hn1 hm1
  rw [decide_eq_true ho] at CR
  subst h4
  have CI := fun {U : World} (h : IR U B1 m1 d1 W) => tnWide_N (kk := kk) (ks := ks) (km := km) (lg := lg) h hm1 hk
  generalize decide (Wd km ko lg (gr W)) = r at *
  clear ho hn1 hm1 hk
  have cc := Below.refl w.heap.size w
  go_enter Tryz.func28, Tryz.ntmps28
  go_upto_region 1 with fail
  generalize hv_ : (w.alloc (.cells #[.int .i64 kk, .int .i64 ks, .int .i64 km, .int .i64 ko] 23)).alloc (.cells #[.int .i64 4, .int .i64 z2, .slice A1 n1 c1, .slice B1 m1 d1] 43) = v1
  have bA : Below w.heap.size w v1 := by rw [← hv_]; exact (((Below.refl _ w).alloc (by simp) _).alloc (by simp) _)
  replace hC := hC.on bA
  replace hW := hW.on bA
  replace cc := bK cc bA
  clear bA
  have pa0 : v1.cell? ⟨w.heap.size, 0, none⟩ = some (.int .i64 kk) := by simp [← hv_, go_sem]
  have pa1 : v1.cell? ⟨w.heap.size, 1, none⟩ = some (.int .i64 ks) := by simp [← hv_, go_sem]
  have pa2 : v1.cell? ⟨w.heap.size, 2, none⟩ = some (.int .i64 km) := by simp [← hv_, go_sem]
  have pa3 : v1.cell? ⟨w.heap.size, 3, none⟩ = some (.int .i64 ko) := by simp [← hv_, go_sem]
  have pal : w.heap.size < v1.heap.size := by simp [← hv_] <;> omega
  have xa0 : v1.cell? ⟨w.heap.size + 1, 0, none⟩ = some (.int .i64 4) := by simp [← hv_, go_sem]
  have xa1 : v1.cell? ⟨w.heap.size + 1, 1, none⟩ = some (.int .i64 z2) := by simp [← hv_, go_sem]
  have xa2 : v1.cell? ⟨w.heap.size + 1, 2, none⟩ = some (.slice A1 n1 c1) := by simp [← hv_, go_sem]
  have xa3 : v1.cell? ⟨w.heap.size + 1, 3, none⟩ = some (.slice B1 m1 d1) := by simp [← hv_, go_sem]
  have xal : w.heap.size + 1 < v1.heap.size := by simp [← hv_] <;> omega
  clear hv_
  go_wp2_with fail
  refine (CR hC hW).mono ?_
  rintro e w2 ⟨rfl, b⟩
  replace hC := hC.on b
  replace hW := hW.on b
  rewrite [cR b pal] at pa0 pa1 pa2 pa3
  replace pal := lK b pal
  rewrite [cR b xal] at xa0 xa1 xa2 xa3
  replace xal := lK b xal
  replace cc := bK cc b
  clear b
  go_wp2_with fail
  refine (CI hW).mono ?_
  rintro e w3 ⟨rfl, b⟩
  replace hC := hC.on b
  replace hW := hW.on b
  rewrite [cR b pal] at pa0 pa1 pa2 pa3
  replace pal := lK b pal
  rewrite [cR b xal] at xa0 xa1 xa2 xa3
  replace xal := lK b xal
  replace cc := bK cc b
  clear b
  go_wp2_with fail
  go_ret
  exact ⟨rfl, cc⟩

theorem tnFits_k {w : World} {kk ks km ko lg z1 z2 : Int} {A1 B1 : Option Addr} {n1 c1 m1 d1 : Nat} {C : List Nat} {W : List Int} (hC : BR w A1 n1 c1 C) (hW : IR w B1 m1 d1 W) (hn1 : n1 ≤ 9223372036854775807) (hm1 : m1 ≤ 9223372036854775807) (hk : I64 ko) (ho : OkB z1 z2 C W) (h4 : ¬ z1 = 4) (h5 : ¬ z1 = kk) :
    Calls Tryz.prog 28 #[.agg #[.int .i64 kk, .int .i64 ks, .int .i64 km, .int .i64 ko], .int .i64 lg, .agg #[.int .i64 z1, .int .i64 z2, .slice A1 n1 c1, .slice B1 m1 d1]] w (GotV w (.bool (false))) := by
  have CR := fun {U : World} (h1 : BR U A1 n1 c1 C) (h2 : IR U B1 m1 d1 W) => bkRight_N (k := z1) (s := z2) h1 h2 hn1 hm1
  rw [decide_eq_true ho] at CR
  have t4 : (z1 == 4) = false := beq_eq_false_iff_ne.2 h4
  have t5 : (z1 == kk) = false := beq_eq_false_iff_ne.2 h5
  clear ho hn1 hm1 hk h4 h5
  have cc := Below.refl w.heap.size w
  go_enter Tryz.func28, Tryz.ntmps28
  go_upto_region 1 with fail
  generalize hv_ : (w.alloc (.cells #[.int .i64 kk, .int .i64 ks, .int .i64 km, .int .i64 ko] 23)).alloc (.cells #[.int .i64 z1, .int .i64 z2, .slice A1 n1 c1, .slice B1 m1 d1] 43) = v1
  have bA : Below w.heap.size w v1 := by rw [← hv_]; exact (((Below.refl _ w).alloc (by simp) _).alloc (by simp) _)
  replace hC := hC.on bA
  replace hW := hW.on bA
  replace cc := bK cc bA
  clear bA
  have pa0 : v1.cell? ⟨w.heap.size, 0, none⟩ = some (.int .i64 kk) := by simp [← hv_, go_sem]
  have pa1 : v1.cell? ⟨w.heap.size, 1, none⟩ = some (.int .i64 ks) := by simp [← hv_, go_sem]
  have pa2 : v1.cell? ⟨w.heap.size, 2, none⟩ = some (.int .i64 km) := by simp [← hv_, go_sem]
  have pa3 : v1.cell? ⟨w.heap.size, 3, none⟩ = some (.int .i64 ko) := by simp [← hv_, go_sem]
  have pal : w.heap.size < v1.heap.size := by simp [← hv_] <;> omega
  have xa0 : v1.cell? ⟨w.heap.size + 1, 0, none⟩ = some (.int .i64 z1) := by simp [← hv_, go_sem]
  have xa1 : v1.cell? ⟨w.heap.size + 1, 1, none⟩ = some (.int .i64 z2) := by simp [← hv_, go_sem]
  have xa2 : v1.cell? ⟨w.heap.size + 1, 2, none⟩ = some (.slice A1 n1 c1) := by simp [← hv_, go_sem]
  have xa3 : v1.cell? ⟨w.heap.size + 1, 3, none⟩ = some (.slice B1 m1 d1) := by simp [← hv_, go_sem]
  have xal : w.heap.size + 1 < v1.heap.size := by simp [← hv_] <;> omega
  clear hv_
  go_wp2_with fail
  refine (CR hC hW).mono ?_
  rintro e w2 ⟨rfl, b⟩
  replace hC := hC.on b
  replace hW := hW.on b
  rewrite [cR b pal] at pa0 pa1 pa2 pa3
  replace pal := lK b pal
  rewrite [cR b xal] at xa0 xa1 xa2 xa3
  replace xal := lK b xal
  replace cc := bK cc b
  clear b
  go_wp2_with fail
  go_ret
  exact ⟨rfl, cc⟩

theorem tnFits_c {w : World} {kk ks km ko lg z1 z2 : Int} {A1 B1 : Option Addr} {n1 c1 m1 d1 : Nat} {C : List Nat} {W : List Int} (hC : BR w A1 n1 c1 C) (hW : IR w B1 m1 d1 W) (hn1 : n1 ≤ 9223372036854775807) (hm1 : m1 ≤ 9223372036854775807) (hk : I64 ko) (ho : OkB z1 z2 C W) (h4 : ¬ z1 = 4) (h5 : z1 = kk) :
    Calls Tryz.prog 28 #[.agg #[.int .i64 kk, .int .i64 ks, .int .i64 km, .int .i64 ko], .int .i64 lg, .agg #[.int .i64 z1, .int .i64 z2, .slice A1 n1 c1, .slice B1 m1 d1]] w (GotV w (.bool (decide (¬ Wd km ko lg z2)))) := by
  have CR := fun {U : World} (h1 : BR U A1 n1 c1 C) (h2 : IR U B1 m1 d1 W) => bkRight_N (k := z1) (s := z2) h1 h2 hn1 hm1
  rw [decide_eq_true ho] at CR
  have t4 : (z1 == 4) = false := beq_eq_false_iff_ne.2 h4
  have CI := fun {U : World} {g : Nat} (h : U.cell? ⟨g, 0, none⟩ = some (.int .i64 z2)) => tnWide_N (kk := z1) (ks := ks) (km := km) (lg := lg) (ir_one14 h) (by omega) hk
  rw [gr_one (okB_nn ho)] at CI
  subst h5
  rw [decide_not]
  generalize decide (Wd km ko lg z2) = r at *
  clear ho hn1 hm1 hk h4
  have cc := Below.refl w.heap.size w
  go_enter Tryz.func28, Tryz.ntmps28
  go_upto_region 1 with fail
  generalize hv_ : (w.alloc (.cells #[.int .i64 z1, .int .i64 ks, .int .i64 km, .int .i64 ko] 23)).alloc (.cells #[.int .i64 z1, .int .i64 z2, .slice A1 n1 c1, .slice B1 m1 d1] 43) = v1
  have bA : Below w.heap.size w v1 := by rw [← hv_]; exact (((Below.refl _ w).alloc (by simp) _).alloc (by simp) _)
  replace hC := hC.on bA
  replace hW := hW.on bA
  replace cc := bK cc bA
  clear bA
  have pa0 : v1.cell? ⟨w.heap.size, 0, none⟩ = some (.int .i64 z1) := by simp [← hv_, go_sem]
  have pa1 : v1.cell? ⟨w.heap.size, 1, none⟩ = some (.int .i64 ks) := by simp [← hv_, go_sem]
  have pa2 : v1.cell? ⟨w.heap.size, 2, none⟩ = some (.int .i64 km) := by simp [← hv_, go_sem]
  have pa3 : v1.cell? ⟨w.heap.size, 3, none⟩ = some (.int .i64 ko) := by simp [← hv_, go_sem]
  have pal : w.heap.size < v1.heap.size := by simp [← hv_] <;> omega
  have xa0 : v1.cell? ⟨w.heap.size + 1, 0, none⟩ = some (.int .i64 z1) := by simp [← hv_, go_sem]
  have xa1 : v1.cell? ⟨w.heap.size + 1, 1, none⟩ = some (.int .i64 z2) := by simp [← hv_, go_sem]
  have xa2 : v1.cell? ⟨w.heap.size + 1, 2, none⟩ = some (.slice A1 n1 c1) := by simp [← hv_, go_sem]
  have xa3 : v1.cell? ⟨w.heap.size + 1, 3, none⟩ = some (.slice B1 m1 d1) := by simp [← hv_, go_sem]
  have xal : w.heap.size + 1 < v1.heap.size := by simp [← hv_] <;> omega
  clear hv_
  go_wp2_with fail
  refine (CR hC hW).mono ?_
  rintro e w2 ⟨rfl, b⟩
  replace hC := hC.on b
  replace hW := hW.on b
  rewrite [cR b pal] at pa0 pa1 pa2 pa3
  replace pal := lK b pal
  rewrite [cR b xal] at xa0 xa1 xa2 xa3
  replace xal := lK b xal
  replace cc := bK cc b
  clear b
  go_wp2_with fail
  refine (CI (g := w2.heap.size) (by simp [go_sem])).mono ?_
  rintro e wz ⟨rfl, b⟩
  replace cc := cc.trans (((one_up _ _).trans (b.mono (by simp))).mono cc.size)
  clear b CI
  go_wp2_with fail
  go_ret
  exact ⟨rfl, cc⟩

theorem tnFits_N {w : World} {kk ks km ko lg z1 z2 : Int} {A1 B1 : Option Addr} {n1 c1 m1 d1 : Nat} {C : List Nat} {W : List Int} (hC : BR w A1 n1 c1 C) (hW : IR w B1 m1 d1 W) (hn1 : n1 ≤ 9223372036854775807) (hm1 : m1 ≤ 9223372036854775807) (hk : I64 ko) : Calls Tryz.prog 28 #[.agg #[.int .i64 kk, .int .i64 ks, .int .i64 km, .int .i64 ko], .int .i64 lg, .agg #[.int .i64 z1, .int .i64 z2, .slice A1 n1 c1, .slice B1 m1 d1]] w (GotV w (.bool (decide (OkB z1 z2 C W ∧ (if z1 = 4 then Wd km ko lg (gr W) else z1 = kk ∧ ¬ Wd km ko lg z2))))) := by
  by_cases ho : OkB z1 z2 C W
  · by_cases h4 : z1 = 4
    · rw [show decide (OkB z1 z2 C W ∧ (if z1 = 4 then Wd km ko lg (gr W) else z1 = kk ∧ ¬ Wd km ko lg z2)) = decide (Wd km ko lg (gr W)) from decide_eq_decide.2 (by rw [if_pos h4]; exact and_iff_right ho)]
      exact tnFits_w hC hW hn1 hm1 hk ho h4
    · by_cases h5 : z1 = kk
      · rw [show decide (OkB z1 z2 C W ∧ (if z1 = 4 then Wd km ko lg (gr W) else z1 = kk ∧ ¬ Wd km ko lg z2)) = decide (¬ Wd km ko lg z2) from decide_eq_decide.2 (by rw [if_neg h4]; exact ⟨fun h => h.2.2, fun h => ⟨ho, h5, h⟩⟩)]
        exact tnFits_c hC hW hn1 hm1 hk ho h4 h5
      · rw [decide_eq_false (fun h => by have := h.2; rw [if_neg h4] at this; exact h5 this.1)]
        exact tnFits_k hC hW hn1 hm1 hk ho h4 h5
  · rw [decide_eq_false (fun h => ho h.1)]
    exact tnFits_n hC hW hn1 hm1 hk ho

end Go.Proofs.YtpidpebgeblenaaGreat

/-
  A region that draws its order, in a round of a range over a function: walked as a plain one.
-/
namespace Go.Proofs.YtpidpebgeblenaaGreat
open Go.RowKit Go.Shelf
set_option linter.unusedVariables false
set_option linter.unusedSimpArgs false

def noDefer (ops : Array Oper) : Bool := ops.all fun o => match o.op with | .defer _ => false | _ => true
theorem noDefer_at {ops : Array Oper} (h : noDefer ops = true) {i : Nat} {o : Oper} (ho : ops[i]? = some o) : ∀ c, o.op ≠ .defer c := by
  intro c hc
  unfold noDefer at h
  rw [Array.all_eq_true] at h
  obtain ⟨hi, rfl⟩ := Array.getElem?_eq_some_iff.1 ho
  have := h i hi
  rw [hc] at this
  cases this
theorem rowsIn_round {l n : Nat} {P : Program} {row : String} {args : Array Value} {w : World} {R : Value → World → Prop} (h : Rows P row args w R) : RowsIn (Fence.wide.inRound l) n P row args w R :=
  fun c cs _ => let ⟨v, w', r, s⟩ := h c cs; ⟨v, w', r, stepsIn_wide.2 s⟩
theorem wpOpIn_round {l n i : Nat} {P : Program} {ops : Array Oper} {Q : Exit → Act → World → Prop} {K : Act → World → Prop} {a : Act} {w : World} (hd : noDefer ops = true) (hL : ¬ LetsOut Q)
    (h : wpOp P ops Q i K a w) : wpOpIn (Fence.wide.inRound l) n P ops Q i K a w := by
  unfold wpOp at h
  unfold wpOpIn
  cases ho : ops[i]? with
  | none => simpa [ho] using h
  | some o =>
    have hnd := noDefer_at hd ho
    simp only [ho] at h ⊢
    by_cases hw : Region.wanted o (yielded ops a.tmps) = true
    · simp only [hw, if_true] at h ⊢
      rcases h with h | h
      · unfold Oper.wp at h
        unfold Oper.wpIn
        refine ⟨fun _ _ => trivial, ?_⟩
        rw [Oper.semAt_plain _ _ _ hnd]
        generalize (execOp a.eval o).run P w = r at *
        cases r with
        | ok x w' =>
          cases x with
          | value v => exact h
          | skip => exact h
          | defer d => exact h
          | enter f args => exact ⟨fun e => (by cases e), CallsIn.inRound l (callsIn_wide.2 h)⟩
          | row row args => exact ⟨fun e => (by cases e), rowsIn_round h⟩
          | _ => exact h.elim
        | halt x w' => cases x <;> exact h
      · exact absurd h.2 hL
    · simp only [hw] at h ⊢
      exact ⟨fun _ _ => trivial, h⟩
theorem wpAnyIn_round {l n : Nat} {P : Program} {md : Region.Mode} {ops : Array Oper} {Q : Exit → Act → World → Prop} (hd : noDefer ops = true) (hL : ¬ LetsOut Q) :
    ∀ (fuel : Nat) (listed : Array Bool) (a : Act) (w : World), wpAny P md ops Q fuel listed a w → wpAnyIn (Fence.wide.inRound l) n P md ops Q fuel listed a w
  | 0, _, _, _, h => h
  | fuel + 1, _, _, _, h => ⟨h.1, fun i hi => wpOpIn_mono (fun a' w' h' => wpAnyIn_round hd hL fuel _ a' w' h') (wpOpIn_round hd hL (h.2 i hi))⟩
theorem wpIn_round_held_drew {l n id : Nat} {P : Program} {ops : Array Oper} {Q : Exit → Act → World → Prop} {S : World → Prop} {a : Act} {w : World} (hm : P.follows .mixedOrders = true) (hd : noDefer ops = true) (hL : ¬ LetsOut Q)
    (hS : S w.drew) (h : S w.drew → wpAnyH P .any ops Q S ops.size (Array.replicate ops.size false) a w.drew) : (Code.region id ops true).wpIn (Fence.wide.inRound l) n P Q a w :=
  wpIn_region_any hm (wpAnyIn_round hd hL _ _ _ _ (wpAny_of_held _ _ _ _ (h hS)))
/-- A function that holds a range over a function: its contract from a plain walk of its body. -/
theorem calls_marks {P : Program} {f : FuncId} {fn : Func} {c : Code} {args : Array Value} {w : World} {R : Ending → World → Prop} (hf : P.funcs[f]? = some fn) (hb : fn.body = some c)
    (h : c.wp P (bodyPostM Fence.wide 10 P fn R) { tmps := args ++ Array.replicate (fn.ntmps - args.size) undef, defers := [] } w) : Calls P f args w R :=
  (callsIn_wide (n := 10)).1 (callsIn_of_wp_marks hf hb trivial (wpIn_wide.2 h) rfl)
theorem keepsFrom_below {B : Nat} {W W' : World} (b : Below W.heap.size W W') : KeepsFrom B W W' := ⟨b.size, fun k o _ hk _ => (b.block k (Array.getElem?_eq_some_iff.1 hk).1).trans hk⟩
theorem keepsFrom_set {B : Nat} {W W' : World} (h : KeepsFrom B W W') (p : Addr) (v : Value) : KeepsFrom B W (W'.setCell p v) := h.trans ((KeepsOthers.setCell W' p v).from B)
/-- A box of one cell. -/
def Bx (W : World) (B : Nat) (t : TypeId) (v : Value) : Prop := Boxed W B t v
theorem Bx.lt {W : World} {B : Nat} {t : TypeId} {v : Value} (h : Bx W B t v) : B < W.heap.size := Boxed.lt h
theorem Bx.on {W W' : World} {B : Nat} {t : TypeId} {v : Value} (h : Bx W B t v) (b : Below W.heap.size W W') : Bx W' B t v := (b.block B h.lt).trans h
theorem Bx.cell {W : World} {B : Nat} {t : TypeId} {v : Value} (h : Bx W B t v) : W.cell? ⟨B, 0, none⟩ = some v := Boxed.cell h
theorem Bx.frozen {W : World} {B : Nat} {t : TypeId} {v : Value} (h : Bx W B t v) : W.frozen? ⟨B, 0, none⟩ = false := Boxed.frozen h
theorem Bx.set {W : World} {B : Nat} {t : TypeId} {v : Value} (v' : Value) (h : Bx W B t v) : Bx (W.setCell ⟨B, 0, none⟩ v') B t v' := Boxed.set v' h
theorem Bx.other {W : World} {B B' : Nat} {t : TypeId} {v : Value} (h : Bx W B t v) (hne : B ≠ B') (u : Value) : Bx (W.setCell ⟨B', 0, none⟩ u) B t v := Boxed.other h hne u
theorem Bx.new (W : World) (t : TypeId) (v : Value) : Bx (W.alloc (.cells #[v] t)) W.heap.size t v := Boxed.new W t v
theorem Bx.grown {W W' : World} {row : Option Nat} {B : Nat} {t : TypeId} {v : Value} (h : Bx W B t v) (hg : W.grownBy W' row) (hrow : ∀ r, row = some r → ∃ o : Obj, W.heap[r]? = some o ∧ o.isCells = false) : Bx W' B t v :=
  boxed_own (β := Unit) B t (fun _ => v) () W W' row h hg hrow
end Go.Proofs.YtpidpebgeblenaaGreat

/-
  The contracts of the landed tens: cuts, an iterator of two values.
-/
namespace Go.Proofs.YtpidpebgeblenaaGreat
set_option maxRecDepth 100000
open Go.RowKit Go.Shelf
set_option linter.unusedVariables false
set_option linter.unusedSimpArgs false
attribute [local go_sem] Oper.semAt_some

/-- The first numbers below m. -/
def upA (m : Nat) : Nat → List {i : Nat // i < m}
  | 0 => []
  | i + 1 => upA m i ++ (if h : i < m then [⟨i, h⟩] else [])
theorem upA_succ {m i : Nat} (h : i < m) : upA m (i + 1) = upA m i ++ [⟨i, h⟩] := by
  show upA m i ++ _ = _
  rw [dif_pos h]
theorem upA_len {m : Nat} : ∀ {i : Nat}, i ≤ m → (upA m i).length = i
  | 0, _ => rfl
  | i + 1, h => by rw [upA_succ (by omega), List.length_append, upA_len (by omega)]; rfl
theorem upA_at {m j : Nat} : ∀ {i : Nat}, i ≤ m → (hj : j < i) → (hm : j < m) → (upA m i)[j]? = some ⟨j, hm⟩
  | 0, _, hj, _ => absurd hj (by omega)
  | i + 1, h, hj, hm => by
    rw [upA_succ (by omega)]
    have hl := upA_len (m := m) (i := i) (by omega)
    rcases Nat.lt_or_ge j i with h1 | h1
    · rw [List.getElem?_append_left (by omega)]; exact upA_at (by omega) h1 hm
    · obtain rfl : j = i := by omega
      rw [List.getElem?_append_right (by omega), hl, Nat.sub_self]; rfl
/-- Two boxes that a round keeps. -/
def Kc (g1 g2 : Nat) (W W' : World) : Prop := W'.heap[g1]? = W.heap[g1]? ∧ W'.heap[g2]? = W.heap[g2]?
theorem Kc.trans {g1 g2 : Nat} {A B C : World} (h : Kc g1 g2 A B) (k : Kc g1 g2 B C) : Kc g1 g2 A C := ⟨k.1.trans h.1, k.2.trans h.2⟩
theorem Kc.of {g1 g2 C : Nat} {A B : World} (h : Below C A B) (h1 : g1 < C) (h2 : g2 < C) : Kc g1 g2 A B := ⟨h.block g1 h1, h.block g2 h2⟩
theorem Kc.set {g1 g2 g o : Nat} {W : World} {u : Value} (h1 : g1 ≠ g) (h2 : g2 ≠ g) : Kc g1 g2 W (W.setCell ⟨g, o, none⟩ u) := ⟨heap_setCell_other W ⟨g, o, none⟩ g1 u h1, heap_setCell_other W ⟨g, o, none⟩ g2 u h2⟩
theorem Kc.put {g1 g2 l : Nat} {W : World} {o : Obj} (h1 : g1 ≠ l) (h2 : g2 ≠ l) : Kc g1 g2 W (W.putObj l o) := by
  constructor <;> simp [World.putObj, Array.getElem?_setIfInBounds, Ne.symm h1, Ne.symm h2]
theorem Kc.box1 {g1 g2 : Nat} {A B : World} {t : TypeId} {v : Value} (h : Kc g1 g2 A B) (b : Boxed A g1 t v) : Boxed B g1 t v := h.1.trans b
theorem Kc.box2 {g1 g2 : Nat} {A B : World} {t : TypeId} {v : Value} (h : Kc g1 g2 A B) (b : Boxed A g2 t v) : Boxed B g2 t v := h.2.trans b
/-- Where a block begins, and where it ends. -/
def enC (s n m : Nat) (x : {i : Nat // i < m}) : Array Value := #[.int .i64 ((x.1 * s : Nat) : Int), .int .i64 ((min (x.1 * s + s) n : Nat) : Int)]

/-- cuts: its parameters lie in boxes; the function value captures them. -/
theorem cuts_any (p q : Int) (w : World) :
    Calls Tryz.prog 26 #[.int .i64 p, .int .i64 q] w fun e w' => e = .returned (.func (.func 39) #[] #[.pointer (some ⟨w.heap.size, 0, none⟩), .pointer (some ⟨w.heap.size + 1, 0, none⟩)]) ∧ w' = (w.alloc (.cells #[.int .i64 p] 3)).alloc (.cells #[.int .i64 q] 3) := by
  go_enter Tryz.func26, Tryz.ntmps26
  go_wp2
  go_ret
  exact ⟨rfl, rfl⟩

set_option maxHeartbeats 4000000 in
theorem cuts_in (l g1 g2 s n m : Nat) (hm : nbk s n = m) (hs : 1 ≤ s ∧ s ≤ 4096) (hn : n ≤ 4096) (J Jx : List {i : Nat // i < m} → World → Prop)
    (hY : ∀ pre x W, J pre W → pre.length < m → YieldAt Fence.wide 8 Tryz.prog l (enC s n m x) W fun e W' =>
      (e = .returned (.bool true) ∧ J (pre ++ [x]) W' ∧ Kc g1 g2 W W') ∨ (e = .returned (.bool false) ∧ Jx (pre ++ [x]) W'))
    (W : World) (b1 : Boxed W g1 3 (.int .i64 (n : Int))) (b2 : Boxed W g2 3 (.int .i64 (s : Int))) (h0 : J [] W) :
    CallsIn Fence.wide 9 Tryz.prog 39 #[.func (.yield l) #[] #[], .pointer (some ⟨g1, 0, none⟩), .pointer (some ⟨g2, 0, none⟩)] W fun e W' => (∃ v, e = .returned v) ∧
      ((∃ ys, ys = upA m m ∧ J ys W') ∨ (∃ pre, (∃ i, i ≤ m ∧ pre = upA m i) ∧ Jx pre W')) := by
  have hmo : Tryz.prog.follows .mixedOrders = true := by kernel_rfl
  have HM := Lib.hid hm
  have HS := Lib.hid hs
  have HN := Lib.hid hn
  have HB1 := Lib.hid b1
  have HB2 := Lib.hid b2
  clear hm hs hn b1 b2
  refine callsIn_of_wp Tryz.func39 rfl trivial ?_ rfl
  simp only [Tryz.ntmps39, List.size_toArray, List.length_cons, List.length_nil, Nat.reduceAdd, Nat.reduceSub, Array.replicate_succ, Array.replicate_zero, List.push_toArray, List.append_toArray, List.nil_append, List.cons_append]
  gi_wp2
  gi_loopw [4] (fun fv wr => ∃ i : Nat, i ≤ m ∧ fv = .int .i64 ((i * s : Nat) : Int) ∧ Boxed wr g1 3 (.int .i64 (n : Int)) ∧ Boxed wr g2 3 (.int .i64 (s : Int)) ∧ J (upA m i) wr) (fun fv _ => 9000 - (intOf fv).toNat)
  case atStart => exact ⟨0, by omega, by rw [Nat.zero_mul]; rfl, HB1.out, HB2.out, h0⟩
  case round =>
    clear h0
    obtain ⟨i, hi, rfl, b1, b2, hJ⟩ := hrel
    have c1 := b1.cell
    have c2 := b2.cell
    have hs := HS.out
    have hn := HN.out
    by_cases hlt : i < m
    · have hp : i * s < n := (nbk_lt hs.1).1 (by rw [HM.out]; exact hlt)
      have hq : (i + 1) * s = i * s + s := by rw [Nat.add_mul, Nat.one_mul]
      have HQ := Lib.hid hq
      have hus := upA_succ hlt
      obtain ⟨fn, tmps, assign, body, hy, hR⟩ := hY (upA m i) ⟨i, hlt⟩ wr hJ (by rw [upA_len hi]; exact hlt)
      obtain ⟨p, ep⟩ : ∃ p, i * s = p := ⟨_, rfl⟩
      obtain ⟨q, eq⟩ : ∃ q, p + s = q := ⟨_, rfl⟩
      obtain ⟨mn, emn⟩ : ∃ mn, min q n = mn := ⟨_, rfl⟩
      have hE : enC s n m ⟨i, hlt⟩ = #[.int .i64 (p : Int), .int .i64 (mn : Int)] := by unfold enC; rw [ep, eq, emn]
      rw [hE] at hy
      rw [ep]
      rw [ep] at hp
      have EP := Lib.hid ep
      have EQ := Lib.hid eq
      have jl : (p : Int) < (n : Int) := by omega
      have k1 : IntKind.i64.wrap ((p : Int) + (s : Int)) = (q : Int) := by rw [IntWalk.i64_in _ (by omega)]; omega
      have k2 : min (q : Int) (n : Int) = (mn : Int) := by omega
      have hR' : RoundIn Fence.wide 8 Tryz.prog l fn tmps assign body wr fun e W' => (e = .returned (.bool true) ∧ Hid (J (upA m (i + 1)) W' ∧ Kc g1 g2 wr W')) ∨ (e = .returned (.bool false) ∧ Hid (Jx (upA m (i + 1)) W')) := hR.mono fun e W' h => by
        rw [hus]
        rcases h with ⟨rfl, h1, h2⟩ | ⟨rfl, h1⟩
        · exact .inl ⟨rfl, Lib.hid ⟨h1, h2⟩⟩
        · exact .inr ⟨rfl, Lib.hid h1⟩
      clear hR hus hE emn ep eq hq hY
      gi_wp2
      refine hR'.mono ?_
      rintro e W3 (⟨rfl, hp3⟩ | ⟨rfl, hp3⟩)
      · have b13 := hp3.out.2.box1 b1
        have b23 := hp3.out.2.box2 b2
        have c13 := b13.cell
        have c23 := b23.cell
        gi_wp2
        go_roundw
        case rel => exact ⟨i + 1, by omega, by rw [HQ.out, EP.out, EQ.out], b13, b23, hp3.out.1⟩
        case measure => have := EQ.out; simp [intOf] <;> omega
      · gi_wp2
        refine bodyPost_ret (results_none rfl _ _ _) rfl ?_
        exact ⟨⟨_, rfl⟩, .inr ⟨_, ⟨i + 1, by omega, rfl⟩, hp3.out⟩⟩
    · obtain rfl : i = m := by omega
      have hp : ¬ i * s < n := fun h => hlt (by have := (nbk_lt hs.1).2 h; rw [HM.out] at this; exact this)
      obtain ⟨p, ep⟩ : ∃ p, i * s = p := ⟨_, rfl⟩
      rw [ep]
      rw [ep] at hp
      have jl : ¬ (p : Int) < (n : Int) := by omega
      clear hY ep
      gi_wp2
      go_end0
      first | exact ⟨⟨_, rfl⟩, .inl ⟨_, rfl, hJ⟩⟩ | exact ⟨⟨_, rfl⟩, .inl hJ⟩
/-- The iterator's contract, as a loop over it wants it. -/
theorem cuts_stops (g1 g2 s n : Nat) (hs : 1 ≤ s ∧ s ≤ 4096) (hn : n ≤ 4096) (w : World) (b1 : Boxed w g1 3 (.int .i64 (n : Int))) (b2 : Boxed w g2 3 (.int .i64 (s : Int))) :
    SeqStopsK Fence.wide 9 Tryz.prog 39 #[.pointer (some ⟨g1, 0, none⟩), .pointer (some ⟨g2, 0, none⟩)] (enC s n (nbk s n))
      (Kc g1 g2) (fun ys => ys = upA (nbk s n) (nbk s n)) (fun pre => ∃ i, i ≤ nbk s n ∧ pre = upA (nbk s n) i) (nbk s n) w := fun l J Jx W hW hJa _ hY h0 =>
  cuts_in l g1 g2 s n _ rfl hs hn J Jx hY W ((hW.block g1 b1.lt).trans b1) ((hW.block g2 b2.lt).trans b2) h0
end Go.Proofs.YtpidpebgeblenaaGreat

/-
  The contracts of the landed tens: Load.
-/
namespace Go.Proofs.YtpidpebgeblenaaGreat
set_option maxRecDepth 100000
open Go.RowKit
set_option linter.unusedVariables false
set_option linter.unusedSimpArgs false

set_option maxHeartbeats 8000000 in
theorem tnLoadX_N {w : World} {kk ks km ko lg : Int} {A : Option Addr} {n c : Nat} {L : List Bk} (hA : KR w A n c L) (hn : n ≤ 5000) (hok : ∀ j, j < n → OkX (L[j]?.getD bk0)) :
    Calls Tryz.prog 17 #[.agg #[.int .i64 kk, .int .i64 ks, .int .i64 km, .int .i64 ko, .int .i64 lg, .slice A n c]] w (GotI w (ldS L n)) := by
  obtain ⟨i0, hi, hz0, hz1, hz2⟩ := info_parts infoI
  have HOK := Lib.hid hok
  have HLS := Lib.hid (ldS_len (by rw [← hA.1]; exact hok))
  have HN := Lib.hid hn
  have HLN := Lib.hid hA.1
  obtain ⟨S, eS⟩ : ∃ S, ldS L = S := ⟨_, rfl⟩
  rw [eS] at HLS ⊢
  have HES := Lib.hid eS
  clear hn hok eS
  have cc := Below.refl w.heap.size w
  go_enter Tryz.func17, Tryz.ntmps17
  go_upto_region 1 with fail
  generalize hv_ : w.alloc (.cells #[.int .i64 kk, .int .i64 ks, .int .i64 km, .int .i64 ko, .int .i64 lg, .slice A n c] 26) = v1
  have bA : Below w.heap.size w v1 := by rw [← hv_]; exact ((Below.refl _ w).alloc (by simp) _)
  replace hA := hA.on bA
  replace cc := bK cc bA
  clear bA
  obtain ⟨pa0, pa1, pa2, pa3, pa4, pa5⟩ : Cs6 v1 w.heap.size (.int .i64 kk) (.int .i64 ks) (.int .i64 km) (.int .i64 ko) (.int .i64 lg) (.slice A n c) := by simp [Cs6, ← hv_, go_sem]
  have pal : w.heap.size < v1.heap.size := by simp [← hv_] <;> omega
  clear hv_
  have HAV := Lib.hid hA
  have CCV := Lib.hid cc
  obtain ⟨t, ht⟩ : ∃ t, v1.heap.size = t := ⟨_, rfl⟩
  have HT := Lib.hid ht
  clear pa0 pa1 pa2 pa3 pa4 hA cc ht
  go_wp2_with fail
  go_loopw [3, 9] (fun ov iv wr => ∃ (i N cap : Nat) (Ar : Option Addr), i ≤ n ∧ iv = .int .i64 (i : Int) ∧ ov = .slice Ar N cap ∧ wr.ownsRow t 2 1 (.slice Ar N cap) N ((S i).map encI) ∧ Below t v1 wr ∧ t ≤ wr.heap.size) (fun _ iv _ => n - (intOf iv).toNat)
  case atStart => exact ⟨0, 0, 0, none, by omega, rfl, rfl, by rw [← HES.out]; exact World.ownsRow_nil _ _ _ _, Below.refl t v1, by have := HT.out; omega⟩
  case round =>
    clear pa5 pal
    obtain ⟨i, N, cap, Ar, hi_, rfl, rfl, hO, hbl_, hts⟩ := hrel
    have hbl : Below v1.heap.size v1 wr := by rw [HT.out]; exact hbl_
    have cc := CCV.out.trans (hbl.mono CCV.out.size)
    have hNl := own_len hO
    by_cases hlt : i < n
    · obtain ⟨bb, off, rfl, hb⟩ := HAV.out.some (by omega)
      obtain ⟨A1, n1, c1, B1, m1, d1, h0, h1, h2, h3, hC, hW, hn1, hm1, hs1, hz1_⟩ := kr_at (HAV.out.on hbl) hlt
      have hok1 := HOK.out i hlt
      have hS : S (i + 1) = S i ++ ldB (L[i]?.getD bk0).1 (L[i]?.getD bk0).2.1 (L[i]?.getD bk0).2.2.1 (L[i]?.getD bk0).2.2.2 := by rw [← HES.out]; rfl
      have CL := fun {W : World} (q : Below wr.heap.size wr W) => bkLoad_N (hC.on q) (hW.on q) hok1 hs1
      have hl1 := (ldB_len hok1)
      have hNb : N ≤ 4096 * i := by rw [hNl]; exact HLS.out i (by rw [← HLN.out]; omega)
      obtain ⟨z1, e1⟩ : ∃ z, (L[i]?.getD bk0).1 = z := ⟨_, rfl⟩
      obtain ⟨z2, e2⟩ : ∃ z, (L[i]?.getD bk0).2.1 = z := ⟨_, rfl⟩
      rw [e1] at h0 CL hS hl1
      rw [e2] at h1 CL hS hl1
      obtain ⟨Y, eY⟩ : ∃ Y, ldB z1 z2 (L[i]?.getD bk0).2.2.1 (L[i]?.getD bk0).2.2.2 = Y := ⟨_, rfl⟩
      rw [eY] at CL hS hl1
      have hYl : Y.length ≤ 4096 := by omega
      have HS := Lib.hid hS
      have k3 : IntKind.i64.wrap ((i : Int) + 1) = ((i + 1 : Nat) : Int) := by rw [IntWalk.i64_in _ (by have := HN.out; omega)]; omega
      have jl : (i : Int) < (n : Int) := by omega
      have hN2 : N + Y.length ≤ 100000000 := by have := HN.out; omega
      have HO := Lib.hid hO
      have HBL := Lib.hid hbl_
      have HNL := Lib.hid hNl
      have hNc : N ≤ cap := (IR.of_own hO).2.1
      have hbw : bb < wr.heap.size := Nat.lt_of_lt_of_le hb hbl.size
      clear e1 e2 hn1 hm1 hz1_ hl1 hS eY hNb hO hbl_ hNl
      generalize S i = Si at *
      go_upto_region 5 with fail
      generalize hv_ : wr.alloc (.cells #[.int .i64 z1, .int .i64 z2, .slice A1 n1 c1, .slice B1 m1 d1] 43) = vz
      have g0 : vz.cell? ⟨wr.heap.size, 0, none⟩ = some (.int .i64 z1) := by simp [← hv_, go_sem]
      have g1 : vz.cell? ⟨wr.heap.size, 1, none⟩ = some (.int .i64 z2) := by simp [← hv_, go_sem]
      have g2 : vz.cell? ⟨wr.heap.size, 2, none⟩ = some (.slice A1 n1 c1) := by simp [← hv_, go_sem]
      have g3 : vz.cell? ⟨wr.heap.size, 3, none⟩ = some (.slice B1 m1 d1) := by simp [← hv_, go_sem]
      have gl : wr.heap.size < vz.heap.size := by simp [← hv_]
      have hbz : Below wr.heap.size wr vz := by rw [← hv_]; exact one_up _ _
      have hb2 : Below v1.heap.size v1 vz := by rw [← hv_]; exact hbl.alloc hbl.size _
      clear hv_
      generalize hgz : wr.heap.size = gz at *
      have CLz := CL hbz
      have HOz := Lib.hid (ownsRow_below (w := wr) HO.out (by first | exact hbz | (rw [hgz]; exact hbz)))
      have HBZ : Hid (Below t v1 vz) := Lib.hid (by have := HT.out; first | exact (HBL.out.trans (hbz.mono hts)) | (rw [← this]; exact hb2))
      have htz : t ≤ vz.heap.size := by have := hbz.size; omega
      clear h0 h1 h2 h3 CL hbl cc hb hbw hok1 hs1 hC hW
      go_wp2_with fail
      refine CLz.mono ?_
      rintro e w9 ⟨Ay, ny, cy, rfl, hy, b⟩
      have hnyl : ny = Y.length := hy.1
      have hO9 := ownsRow_below HOz.out b
      have h19 := HBZ.out.trans (b.mono htz)
      have hts9 : t ≤ w9.heap.size := Nat.le_trans htz b.size
      rcases Nat.eq_zero_or_pos ny with h0y | h0y
      · have hY0 : Y = [] := List.eq_nil_of_length_eq_zero (by omega)
        subst h0y
        have HG : Hid (w9.ownsRow t 2 1 (.slice Ar N cap) N ((S (i + 1)).map encI)) := Lib.hid (by rw [HS.out, hY0, List.append_nil]; exact hO9)
        clear hO9 hy hY0 hnyl
        go_wp2_with (at_builtin; refine wpList_append_zero _ rfl _ _ 34 rfl 2 i0 Tryz.underlying34 hi _ _ _ _ _ rfl rfl hNc ?_)
        go_roundw
        case rel => exact ⟨i + 1, N, cap, Ar, by omega, by go_num, rfl, HG.out, h19, hts9⟩
        case measure => simp [intOf] <;> omega
      · obtain ⟨b3, o3, rfl, hb3⟩ := hy.some h0y
        have HNW := Lib.hid (ir_news hy (Below.refl _ _))
        have HL : Hid ((Y.map encI).length = ny * 1) := Lib.hid (by rw [List.length_map]; omega)
        have HO9 := Lib.hid hO9
        have hny2 : N + ny ≤ 100000000 := by omega
        clear hO9 hy hnyl hN2 hYl
        go_wp2_with (at_builtin; refine wpList_append_lies _ rfl _ _ 34 rfl t 2 i0 (.int .i64 0) 1 8 Tryz.underlying34 hi hz0 hz1 hz2 rfl (by decide) _ N (Si.map encI) rfl HO9.out ⟨b3, o3, none⟩ ny cy (Y.map encI) rfl HL.out HNW.out (fun u hu => by obtain ⟨x, _, rfl⟩ := List.mem_map.1 hu; rfl) (by omega) (by unfold maxLen; omega) (by omega) (by omega) _ rfl ?_; intro g4 cap4 w4 hown4 hgrow4 hat4 hlt4)
        have b4 : Below t v1 w4 := h19.grown hgrow4 hts9 (fun q e => (HO9.out.lt q e).1)
        rw [← List.map_append] at hown4
        have hts4 : t ≤ w4.heap.size := Nat.le_trans hts9 hgrow4.size
        go_roundw
        case rel => exact ⟨i + 1, _, cap4, _, by omega, by go_num, rfl, by rw [HS.out]; exact hown4, b4, hts4⟩
        case measure => simp [intOf] <;> omega
    · obtain rfl : i = n := by omega
      have hG := IR.of_own hO
      clear hO
      go_wp2_with fail
      go_ret
      exact ⟨_, _, _, rfl, hG, cc⟩

theorem okS_at {kk ks km ko lg : Int} {L : List Bk} (h : OkS kk ks km ko lg L) {j : Nat} (hj : j < L.length) : OkAt kk ks km ko lg j (L[j]?.getD bk0) :=
  of_decide_eq_true (List.all_eq_true.1 h.2.2.2 j (List.mem_range.2 hj))
theorem okS_len {kk ks km ko lg : Int} {L : List Bk} (h : OkS kk ks km ko lg L) : L.length ≤ 4096 := by
  have h1 := h.2.2.1
  have h2 := h.2.1
  have h3 := h.1.2.1
  have : (lg + ks - 1) / ks ≤ 4096 := Int.le_trans (Int.ediv_le_ediv (by omega) (show lg + ks - 1 ≤ 4096 * ks by
    have := Int.mul_le_mul_of_nonneg_left (show 1 ≤ ks by omega) (show (0 : Int) ≤ 4095 by omega)
    omega)) (by rw [Int.mul_ediv_cancel _ (by omega)]; omega)
  omega
theorem tnLoad_N {w : World} {kk ks km ko lg : Int} {A : Option Addr} {n c : Nat} {L : List Bk} (hA : KR w A n c L) (ho : OkS kk ks km ko lg L) : Calls Tryz.prog 17 #[.agg #[.int .i64 kk, .int .i64 ks, .int .i64 km, .int .i64 ko, .int .i64 lg, .slice A n c]] w (GotI w (ldS L n)) :=
  tnLoadX_N hA (by have := okS_len ho; have := hA.1; omega) (fun j hj => (okS_at ho (by have := hA.1; omega)).1)

end Go.Proofs.YtpidpebgeblenaaGreat
