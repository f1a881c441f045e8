/-
  The walk of ClipMean.
-/
import Derived.Test.YtpephogadljncaaA8
import Derived.Test.YtpephogadljncaaB12
import Derived.Test.YtpephogadljncaaA6
import Derived.Test.YtpephogadljncaaA3
namespace Go.Proofs.Ytpephogadljncaa
set_option maxRecDepth 100000
set_option maxHeartbeats 8000000
open Go.RowKit
set_option linter.unusedVariables false
set_option linter.unusedSimpArgs false

/-- The least, and the greatest, of the first rows' numbers at a place. -/
def loK (L : List (List Int)) (k : Nat) : Nat → Int
  | 0 => (L[0]?.getD [])[k]?.getD 0
  | i + 1 => min (loK L k i) ((L[i]?.getD [])[k]?.getD 0)
def hiK (L : List (List Int)) (k : Nat) : Nat → Int
  | 0 => (L[0]?.getD [])[k]?.getD 0
  | i + 1 => max (hiK L k i) ((L[i]?.getD [])[k]?.getD 0)
theorem lohi_in (L : List (List Int)) (k : Nat) : ∀ i j, j < i → loK L k i ≤ (L[j]?.getD [])[k]?.getD 0 ∧ (L[j]?.getD [])[k]?.getD 0 ≤ hiK L k i
  | 0, j, h => by omega
  | i + 1, j, h => by
    show min _ _ ≤ _ ∧ _ ≤ max _ _
    rcases Nat.lt_or_ge j i with e | e
    · have := lohi_in L k i j e; omega
    · have : j = i := by omega
      rw [this]; omega
theorem mean_lohi {L : List (List Int)} {k : Nat} (h0 : L.length ≠ 0) : loK L k L.length ≤ mean16 L k ∧ mean16 L k ≤ hiK L k L.length := mean_in h0 (fun l hl => by
  obtain ⟨j, hj, rfl⟩ := List.mem_iff_getElem.1 hl
  have := lohi_in L k L.length j hj
  rw [List.getElem?_eq_getElem hj] at this
  exact this)
theorem meanL_one (x : List Int) : meanL [x] = x := by
  unfold meanL
  show (List.range x.length).map (mean16 [x]) = x
  refine List.ext_getElem (by simp) (fun i h1 h2 => ?_)
  rw [List.getElem_map, List.getElem_range, mean_one, List.getElem?_eq_getElem h2]
  rfl
theorem meanL_at {L : List (List Int)} {k : Nat} (h : k < (L[0]?.getD []).length) : (meanL L)[k]?.getD 0 = mean16 L k := by
  unfold meanL
  rw [List.getElem?_map, List.getElem?_range h]; rfl
theorem meanL_len (L : List (List Int)) : (meanL L).length = (L[0]?.getD []).length := by unfold meanL; simp
theorem mn16_run {P : Program} (w : World) (ts : Array TypeId) (t : TypeId) (x y : Int) : (Builtin.min_ ts t #[.int .i64 x, .int .i64 y]).run P w = .ok (.int .i64 (min x y)) w := by
  rw [run_min_int2]
  congr 2
  split <;> omega
theorem mx16_run {P : Program} (w : World) (ts : Array TypeId) (t : TypeId) (x y : Int) : (Builtin.max_ ts t #[.int .i64 x, .int .i64 y]).run P w = .ok (.int .i64 (max x y)) w := by
  rw [run_max_int2]
  congr 2
  split <;> omega
/-- A cell of a row is as it was behind a store into an integer's box. -/
theorem ir_zed {z w : World} {g b o n c k : Nat} {b0 : Bool} {A0 : Option Addr} {n0 c0 : Nat} {l : List Int} {u v : Value} {x : Int} (hB : Box z g b0 A0 n0 c0) (hR : IR w (some ⟨b, o, none⟩) n c l) (hb : b < w.heap.size) (hz : Below w.heap.size w z) (hk : k < n) (hx : w.cell? ⟨b, o + k, none⟩ = some (.int .i64 x)) : ((z.setCell ⟨g, 0, none⟩ u).setCell ⟨g, 1, none⟩ v).cell? ⟨b, o + k, none⟩ = some (.int .i64 x) := by
  have h1 := cK hz hx hb
  have h2 : (⟨b, o + k, none⟩ : Addr) ≠ ⟨g, 0, none⟩ := fun e => by have := hB.1; rw [← e, h1] at this; cases this
  have h3 : (⟨b, o + k, none⟩ : Addr) ≠ ⟨g, 1, none⟩ := fun e => by have := hB.2; rw [← e, h1] at this; cases this
  rw [World.cell?_setCell_other (h := Ne.symm h3), World.cell?_setCell_other (h := Ne.symm h2)]
  exact h1
theorem rsame9_self16m {w : World} {A B : Option Addr} {n c m d : Nat} {L : List Int} (hA : IR w A n c L) (hB : IR w B m d L) (hn : n ≤ 9223372036854775807) : Calls Try.prog 14 #[.slice A n c, .slice B m d] w (GotV w (.bool true)) := by
  have h := rsame9_any hA hB hn
  rw [decide_eq_true rfl] at h
  exact h

theorem ClipMean_many {w : World} {A : Option Addr} {n c : Nat} {L : List (List Int)} (hA : RR w A n c L) (hn : n ≤ 2305843009213693952) (hl : ∀ l ∈ L, l.length ≤ 2305843009213693952) (hf : ¬ few16 L ≤ 40) :
    Calls Try.prog 6 #[.slice A n c] w fun e w' => e = .returned (.bool true) ∧ Below w.heap.size w w' := by
  have CF := rFew16_N hA hn hl
  rw [decide_eq_false hf] at CF
  clear hA hn hl hf
  have cc := Below.refl w.heap.size w
  go_enter Try.func6, Try.ntmps6
  go_wp2_with fail
  refine (CF).mono ?_
  rintro e w1 ⟨rfl, b⟩
  replace cc := bK cc b
  clear b
  go_wp2_with fail
  refine (alive16_any _).mono ?_
  rintro e w2 ⟨rfl, b⟩
  replace cc := bK cc b
  clear b
  go_wp2_with fail
  go_ret
  exact ⟨rfl, cc⟩

theorem ClipMean_none {w : World} {A : Option Addr} {n c : Nat} {L : List (List Int)} (hA : RR w A n c L) (hn : n ≤ 2305843009213693952) (hl : ∀ l ∈ L, l.length ≤ 2305843009213693952) (hf : few16 L ≤ 40) (h0 : L = []) :
    Calls Try.prog 6 #[.slice A n c] w fun e w' => e = .returned (.bool true) ∧ Below w.heap.size w w' := by
  have CF := rFew16_N hA hn hl
  rw [decide_eq_true hf] at CF
  obtain ⟨q1, q2⟩ := few_rows hf
  have hz := rr_i64 hA
  have hn1 : n ≤ 100 := by rw [hA.1]; omega
  have hl1 : ∀ l ∈ L, l.length ≤ 100 ∧ ∀ z ∈ l, I64 z := fun l h => ⟨by have := q2 l h; omega, hz l h⟩
  have CM := fun {W : World} (h : RR W A n c L) => clMean_N h hn1 hl1
  have e1 : mnL L = [] := by unfold mnL; rw [if_pos (.inl h0)]
  have e2 : mnE L = 9 := by unfold mnE; rw [if_pos h0]
  rw [e1, e2] at CM
  have hn0 : n = 0 := by rw [hA.1, h0]; rfl
  clear hn hl hf q1 q2 hz hn1 hl1 e1 e2 h0
  subst hn0
  have cc := Below.refl w.heap.size w
  go_enter Try.func6, Try.ntmps6
  go_wp2_with fail
  refine (CF).mono ?_
  rintro e w1 ⟨rfl, b⟩
  replace hA := hA.on b
  replace cc := bK cc b
  clear b
  go_wp2_with fail
  refine (CM hA).mono ?_
  rintro e w2 ⟨Am, nm_, cm, rfl, hm, b⟩
  replace hA := hA.on b
  replace cc := bK cc b
  clear b
  obtain rfl : nm_ = 0 := hm.1
  clear hm hA CM
  go_wp2_with fail
  go_loop [5] (fun iv => iv = .int .i64 0) (fun iv => 0)
  case atStart => rfl
  case round =>
    subst hrel
    go_wp2_with fail
    refine (alive16_any _).mono ?_
    rintro e w3 ⟨rfl, b⟩
    replace cc := bK cc b
    clear b
    go_wp2_with fail
    go_ret
    exact ⟨rfl, cc⟩

theorem ClipMean_shape {w : World} {A : Option Addr} {n c : Nat} {L : List (List Int)} (hA : RR w A n c L) (hn : n ≤ 2305843009213693952) (hl : ∀ l ∈ L, l.length ≤ 2305843009213693952) (hf : few16 L ≤ 40) (h0 : L ≠ []) (hk : ¬ OkM L) :
    Calls Try.prog 6 #[.slice A n c] w fun e w' => e = .returned (.bool true) ∧ Below w.heap.size w w' := by
  have CF := rFew16_N hA hn hl
  rw [decide_eq_true hf] at CF
  obtain ⟨q1, q2⟩ := few_rows hf
  have hz := rr_i64 hA
  have hn1 : n ≤ 100 := by rw [hA.1]; omega
  have hl1 : ∀ l ∈ L, l.length ≤ 100 ∧ ∀ z ∈ l, I64 z := fun l h => ⟨by have := q2 l h; omega, hz l h⟩
  have hp : 0 < n := by rcases Nat.eq_zero_or_pos n with e | e; exact absurd (List.eq_nil_of_length_eq_zero (by rw [← hA.1]; exact e)) h0; exact e
  have CM := fun {W : World} (h : RR W A n c L) => clMean_N h hn1 hl1
  have e1 : mnL L = [] := by unfold mnL; rw [if_pos (.inr hk)]
  have e2 : mnE L = 5 := by unfold mnE; rw [if_neg h0, if_neg hk]
  rw [e1, e2] at CM
  obtain ⟨d, hd⟩ : ∃ d, (L[0]?.getD []).length = d := ⟨_, rfl⟩
  have hd100 : d ≤ 40 := by rw [← hd]; exact q2 _ (mem_at16 (by rw [← hA.1]; exact hp))
  have t0 : ((n : Int) == 0) = false := beq_eq_false_iff_ne.2 (by omega)
  have t0b : (n == 0) = false := beq_eq_false_iff_ne.2 (by omega)
  have HN1 := Lib.hid (show n ≤ 40 by rw [hA.1]; omega)
  have HL := Lib.hid hl1
  have HLN := Lib.hid hA.1
  have HD := Lib.hid hd
  have HOK := Lib.hid hk
  have HN0 := Lib.hid hp
  have HD1 := Lib.hid hd100
  have nl : n ≤ 9223372036854775807 := by omega
  clear hn hl hf q1 q2 hz hn1 hl1 e1 e2 h0 hk hp hd hd100
  have cc := Below.refl w.heap.size w
  go_enter Try.func6, Try.ntmps6
  go_wp2_with fail
  refine (CF).mono ?_
  rintro e w1 ⟨rfl, b⟩
  replace hA := hA.on b
  replace cc := bK cc b
  clear b
  go_wp2_with fail
  refine (CM hA).mono ?_
  rintro e w2 ⟨Am, nm_, cm, rfl, hm, b⟩
  replace hA := hA.on b
  replace cc := bK cc b
  clear b
  have HAV := Lib.hid hA
  have HMV := Lib.hid hm
  have HCC := Lib.hid cc
  obtain ⟨bb, off, eA, hbb⟩ := hA.some HN0.out
  subst eA
  have HBB := Lib.hid hbb
  clear hA hm cc hbb CM CF
  obtain rfl : nm_ = 0 := HMV.out.1
  go_wp2_with fail
  go_loopw [5] (fun iv wr => ∃ i : Nat, i ≤ n ∧ iv = .int .i64 (i : Int) ∧ Hid (∀ j, j < i → (L[j]?.getD []).length = d) ∧ Below w2.heap.size w2 wr) (fun iv _ => n - (intOf iv).toNat)
  case atStart => exact ⟨0, by omega, rfl, Lib.hid (fun j h => by omega), Below.refl _ _⟩
  case round =>
    obtain ⟨i, hi2, rfl, hsame, hb0⟩ := hrel
    have hA := HAV.out.on hb0
    have HB9 := Lib.hid hb0
    have hn0 := HN0.out
    obtain ⟨A0, n0, c0, h0, hR0⟩ := rr_zero hA HN0.out
    have e0 : n0 = d := by rw [hR0.1]; exact HD.out
    subst e0
    by_cases hlt : i < n
    · obtain ⟨A1, n1, c1, h1, hR1, _⟩ := rr_at hA hlt
      have e1 := hR1.1
      have jl : (i : Int) < (n : Int) := by omega
      have j0 : (0 : Int) < (n : Int) := by omega
      have HE1 := Lib.hid e1
      clear hA hR0 hR1 e1 hb0
      by_cases hq : n1 = n0
      · have q1 : ((n1 : Int) != (n0 : Int)) = false := by rw [hq]; simp
        have q2 : (n1 != n0) = false := by rw [hq]; simp
        have HS2 : Hid (∀ j, j < i + 1 → (L[j]?.getD []).length = n0) := Lib.hid (fun j hj => by rcases Nat.lt_or_ge j i with e | e; exact hsame.out j e; rw [show j = i by omega, ← HE1.out]; exact hq)
        have k3 : IntKind.i64.wrap ((i : Int) + 1) = ((i + 1 : Nat) : Int) := by rw [IntWalk.i64_in _ (by omega)]; omega
        clear hq
        go_wp2_with fail
        go_region_held3 (fun w' => w'.cell? ⟨bb, off + i, none⟩ = some (.slice A1 n1 c1) ∧ w'.cell? ⟨bb, off, none⟩ = some (.slice A0 n0 c0)) (exact ⟨h1, h0⟩) (fail)
        go_wp2_with fail
        go_roundw
        case rel => exact ⟨i + 1, by omega, by go_num, HS2, below_drewN HB9.out 1⟩
        case measure => simp [intOf] <;> omega
      · have q1 : ((n1 : Int) != (n0 : Int)) = true := by simp; omega
        have q2 : (n1 != n0) = true := by simp; omega
        have cc := below_drewN (HCC.out.trans (HB9.out.mono HCC.out.size)) 1
        go_wp2_with fail
        go_region_held3 (fun w' => w'.cell? ⟨bb, off + i, none⟩ = some (.slice A1 n1 c1) ∧ w'.cell? ⟨bb, off, none⟩ = some (.slice A0 n0 c0)) (exact ⟨h1, h0⟩) (fail)
        go_wp2_with fail
        refine (alive16_any _).mono ?_
        rintro e w9 ⟨rfl, b⟩
        replace cc := bK cc b
        clear b
        go_wp2_with fail
        go_ret
        exact ⟨rfl, cc⟩
    · exact absurd (fun l hl => by obtain ⟨j, hj, rfl⟩ := List.mem_iff_getElem.1 hl; have := hsame.out j (by have := HLN.out; omega); rw [List.getElem?_eq_getElem hj] at this; rw [HD.out]; exact this) HOK.out

theorem ClipMean_one {w : World} {A : Option Addr} {n c : Nat} {L : List (List Int)} (hA : RR w A n c L) (hn : n ≤ 2305843009213693952) (hl : ∀ l ∈ L, l.length ≤ 2305843009213693952) (hf : few16 L ≤ 40) (h0 : L ≠ []) (hk : OkM L) (h1 : n = 1) :
    Calls Try.prog 6 #[.slice A n c] w fun e w' => e = .returned (.bool true) ∧ Below w.heap.size w w' := by
  have CF := rFew16_N hA hn hl
  rw [decide_eq_true hf] at CF
  obtain ⟨q1, q2⟩ := few_rows hf
  have hz := rr_i64 hA
  have hn1 : n ≤ 100 := by rw [hA.1]; omega
  have hl1 : ∀ l ∈ L, l.length ≤ 100 ∧ ∀ z ∈ l, I64 z := fun l h => ⟨by have := q2 l h; omega, hz l h⟩
  have hp : 0 < n := by rcases Nat.eq_zero_or_pos n with e | e; exact absurd (List.eq_nil_of_length_eq_zero (by rw [← hA.1]; exact e)) h0; exact e
  have CM := fun {W : World} (h : RR W A n c L) => clMean_N h hn1 hl1
  have e1 : mnL L = meanL L := by unfold mnL; rw [if_neg (fun e => e.elim h0 (fun e2 => e2 hk))]
  have e2 : mnE L = 0 := by unfold mnE; rw [if_neg h0, if_pos hk]
  rw [e1, e2] at CM
  obtain ⟨d, hd⟩ : ∃ d, (L[0]?.getD []).length = d := ⟨_, rfl⟩
  have hd100 : d ≤ 40 := by rw [← hd]; exact q2 _ (mem_at16 (by rw [← hA.1]; exact hp))
  obtain ⟨M, eM⟩ : ∃ M, meanL L = M := ⟨_, rfl⟩
  have hMl : M.length = d := by rw [← eM, meanL_len, hd]
  rw [eM] at CM
  have HMA : Hid (∀ k, k < d → M[k]?.getD 0 = mean16 L k) := Lib.hid (fun k h => by rw [← eM]; exact meanL_at (by rw [hd]; exact h))
  have HML := Lib.hid hMl
  have HM1 : Hid (M = L[0]?.getD []) := Lib.hid (by rw [← eM]; obtain ⟨x, rfl⟩ := List.length_eq_one_iff.1 (show L.length = 1 by rw [← hA.1]; exact h1); exact meanL_one x)
  have t1 : ((n : Int) == 1) = true := beq_iff_eq.2 (by omega)
  have t1b : (n == 1) = true := beq_iff_eq.2 h1
  have t0 : ((n : Int) == 0) = false := beq_eq_false_iff_ne.2 (by omega)
  have t0b : (n == 0) = false := beq_eq_false_iff_ne.2 (by omega)
  have HN1 := Lib.hid (show n ≤ 40 by rw [hA.1]; omega)
  have HL := Lib.hid hl1
  have HLN := Lib.hid hA.1
  have HD := Lib.hid hd
  have HOK := Lib.hid hk
  have HN0 := Lib.hid hp
  have HD1 := Lib.hid hd100
  have nl : n ≤ 9223372036854775807 := by omega
  clear hn hl hf q1 q2 hz hn1 hl1 e1 e2 h0 hk hp hd hd100 eM hMl h1
  have cc := Below.refl w.heap.size w
  go_enter Try.func6, Try.ntmps6
  go_wp2_with fail
  refine (CF).mono ?_
  rintro e w1 ⟨rfl, b⟩
  replace hA := hA.on b
  replace cc := bK cc b
  clear b
  go_wp2_with fail
  refine (CM hA).mono ?_
  rintro e w2 ⟨Am, nm_, cm, rfl, hm, b⟩
  replace hA := hA.on b
  replace cc := bK cc b
  clear b
  have HAV := Lib.hid hA
  have HMV := Lib.hid hm
  have HCC := Lib.hid cc
  obtain ⟨bb, off, eA, hbb⟩ := hA.some HN0.out
  subst eA
  have HBB := Lib.hid hbb
  clear hA hm cc hbb CM CF
  go_wp2_with fail
  go_loopw [5] (fun iv wr => ∃ i : Nat, i ≤ n ∧ iv = .int .i64 (i : Int) ∧ Hid (∀ j, j < i → (L[j]?.getD []).length = d) ∧ Below w2.heap.size w2 wr) (fun iv _ => n - (intOf iv).toNat)
  case atStart => exact ⟨0, by omega, rfl, Lib.hid (fun j h => by omega), Below.refl _ _⟩
  case round =>
    obtain ⟨i, hi2, rfl, hsame, hb0⟩ := hrel
    have hA := HAV.out.on hb0
    have HB9 := Lib.hid hb0
    have hn0 := HN0.out
    obtain ⟨A0, n0, c0, h0, hR0⟩ := rr_zero hA HN0.out
    have e0 : n0 = d := by rw [hR0.1]; exact HD.out
    subst e0
    by_cases hlt : i < n
    · obtain ⟨A1, n1, c1, h1, hR1, _⟩ := rr_at hA hlt
      have e1 := hR1.1
      have jl : (i : Int) < (n : Int) := by omega
      have j0 : (0 : Int) < (n : Int) := by omega
      have HE1 := Lib.hid e1
      clear hA hR0 hR1 e1 hb0
      by_cases hq : n1 = n0
      · have q1 : ((n1 : Int) != (n0 : Int)) = false := by rw [hq]; simp
        have q2 : (n1 != n0) = false := by rw [hq]; simp
        have HS2 : Hid (∀ j, j < i + 1 → (L[j]?.getD []).length = n0) := Lib.hid (fun j hj => by rcases Nat.lt_or_ge j i with e | e; exact hsame.out j e; rw [show j = i by omega, ← HE1.out]; exact hq)
        have k3 : IntKind.i64.wrap ((i : Int) + 1) = ((i + 1 : Nat) : Int) := by rw [IntWalk.i64_in _ (by omega)]; omega
        clear hq
        go_wp2_with fail
        go_region_held3 (fun w' => w'.cell? ⟨bb, off + i, none⟩ = some (.slice A1 n1 c1) ∧ w'.cell? ⟨bb, off, none⟩ = some (.slice A0 n0 c0)) (exact ⟨h1, h0⟩) (fail)
        go_wp2_with fail
        go_roundw
        case rel => exact ⟨i + 1, by omega, by go_num, HS2, below_drewN HB9.out 1⟩
        case measure => simp [intOf] <;> omega
      · exact absurd (by rw [HE1.out, HOK.out _ (mem_at16 (by rw [← HLN.out]; exact hlt))]; exact HD.out) hq
    · obtain rfl : i = n := by omega
      have hm := HMV.out.on hb0
      have enm : nm_ = n0 := by rw [HMV.out.1]; exact HML.out
      subst enm
      have cc := HCC.out.trans (hb0.mono HCC.out.size)
      have j0 : (0 : Int) < (i : Int) := by omega
      have hbq := Nat.lt_of_lt_of_le HBB.out hb0.size
      clear HAV HMV HB9 hb0 HCC
      go_wp2_with fail
      refine (rsame9_self16m hm (by rw [HM1.out]; exact hR0) (by have := HD1.out; omega)).mono ?_
      rintro e w3 ⟨rfl, b⟩
      replace h0 := cK b h0 hbq
      replace hbq := lK b hbq
      replace hA := hA.on b
      replace hR0 := hR0.on b
      replace hm := hm.on b
      replace cc := bK cc b
      clear b
      have HAV := Lib.hid hA
      have HMV := Lib.hid hm
      have HCC := Lib.hid cc
      have HBQ := Lib.hid hbq
      clear hR0 hA hm cc hbq
      go_wp2_with fail
      clear h0
      go_loopw [6] (fun kv wr => ∃ k : Nat, k ≤ nm_ ∧ kv = .int .i64 (k : Int) ∧ Below w3.heap.size w3 wr) (fun kv _ => nm_ - (intOf kv).toNat)
      case atStart => exact ⟨0, by omega, rfl, Below.refl _ _⟩
      case round =>
        obtain ⟨k, hk2, rfl, hcw⟩ := hrel
        obtain ⟨wv, rfl⟩ : ∃ W, W = wr := ⟨_, rfl⟩
        have HCW := Lib.hid hcw
        by_cases hlt2 : k < nm_
        · have hA := HAV.out.on hcw
          have hm := HMV.out.on hcw
          have hbw := Nat.lt_of_lt_of_le HBQ.out hcw.size
          obtain ⟨A0, n0, c0, h0, hR0⟩ := rr_zero hA HN0.out
          have e0 : n0 = nm_ := by rw [hR0.1]; exact HD.out
          subst e0
          obtain ⟨b0_, o0_, rfl, hb0_⟩ := ir_some16 hR0 (by omega)
          have hv0 := ir_cell16 hR0 hlt2
          have hd40 := HD1.out
          have jk : (k : Int) < (n0 : Int) := by omega
          have kk3 : IntKind.i64.wrap ((k : Int) + 1) = ((k + 1 : Nat) : Int) := by rw [IntWalk.i64_in _ (by omega)]; omega
          have HCK : Hid (∀ l ∈ L, k < l.length) := Lib.hid (fun l hx => by rw [HOK.out l hx, HD.out]; exact hlt2)
          have hLn : i = L.length := HLN.out
          have hL0 : L.length ≠ 0 := by have := HN0.out; omega
          obtain ⟨S, eS⟩ : ∃ S : Nat → Int, (fun j => colS k (L.take j)) = S := ⟨_, rfl⟩
          have HS0 : Hid (S 0 = 0) := Lib.hid (by rw [← eS]; rfl)
          have HS1 : Hid (∀ j, j < i → S (j + 1) = S j + (L[j]?.getD [])[k]?.getD 0) := Lib.hid (fun j hj => by rw [← eS]; exact colS_take k L j (by rw [← HLN.out]; exact hj))
          have HSL : Hid (∀ j, (limbs (S j).natAbs).length ≤ 2) := Lib.hid (fun j => by rw [← eS]; exact colS_len (by have := HN1.out; omega) HL.out)
          have HSN : Hid (S i = colS k L) := Lib.hid (by rw [← eS]; show colS k (L.take i) = _; rw [hLn, List.take_of_length_le (Nat.le_refl _)])
          have HMK : Hid (M[k]?.getD 0 = mean16 L k) := Lib.hid (HMA.out k hlt2)
          have HMI : Hid (I64 (mean16 L k)) := Lib.hid (colS_i64 HL.out HCK.out hL0)
          have HMH : Hid (2 * (mean16 L k * (i : Int) - colS k L).natAbs ≤ i) := Lib.hid (by rw [hLn]; exact mean_half hL0)
          have HLH : Hid (loK L k i ≤ mean16 L k ∧ mean16 L k ≤ hiK L k i) := Lib.hid (by rw [hLn]; exact mean_lohi hL0)
          obtain ⟨lo, elo⟩ : ∃ lo : Nat → Int, loK L k = lo := ⟨_, rfl⟩
          obtain ⟨hi_, ehi⟩ : ∃ hi_ : Nat → Int, hiK L k = hi_ := ⟨_, rfl⟩
          have HLO : Hid (∀ j, lo (j + 1) = min (lo j) ((L[j]?.getD [])[k]?.getD 0)) := Lib.hid (fun j => by rw [← elo]; rfl)
          have HHI : Hid (∀ j, hi_ (j + 1) = max (hi_ j) ((L[j]?.getD [])[k]?.getD 0)) := Lib.hid (fun j => by rw [← ehi]; rfl)
          have HL0 : Hid (lo 0 = (L[0]?.getD [])[k]?.getD 0 ∧ hi_ 0 = (L[0]?.getD [])[k]?.getD 0) := Lib.hid (by rw [← elo, ← ehi]; exact ⟨rfl, rfl⟩)
          rw [elo, ehi] at HLH
          obtain ⟨v0, ev0⟩ : ∃ v, (L[0]?.getD [])[k]?.getD 0 = v := ⟨_, rfl⟩
          rw [ev0] at hv0 HL0
          have HRV := Lib.hid hm
          have HBW := Lib.hid hbw
          clear hA hm hR0 hlt2 hLn hL0 eS elo ehi ev0 hcw
          have cc := Below.refl wv.heap.size wv
          go_wp2_with fail
          generalize hv_ : wv.alloc (.cells #[.bool false, .slice none 0 0] 29) = v4
          have bA : Below wv.heap.size wv v4 := by rw [← hv_]; exact below_one _ _
          replace cc := bK cc bA
          clear bA
          obtain ⟨xs0, xs1⟩ : Cs2 v4 wv.heap.size (.bool false) (.slice none 0 0) := by simp [Cs2, ← hv_, go_sem]
          obtain ⟨xsr0, xsr1⟩ : Fz2 v4 wv.heap.size := by simp [Fz2, ← hv_, go_sem]
          have xsl : wv.heap.size < v4.heap.size := by simp [← hv_]
          clear hv_
          replace h0 := cK cc h0 hbw
          replace hv0 := cK cc hv0 hb0_
          replace hbw := lK cc hbw
          replace hb0_ := lK cc hb0_
          have bD : Below v4.heap.size v4 v4.drew := below_drewN (Below.refl _ v4) 1
          replace h0 := cK bD h0 hbw
          replace hv0 := cK bD hv0 hb0_
          replace hb0_ := lK bD hb0_
          replace hbw := lK bD hbw
          rewrite [fR bD xsl] at xsr0 xsr1
          rewrite [cR bD xsl] at xs0 xs1
          replace xsl := lK bD xsl
          replace cc := bK cc bD
          clear bD
          go_region_held3 (fun w' => w'.cell? ⟨bb, off, none⟩ = some (.slice (some ⟨b0_, o0_, none⟩) n0 c0) ∧ w'.cell? ⟨b0_, o0_ + k, none⟩ = some (.int .i64 v0)) (exact ⟨h0, hv0⟩) (fail)
          generalize v4.drew = v5 at *
          have HI0 : Hid (Box v5 (wv.heap.size) false none 0 0 ∧ Zn v5 false none 0 0 (S 0) ∧ (v5.frozen? ⟨wv.heap.size, 0, none⟩ = false ∧ v5.frozen? ⟨wv.heap.size, 1, none⟩ = false)) := Lib.hid ⟨⟨xs0, xs1⟩, by rw [HS0.out]; exact zn_none _, xsr0, xsr1⟩
          have HC := Lib.hid cc
          have HLX := Lib.hid xsl
          have HH0 := Lib.hid h0
          clear xs0 xs1 xsr0 xsr1 xsl cc h0 hv0 hbw hb0_
          go_wp2_with fail
          go_loopw [8, 9, 10] (fun lv hv iv wr => ∃ (j : Nat) (bz : Bool) (Az : Option Addr) (nz cz : Nat), j ≤ i ∧ iv = .int .i64 (j : Int) ∧ lv = .int .i64 (lo j) ∧ hv = .int .i64 (hi_ j) ∧ Box wr (wv.heap.size) bz Az nz cz ∧ Zn wr bz Az nz cz (S j) ∧ (wr.frozen? ⟨wv.heap.size, 0, none⟩ = false ∧ wr.frozen? ⟨wv.heap.size, 1, none⟩ = false) ∧ Below wv.heap.size wv wr ∧ v5.heap.size ≤ wr.heap.size) (fun _ _ iv _ => i - (intOf iv).toNat)
          case atStart => exact ⟨0, _, _, _, _, by omega, rfl, by rw [HL0.out.1], by rw [HL0.out.2], HI0.out.1, HI0.out.2.1, HI0.out.2.2, HC.out, Nat.le_refl _⟩
          case round =>
            clear HI0 HC
            obtain ⟨j, bz, Az, nz, cz, hj, rfl, rfl, rfl, ⟨xs0, xs1⟩, hx, ⟨xsr0, xsr1⟩, cc, hsz⟩ := hrel
            have xsl := Nat.lt_of_lt_of_le HLX.out hsz
            by_cases hlt3 : j < i
            · have hA := HAV.out.on (HCW.out.trans (cc.mono HCW.out.size))
              obtain ⟨A2, n2, c2, h2, hR2, hz2_⟩ := rr_at hA hlt3
              have en2 : k < n2 := by rw [hR2.1]; exact HCK.out _ (mem_at16 (by rw [← HLN.out]; exact hlt3))
              obtain ⟨b2, o2, rfl, hb2⟩ := ir_some16 hR2 (by omega)
              have h3 := ir_cell16 hR2 en2
              have hv6 := i64_of_mem hz2_ (j := k) (by rw [← hR2.1]; exact en2)
              have hS := HS1.out j hlt3
              have hlo := HLO.out j
              have hhi := HHI.out j
              obtain ⟨v, ev⟩ : ∃ v, (L[j]?.getD [])[k]?.getD 0 = v := ⟨_, rfl⟩
              rw [ev] at h3 hv6 hS hlo hhi
              have hb1 := Nat.lt_of_lt_of_le HBW.out cc.size
              have jj : (j : Int) < (i : Int) := by omega
              have jk2 : (k : Int) < (n2 : Int) := by omega
              have k3 : IntKind.i64.wrap ((j : Int) + 1) = ((j + 1 : Nat) : Int) := by have := HN1.out; rw [IntWalk.i64_in _ (by omega)]; omega
              have hb9 := HBW.out
              obtain ⟨a, ea⟩ : ∃ a, lo j = a := ⟨_, rfl⟩
              obtain ⟨a2, ea2⟩ : ∃ a, lo (j + 1) = a := ⟨_, rfl⟩
              obtain ⟨q, eq⟩ : ∃ a, hi_ j = a := ⟨_, rfl⟩
              obtain ⟨q2, eq2⟩ : ∃ a, hi_ (j + 1) = a := ⟨_, rfl⟩
              rw [ea, ea2] at hlo
              rw [eq, eq2] at hhi
              rw [ea, eq]
              have hmn : ∀ (W : World) (ts : Array TypeId) (t : TypeId), (Builtin.min_ ts t #[.int .i64 a, .int .i64 v]).run Try.prog W = .ok (.int .i64 a2) W := fun W ts t => by rw [hlo]; exact mn16_run W ts t a v
              have hmx : ∀ (W : World) (ts : Array TypeId) (t : TypeId), (Builtin.max_ ts t #[.int .i64 q, .int .i64 v]).run Try.prog W = .ok (.int .i64 q2) W := fun W ts t => by rw [hhi]; exact mx16_run W ts t q v
              have HEA := Lib.hid ea2
              have HEQ := Lib.hid eq2
              have CV := fun W : World => rzof_N W v hv6
              have HV1 := Lib.hid (len_one hv6.abs)
              have HSX := Lib.hid (HSL.out j)
              have HSE := Lib.hid hS
              have HZ_ := Lib.hid hsz
              have HB2 := Lib.hid hb2
              clear hA hz2_ hv6 hS hlo hhi ea ea2 eq eq2 ev hsz
              go_wp2_with fail
              have BD : Below wr.heap.size wr wr.drew := below_drewN (Below.refl _ wr) 1
              go_region_with (first | (go_at_call 11; refine (CV _).mono ?_; rintro e z1 ⟨bv, Av, nv, cv, rfl, hv, b⟩; have hx1 := (hx.on BD).on b; have b1 := BD.trans (b.mono BD.size); have x0 := cK b1 xs0 xsl; have x1 := cK b1 xs1 xsl; have r0 := fK b1 xsr0 xsl; have r1 := fK b1 xsr1 xsl; have xl1 := Nat.lt_of_lt_of_le xsl b1.size; clear b) | (go_at_call 21; refine (rzadd_N hx1 hv (Nat.le_trans HSX.out (by omega)) (Nat.le_trans HV1.out (by omega))).mono ?_; rintro e z2 ⟨bu, Au, nu, cu, rfl, hu, b⟩; have y0 := cK b x0 xl1; have y1 := cK b x1 xl1; have s0 := fK b r0 xl1; have s1 := fK b r1 xl1; have b2_ := b1.trans (b.mono b1.size); have xl2 := Nat.lt_of_lt_of_le xl1 b.size; clear b))
              all_goals rw [← HSE.out] at hu
              all_goals have bb_ : Box z2 (wv.heap.size) bz Az nz cz := ⟨y0, y1⟩
              all_goals have c2_ := cc.trans (b2_.mono cc.size)
              all_goals have HU : Hid (Below wr.heap.size wr z2) := Lib.hid b2_
              all_goals have HE : Hid (Box ((z2.setCell ⟨wv.heap.size, 0, none⟩ (.bool bu)).setCell ⟨wv.heap.size, 1, none⟩ (.slice Au nu cu)) (wv.heap.size) bu Au nu cu ∧ Zn ((z2.setCell ⟨wv.heap.size, 0, none⟩ (.bool bu)).setCell ⟨wv.heap.size, 1, none⟩ (.slice Au nu cu)) bu Au nu cu (S (j + 1)) ∧ (((z2.setCell ⟨wv.heap.size, 0, none⟩ (.bool bu)).setCell ⟨wv.heap.size, 1, none⟩ (.slice Au nu cu)).frozen? ⟨wv.heap.size, 0, none⟩ = false ∧ ((z2.setCell ⟨wv.heap.size, 0, none⟩ (.bool bu)).setCell ⟨wv.heap.size, 1, none⟩ (.slice Au nu cu)).frozen? ⟨wv.heap.size, 1, none⟩ = false) ∧ Below wv.heap.size wv ((z2.setCell ⟨wv.heap.size, 0, none⟩ (.bool bu)).setCell ⟨wv.heap.size, 1, none⟩ (.slice Au nu cu)) ∧ v5.heap.size ≤ ((z2.setCell ⟨wv.heap.size, 0, none⟩ (.bool bu)).setCell ⟨wv.heap.size, 1, none⟩ (.slice Au nu cu)).heap.size) := Lib.hid ⟨bb_.put _ _ _ _, hu.put bb_ _ _, ⟨by simpa [go_sem] using s0, by simpa [go_sem] using s1⟩, below_put c2_ (Nat.le_refl _) _ _, by have := HZ_.out; have := b2_.size; simp; omega⟩
              all_goals have h2u : ((z2.setCell ⟨wv.heap.size, 0, none⟩ (.bool bu)).setCell ⟨wv.heap.size, 1, none⟩ (.slice Au nu cu)).cell? ⟨bb, off + j, none⟩ = some (.slice (some ⟨b2, o2, none⟩) n2 c2) := (cell_store (by omega)).trans (cK b2_ h2 hb1)
              all_goals have h3u : ((z2.setCell ⟨wv.heap.size, 0, none⟩ (.bool bu)).setCell ⟨wv.heap.size, 1, none⟩ (.slice Au nu cu)).cell? ⟨b2, o2 + k, none⟩ = some (.int .i64 v) := (ir_zed bb_ hR2 hb2 b2_ en2 (by exact h3))
              all_goals clear bb_ hx hx1 hu c2_ cc x0 x1 r0 r1 s0 s1 y0 y1
              all_goals generalize ((z2.setCell ⟨wv.heap.size, 0, none⟩ (.bool bu)).setCell ⟨wv.heap.size, 1, none⟩ (.slice Au nu cu)) = u9 at *
              all_goals go_wp2_with fail
              all_goals go_roundw
              all_goals first | exact ⟨j + 1, _, _, _, _, by omega, by go_num, by rw [HEA.out], by rw [HEQ.out], HE.out⟩ | (simp [intOf] <;> omega)
            · obtain rfl : j = i := by omega
              have hm := HRV.out.on cc
              obtain ⟨b3, o3, rfl, hb3⟩ := ir_some16 hm (by omega)
              have hmk := ir_cell16 hm (j := k) (by omega)
              rw [HMK.out] at hmk
              have hmi := HMI.out
              have hmh := HMH.out
              have hlh := HLH.out
              have hsl := HSL.out j
              rw [← HSN.out] at hmh
              obtain ⟨Mk, eMk⟩ : ∃ x, mean16 L k = x := ⟨_, rfl⟩
              rw [eMk] at hmk hmi hmh hlh
              obtain ⟨s_, es⟩ : ∃ x, S j = x := ⟨_, rfl⟩
              rw [es] at hmh hsl hx
              obtain ⟨a, ea⟩ : ∃ a, lo j = a := ⟨_, rfl⟩
              obtain ⟨q, eq⟩ : ∃ a, hi_ j = a := ⟨_, rfl⟩
              rw [ea, eq] at hlh ⊢
              have n40 := HN1.out
              have s1 : decide (Mk < a) = false := decide_eq_false (by omega)
              have s2 : decide (q < Mk) = false := decide_eq_false (by omega)
              have hji : I64 (j : Int) := by unfold I64; omega
              have CMk := fun W : World => rzof_N W Mk hmi
              have CI := fun W : World => rzof_N W (j : Int) hji
              have l1 := len_one hmi.abs
              have l2 := len_one hji.abs
              have l3 := zlen_mul l1 l2
              have l4 := len_diff (k := 2) l3 hsl
              obtain ⟨D, eD⟩ : ∃ D, (Mk * (j : Int) - s_).natAbs = D := ⟨_, rfl⟩
              rw [eD] at hmh l4
              have hjb : j < B64 := by unfold B64; omega
              have CU := fun W : World => rof_N W j hjb
              have ku : IntKind.u64.wrap (j : Int) = (j : Int) := by rw [IntKind.wrap_u64]; omega
              have s3 : decide (0 < cmpN (D + D) j) = false := decide_eq_false (by unfold cmpN; split <;> (try split) <;> omega)
              obtain ⟨p, ep⟩ : ∃ p, cmpN (D + D) j = p := ⟨_, rfl⟩
              rw [ep] at s3
              have l5 := limbs_length_add l4 l4
              have C3 : ∀ {W : World} {B B2 : Option Addr} {m d m2 d2 : Nat}, Num W B m d (D + D) → Num W B2 m2 d2 j → Calls Try.prog 13 #[.slice B m d, .slice B2 m2 d2] W (GotV W (.int .i64 p)) := fun h h2 => by rw [← ep]; exact rcmp_N h h2 (by omega) (Nat.le_trans (len_one hjb) (by omega))
              have HL4 := Lib.hid l4
              have HD_ : Hid (∀ {W : World} {b : Bool} {B : Option Addr} {m d : Nat}, Zn W b B m d (Mk * (j : Int) - s_) → Num W B m d D) := Lib.hid (fun h => by rw [← eD]; exact h.1)
              have m1 : (limbs Mk.natAbs).length ≤ 1000 := by omega
              have m2 : (limbs ((j : Int)).natAbs).length ≤ 1000 := by omega
              have m3 : (limbs (Mk * (j : Int)).natAbs).length ≤ 100 := by omega
              have m4 : (limbs s_.natAbs).length ≤ 100 := by omega
              clear hm hmi hmh hlh hsl eMk es ea eq l1 l2 l3 l4 l5 eD ep hji hsz xsr0 xsr1
              go_upto_region 24 with fail
              go_cut [11] (fun u wx => ∃ (g_ : Nat) (b_ : Bool) (A_ : Option Addr) (n_ c_ : Nat), u = .pointer (some ⟨g_, 0, none⟩) ∧ LoneZ wr wx g_ b_ A_ n_ c_ (Mk * (j : Int) - s_))
              case first =>
                have BB0 : Below wr.heap.size wr wr.drew := below_drewN (Below.refl _ wr) 1
                have BB1 : Below wr.heap.size wr (wr.alloc (.cells #[.bool false, .slice none 0 0] 29)).drew := below_drewN (below_one _ _) 1
                go_region_held3 (fun w' => w'.cell? ⟨b3, o3 + k, none⟩ = some (.int .i64 Mk) ∧ w'.cell? ⟨wv.heap.size, 0, none⟩ = some (.bool bz) ∧ w'.cell? ⟨wv.heap.size, 1, none⟩ = some (.slice Az nz cz))
                  (first | with_reducible exact ⟨hmk, xs0, xs1⟩ | with_reducible exact ⟨keep_alloc (hmk), keep_alloc (xs0), keep_alloc (xs1)⟩ | with_reducible exact ⟨keep_alloc (keep_alloc (hmk)), keep_alloc (keep_alloc (xs0)), keep_alloc (keep_alloc (xs1))⟩ | with_reducible exact ⟨(cK qq hmk hb3), (cK qq xs0 xsl), (cK qq xs1 xsl)⟩ | with_reducible exact ⟨keep_alloc ((cK qq hmk hb3)), keep_alloc ((cK qq xs0 xsl)), keep_alloc ((cK qq xs1 xsl))⟩ | with_reducible exact ⟨keep_alloc (keep_alloc ((cK qq hmk hb3))), keep_alloc (keep_alloc ((cK qq xs0 xsl))), keep_alloc (keep_alloc ((cK qq xs1 xsl)))⟩ | with_reducible exact ⟨((cell_store (by omega)).trans (cK qq hmk hb3)), ((cell_store (by omega)).trans (cK qq xs0 xsl)), ((cell_store (by omega)).trans (cK qq xs1 xsl))⟩ | with_reducible exact ⟨keep_alloc (((cell_store (by omega)).trans (cK qq hmk hb3))), keep_alloc (((cell_store (by omega)).trans (cK qq xs0 xsl))), keep_alloc (((cell_store (by omega)).trans (cK qq xs1 xsl)))⟩ | with_reducible exact ⟨keep_alloc (keep_alloc (((cell_store (by omega)).trans (cK qq hmk hb3)))), keep_alloc (keep_alloc (((cell_store (by omega)).trans (cK qq xs0 xsl)))), keep_alloc (keep_alloc (((cell_store (by omega)).trans (cK qq xs1 xsl))))⟩ | go_keep)
                  (first
                    | (go_at_call 11; (with_reducible refine (CMk _).mono ?_); rintro e y1 ⟨ba, Aa, na, ca, rfl, ha, q⟩; have qq := BB0.trans (q.mono BB0.size); have hx' := (hx.on BB0).on q; have qs1 := qq.size; clear q)
                    | (go_at_call 11; (with_reducible refine (CMk _).mono ?_); rintro e y1 ⟨ba, Aa, na, ca, rfl, ha, q⟩; have qq := BB1.trans (q.mono BB1.size); have hx' := (hx.on BB1).on q; have qs1 := qq.size; obtain ⟨bo_0, fo_0, bo_1, fo_1, ol⟩ := zb2 (g := wr.heap.size) q (by simp) (by simp [Cs2, go_sem]) (by simp [Fz2, go_sem]); clear q)
                    | (go_at_call 11; have up := Below.refl y1.heap.size y1; (with_reducible refine (CI _).mono ?_); rintro e y2 ⟨be, Ae, ne, ce, rfl, he, q⟩; replace qq := uK qq up q; replace hx' := (hx'.on up).on q; replace ha := (ha.on up).on q; (try (rewrite [cR up ol, cR q (lK up ol)] at bo_0 bo_1; rewrite [fR up ol, fR q (lK up ol)] at fo_0 fo_1; replace ol := lK q (lK up ol))); have qs2 := qq.size; clear q up)
                    | (go_at_call 11; have up := below_one y1 (.cells #[.bool false, .slice none 0 0] 29); (with_reducible refine (CI _).mono ?_); rintro e y2 ⟨be, Ae, ne, ce, rfl, he, q⟩; replace qq := uK qq up q; replace hx' := (hx'.on up).on q; replace ha := (ha.on up).on q; (try (rewrite [cR up ol, cR q (lK up ol)] at bo_0 bo_1; rewrite [fR up ol, fR q (lK up ol)] at fo_0 fo_1; replace ol := lK q (lK up ol))); have qs2 := qq.size; obtain ⟨bo_0, fo_0, bo_1, fo_1, ol⟩ := zb2 (g := y1.heap.size) q (by simp) (by simp [Cs2, go_sem]) (by simp [Fz2, go_sem]); clear q up)
                    | (go_at_call 23; have up := Below.refl y2.heap.size y2; (with_reducible refine (rzmul_N (ha.on up) (he.on up) m1 m2).mono ?_); rintro e y3 ⟨bp, Ap, np, cp, rfl, hp, q⟩; replace qq := uK qq up q; replace hx' := (hx'.on up).on q; replace ha := (ha.on up).on q; replace he := (he.on up).on q; (try (rewrite [cR up ol, cR q (lK up ol)] at bo_0 bo_1; rewrite [fR up ol, fR q (lK up ol)] at fo_0 fo_1; replace ol := lK q (lK up ol))); have qs3 := qq.size; clear q up)
                    | (go_at_call 23; have up := below_one y2 (.cells #[.bool false, .slice none 0 0] 29); (with_reducible refine (rzmul_N (ha.on up) (he.on up) m1 m2).mono ?_); rintro e y3 ⟨bp, Ap, np, cp, rfl, hp, q⟩; replace qq := uK qq up q; replace hx' := (hx'.on up).on q; replace ha := (ha.on up).on q; replace he := (he.on up).on q; (try (rewrite [cR up ol, cR q (lK up ol)] at bo_0 bo_1; rewrite [fR up ol, fR q (lK up ol)] at fo_0 fo_1; replace ol := lK q (lK up ol))); have qs3 := qq.size; obtain ⟨bo_0, fo_0, bo_1, fo_1, ol⟩ := zb2 (g := y2.heap.size) q (by simp) (by simp [Cs2, go_sem]) (by simp [Fz2, go_sem]); clear q up)
                    | (go_at_call 22; have up := Below.refl y3.heap.size y3; (with_reducible refine (rzsub_N (hp.on up) m3 (hx'.on up) m4).mono ?_); rintro e y4 ⟨bo, Ao, no, co, rfl, o, q⟩; replace qq := uK qq up q; replace hx' := (hx'.on up).on q; replace ha := (ha.on up).on q; replace he := (he.on up).on q; replace hp := (hp.on up).on q; (try (rewrite [cR up ol, cR q (lK up ol)] at bo_0 bo_1; rewrite [fR up ol, fR q (lK up ol)] at fo_0 fo_1; replace ol := lK q (lK up ol))); have qs4 := qq.size; clear q up)
                    | (go_at_call 22; have up := below_one y3 (.cells #[.bool false, .slice none 0 0] 29); (with_reducible refine (rzsub_N (hp.on up) m3 (hx'.on up) m4).mono ?_); rintro e y4 ⟨bo, Ao, no, co, rfl, o, q⟩; replace qq := uK qq up q; replace hx' := (hx'.on up).on q; replace ha := (ha.on up).on q; replace he := (he.on up).on q; replace hp := (hp.on up).on q; (try (rewrite [cR up ol, cR q (lK up ol)] at bo_0 bo_1; rewrite [fR up ol, fR q (lK up ol)] at fo_0 fo_1; replace ol := lK q (lK up ol))); have qs4 := qq.size; obtain ⟨bo_0, fo_0, bo_1, fo_1, ol⟩ := zb2 (g := y3.heap.size) q (by simp) (by simp [Cs2, go_sem]) (by simp [Fz2, go_sem]); clear q up))
                all_goals (go_wp2_with fail; go_meet)
                all_goals refine ⟨_, bo, Ao, no, co, rfl, ?_⟩
                all_goals first
                  | with_reducible exact loneZA o qq _
                  | with_reducible exact loneZB bo_0 bo_1 o qq (by omega)
              case rest =>
                obtain ⟨gr, br, Ar, nr, cr, rfl, ⟨r0, r1⟩, hr, b, rge⟩ := hcut
                have rl := cell_lt r0
                simp only at rl
                have rqxs : wv.heap.size < gr := Nat.lt_of_lt_of_le xsl rge
                replace hmk := cK b hmk hb3
                replace hb3 := lK b hb3
                replace hx := hx.on b
                rewrite [cR b xsl] at xs0 xs1
                replace xsl := lK b xsl
                replace cc := bK cc b
                clear b
                have hdn := HD_.out hr
                clear hr hx
                go_wp2_with fail
                refine (radd_N hdn hdn (Nat.le_trans HL4.out (by omega)) (Nat.le_trans HL4.out (by omega))).mono ?_
                rintro e w6 ⟨Ag, ng_, cg, rfl, hg, b⟩
                replace hmk := cK b hmk hb3
                replace hb3 := lK b hb3
                replace hdn := hdn.on b
                rewrite [cR b xsl] at xs0 xs1
                replace xsl := lK b xsl
                rewrite [cR b rl] at r0 r1
                replace rl := lK b rl
                replace cc := bK cc b
                clear b
                go_wp2_with fail
                refine (CU _).mono ?_
                rintro e w7 ⟨Ah, nh_, ch, rfl, hh, b⟩
                replace hmk := cK b hmk hb3
                replace hb3 := lK b hb3
                replace hdn := hdn.on b
                replace hg := hg.on b
                rewrite [cR b xsl] at xs0 xs1
                replace xsl := lK b xsl
                rewrite [cR b rl] at r0 r1
                replace rl := lK b rl
                replace cc := bK cc b
                clear b
                go_wp2_with fail
                refine (C3 hg hh).mono ?_
                rintro e w8 ⟨rfl, b⟩
                replace hmk := cK b hmk hb3
                replace hb3 := lK b hb3
                replace hdn := hdn.on b
                replace hg := hg.on b
                replace hh := hh.on b
                rewrite [cR b xsl] at xs0 xs1
                replace xsl := lK b xsl
                rewrite [cR b rl] at r0 r1
                replace rl := lK b rl
                replace cc := bK cc b
                clear b
                go_wp2_with fail
                go_roundw
                case rel => exact ⟨k + 1, by omega, by go_num, HCW.out.trans (cc.mono HCW.out.size)⟩
                case measure => simp [intOf] <;> omega
        · obtain rfl : k = nm_ := by omega
          have cc := HCC.out.trans (HCW.out.mono HCC.out.size)
          go_wp2_with fail
          refine (alive16_any _).mono ?_
          rintro e w9 ⟨rfl, b⟩
          replace cc := bK cc b
          clear b
          go_wp2_with fail
          go_ret
          exact ⟨rfl, cc⟩

theorem ClipMean_more {w : World} {A : Option Addr} {n c : Nat} {L : List (List Int)} (hA : RR w A n c L) (hn : n ≤ 2305843009213693952) (hl : ∀ l ∈ L, l.length ≤ 2305843009213693952) (hf : few16 L ≤ 40) (h0 : L ≠ []) (hk : OkM L) (h1 : n ≠ 1) :
    Calls Try.prog 6 #[.slice A n c] w fun e w' => e = .returned (.bool true) ∧ Below w.heap.size w w' := by
  have CF := rFew16_N hA hn hl
  rw [decide_eq_true hf] at CF
  obtain ⟨q1, q2⟩ := few_rows hf
  have hz := rr_i64 hA
  have hn1 : n ≤ 100 := by rw [hA.1]; omega
  have hl1 : ∀ l ∈ L, l.length ≤ 100 ∧ ∀ z ∈ l, I64 z := fun l h => ⟨by have := q2 l h; omega, hz l h⟩
  have hp : 0 < n := by rcases Nat.eq_zero_or_pos n with e | e; exact absurd (List.eq_nil_of_length_eq_zero (by rw [← hA.1]; exact e)) h0; exact e
  have CM := fun {W : World} (h : RR W A n c L) => clMean_N h hn1 hl1
  have e1 : mnL L = meanL L := by unfold mnL; rw [if_neg (fun e => e.elim h0 (fun e2 => e2 hk))]
  have e2 : mnE L = 0 := by unfold mnE; rw [if_neg h0, if_pos hk]
  rw [e1, e2] at CM
  obtain ⟨d, hd⟩ : ∃ d, (L[0]?.getD []).length = d := ⟨_, rfl⟩
  have hd100 : d ≤ 40 := by rw [← hd]; exact q2 _ (mem_at16 (by rw [← hA.1]; exact hp))
  obtain ⟨M, eM⟩ : ∃ M, meanL L = M := ⟨_, rfl⟩
  have hMl : M.length = d := by rw [← eM, meanL_len, hd]
  rw [eM] at CM
  have HMA : Hid (∀ k, k < d → M[k]?.getD 0 = mean16 L k) := Lib.hid (fun k h => by rw [← eM]; exact meanL_at (by rw [hd]; exact h))
  have HML := Lib.hid hMl
  have t1 : ((n : Int) == 1) = false := beq_eq_false_iff_ne.2 (by omega)
  have t1b : (n == 1) = false := beq_eq_false_iff_ne.2 h1
  have t0 : ((n : Int) == 0) = false := beq_eq_false_iff_ne.2 (by omega)
  have t0b : (n == 0) = false := beq_eq_false_iff_ne.2 (by omega)
  have HN1 := Lib.hid (show n ≤ 40 by rw [hA.1]; omega)
  have HL := Lib.hid hl1
  have HLN := Lib.hid hA.1
  have HD := Lib.hid hd
  have HOK := Lib.hid hk
  have HN0 := Lib.hid hp
  have HD1 := Lib.hid hd100
  have nl : n ≤ 9223372036854775807 := by omega
  clear hn hl hf q1 q2 hz hn1 hl1 e1 e2 h0 hk hp hd hd100 eM hMl h1
  have cc := Below.refl w.heap.size w
  go_enter Try.func6, Try.ntmps6
  go_wp2_with fail
  refine (CF).mono ?_
  rintro e w1 ⟨rfl, b⟩
  replace hA := hA.on b
  replace cc := bK cc b
  clear b
  go_wp2_with fail
  refine (CM hA).mono ?_
  rintro e w2 ⟨Am, nm_, cm, rfl, hm, b⟩
  replace hA := hA.on b
  replace cc := bK cc b
  clear b
  have HAV := Lib.hid hA
  have HMV := Lib.hid hm
  have HCC := Lib.hid cc
  obtain ⟨bb, off, eA, hbb⟩ := hA.some HN0.out
  subst eA
  have HBB := Lib.hid hbb
  clear hA hm cc hbb CM CF
  go_wp2_with fail
  go_loopw [5] (fun iv wr => ∃ i : Nat, i ≤ n ∧ iv = .int .i64 (i : Int) ∧ Hid (∀ j, j < i → (L[j]?.getD []).length = d) ∧ Below w2.heap.size w2 wr) (fun iv _ => n - (intOf iv).toNat)
  case atStart => exact ⟨0, by omega, rfl, Lib.hid (fun j h => by omega), Below.refl _ _⟩
  case round =>
    obtain ⟨i, hi2, rfl, hsame, hb0⟩ := hrel
    have hA := HAV.out.on hb0
    have HB9 := Lib.hid hb0
    have hn0 := HN0.out
    obtain ⟨A0, n0, c0, h0, hR0⟩ := rr_zero hA HN0.out
    have e0 : n0 = d := by rw [hR0.1]; exact HD.out
    subst e0
    by_cases hlt : i < n
    · obtain ⟨A1, n1, c1, h1, hR1, _⟩ := rr_at hA hlt
      have e1 := hR1.1
      have jl : (i : Int) < (n : Int) := by omega
      have j0 : (0 : Int) < (n : Int) := by omega
      have HE1 := Lib.hid e1
      clear hA hR0 hR1 e1 hb0
      by_cases hq : n1 = n0
      · have q1 : ((n1 : Int) != (n0 : Int)) = false := by rw [hq]; simp
        have q2 : (n1 != n0) = false := by rw [hq]; simp
        have HS2 : Hid (∀ j, j < i + 1 → (L[j]?.getD []).length = n0) := Lib.hid (fun j hj => by rcases Nat.lt_or_ge j i with e | e; exact hsame.out j e; rw [show j = i by omega, ← HE1.out]; exact hq)
        have k3 : IntKind.i64.wrap ((i : Int) + 1) = ((i + 1 : Nat) : Int) := by rw [IntWalk.i64_in _ (by omega)]; omega
        clear hq
        go_wp2_with fail
        go_region_held3 (fun w' => w'.cell? ⟨bb, off + i, none⟩ = some (.slice A1 n1 c1) ∧ w'.cell? ⟨bb, off, none⟩ = some (.slice A0 n0 c0)) (exact ⟨h1, h0⟩) (fail)
        go_wp2_with fail
        go_roundw
        case rel => exact ⟨i + 1, by omega, by go_num, HS2, below_drewN HB9.out 1⟩
        case measure => simp [intOf] <;> omega
      · exact absurd (by rw [HE1.out, HOK.out _ (mem_at16 (by rw [← HLN.out]; exact hlt))]; exact HD.out) hq
    · obtain rfl : i = n := by omega
      have hm := HMV.out.on hb0
      have enm : nm_ = n0 := by rw [HMV.out.1]; exact HML.out
      subst enm
      have cc := HCC.out.trans (hb0.mono HCC.out.size)
      have j0 : (0 : Int) < (i : Int) := by omega
      have hbq := Nat.lt_of_lt_of_le HBB.out hb0.size
      clear HAV HMV HB9 hb0 HCC
      obtain ⟨wu, rfl⟩ : ∃ W, W = wr := ⟨_, rfl⟩
      have HAV := Lib.hid hA
      have HMV := Lib.hid hm
      have HCC := Lib.hid cc
      have HBQ := Lib.hid hbq
      clear hR0 hA hm cc hbq
      go_wp2_with fail
      clear h0
      go_loopw [6] (fun kv wr => ∃ k : Nat, k ≤ nm_ ∧ kv = .int .i64 (k : Int) ∧ Below wu.heap.size wu wr) (fun kv _ => nm_ - (intOf kv).toNat)
      case atStart => exact ⟨0, by omega, rfl, Below.refl _ _⟩
      case round =>
        obtain ⟨k, hk2, rfl, hcw⟩ := hrel
        obtain ⟨wv, rfl⟩ : ∃ W, W = wr := ⟨_, rfl⟩
        have HCW := Lib.hid hcw
        by_cases hlt2 : k < nm_
        · have hA := HAV.out.on hcw
          have hm := HMV.out.on hcw
          have hbw := Nat.lt_of_lt_of_le HBQ.out hcw.size
          obtain ⟨A0, n0, c0, h0, hR0⟩ := rr_zero hA HN0.out
          have e0 : n0 = nm_ := by rw [hR0.1]; exact HD.out
          subst e0
          obtain ⟨b0_, o0_, rfl, hb0_⟩ := ir_some16 hR0 (by omega)
          have hv0 := ir_cell16 hR0 hlt2
          have hd40 := HD1.out
          have jk : (k : Int) < (n0 : Int) := by omega
          have kk3 : IntKind.i64.wrap ((k : Int) + 1) = ((k + 1 : Nat) : Int) := by rw [IntWalk.i64_in _ (by omega)]; omega
          have HCK : Hid (∀ l ∈ L, k < l.length) := Lib.hid (fun l hx => by rw [HOK.out l hx, HD.out]; exact hlt2)
          have hLn : i = L.length := HLN.out
          have hL0 : L.length ≠ 0 := by have := HN0.out; omega
          obtain ⟨S, eS⟩ : ∃ S : Nat → Int, (fun j => colS k (L.take j)) = S := ⟨_, rfl⟩
          have HS0 : Hid (S 0 = 0) := Lib.hid (by rw [← eS]; rfl)
          have HS1 : Hid (∀ j, j < i → S (j + 1) = S j + (L[j]?.getD [])[k]?.getD 0) := Lib.hid (fun j hj => by rw [← eS]; exact colS_take k L j (by rw [← HLN.out]; exact hj))
          have HSL : Hid (∀ j, (limbs (S j).natAbs).length ≤ 2) := Lib.hid (fun j => by rw [← eS]; exact colS_len (by have := HN1.out; omega) HL.out)
          have HSN : Hid (S i = colS k L) := Lib.hid (by rw [← eS]; show colS k (L.take i) = _; rw [hLn, List.take_of_length_le (Nat.le_refl _)])
          have HMK : Hid (M[k]?.getD 0 = mean16 L k) := Lib.hid (HMA.out k hlt2)
          have HMI : Hid (I64 (mean16 L k)) := Lib.hid (colS_i64 HL.out HCK.out hL0)
          have HMH : Hid (2 * (mean16 L k * (i : Int) - colS k L).natAbs ≤ i) := Lib.hid (by rw [hLn]; exact mean_half hL0)
          have HLH : Hid (loK L k i ≤ mean16 L k ∧ mean16 L k ≤ hiK L k i) := Lib.hid (by rw [hLn]; exact mean_lohi hL0)
          obtain ⟨lo, elo⟩ : ∃ lo : Nat → Int, loK L k = lo := ⟨_, rfl⟩
          obtain ⟨hi_, ehi⟩ : ∃ hi_ : Nat → Int, hiK L k = hi_ := ⟨_, rfl⟩
          have HLO : Hid (∀ j, lo (j + 1) = min (lo j) ((L[j]?.getD [])[k]?.getD 0)) := Lib.hid (fun j => by rw [← elo]; rfl)
          have HHI : Hid (∀ j, hi_ (j + 1) = max (hi_ j) ((L[j]?.getD [])[k]?.getD 0)) := Lib.hid (fun j => by rw [← ehi]; rfl)
          have HL0 : Hid (lo 0 = (L[0]?.getD [])[k]?.getD 0 ∧ hi_ 0 = (L[0]?.getD [])[k]?.getD 0) := Lib.hid (by rw [← elo, ← ehi]; exact ⟨rfl, rfl⟩)
          rw [elo, ehi] at HLH
          obtain ⟨v0, ev0⟩ : ∃ v, (L[0]?.getD [])[k]?.getD 0 = v := ⟨_, rfl⟩
          rw [ev0] at hv0 HL0
          have HRV := Lib.hid hm
          have HBW := Lib.hid hbw
          clear hA hm hR0 hlt2 hLn hL0 eS elo ehi ev0 hcw
          have cc := Below.refl wv.heap.size wv
          go_wp2_with fail
          generalize hv_ : wv.alloc (.cells #[.bool false, .slice none 0 0] 29) = v3
          have bA : Below wv.heap.size wv v3 := by rw [← hv_]; exact below_one _ _
          replace cc := bK cc bA
          clear bA
          obtain ⟨xs0, xs1⟩ : Cs2 v3 wv.heap.size (.bool false) (.slice none 0 0) := by simp [Cs2, ← hv_, go_sem]
          obtain ⟨xsr0, xsr1⟩ : Fz2 v3 wv.heap.size := by simp [Fz2, ← hv_, go_sem]
          have xsl : wv.heap.size < v3.heap.size := by simp [← hv_]
          clear hv_
          replace h0 := cK cc h0 hbw
          replace hv0 := cK cc hv0 hb0_
          replace hbw := lK cc hbw
          replace hb0_ := lK cc hb0_
          have bD : Below v3.heap.size v3 v3.drew := below_drewN (Below.refl _ v3) 1
          replace h0 := cK bD h0 hbw
          replace hv0 := cK bD hv0 hb0_
          replace hb0_ := lK bD hb0_
          replace hbw := lK bD hbw
          rewrite [fR bD xsl] at xsr0 xsr1
          rewrite [cR bD xsl] at xs0 xs1
          replace xsl := lK bD xsl
          replace cc := bK cc bD
          clear bD
          go_region_held3 (fun w' => w'.cell? ⟨bb, off, none⟩ = some (.slice (some ⟨b0_, o0_, none⟩) n0 c0) ∧ w'.cell? ⟨b0_, o0_ + k, none⟩ = some (.int .i64 v0)) (exact ⟨h0, hv0⟩) (fail)
          generalize v3.drew = v4 at *
          have HI0 : Hid (Box v4 (wv.heap.size) false none 0 0 ∧ Zn v4 false none 0 0 (S 0) ∧ (v4.frozen? ⟨wv.heap.size, 0, none⟩ = false ∧ v4.frozen? ⟨wv.heap.size, 1, none⟩ = false)) := Lib.hid ⟨⟨xs0, xs1⟩, by rw [HS0.out]; exact zn_none _, xsr0, xsr1⟩
          have HC := Lib.hid cc
          have HLX := Lib.hid xsl
          have HH0 := Lib.hid h0
          clear xs0 xs1 xsr0 xsr1 xsl cc h0 hv0 hbw hb0_
          go_wp2_with fail
          go_loopw [8, 9, 10] (fun lv hv iv wr => ∃ (j : Nat) (bz : Bool) (Az : Option Addr) (nz cz : Nat), j ≤ i ∧ iv = .int .i64 (j : Int) ∧ lv = .int .i64 (lo j) ∧ hv = .int .i64 (hi_ j) ∧ Box wr (wv.heap.size) bz Az nz cz ∧ Zn wr bz Az nz cz (S j) ∧ (wr.frozen? ⟨wv.heap.size, 0, none⟩ = false ∧ wr.frozen? ⟨wv.heap.size, 1, none⟩ = false) ∧ Below wv.heap.size wv wr ∧ v4.heap.size ≤ wr.heap.size) (fun _ _ iv _ => i - (intOf iv).toNat)
          case atStart => exact ⟨0, _, _, _, _, by omega, rfl, by rw [HL0.out.1], by rw [HL0.out.2], HI0.out.1, HI0.out.2.1, HI0.out.2.2, HC.out, Nat.le_refl _⟩
          case round =>
            clear HI0 HC
            obtain ⟨j, bz, Az, nz, cz, hj, rfl, rfl, rfl, ⟨xs0, xs1⟩, hx, ⟨xsr0, xsr1⟩, cc, hsz⟩ := hrel
            have xsl := Nat.lt_of_lt_of_le HLX.out hsz
            by_cases hlt3 : j < i
            · have hA := HAV.out.on (HCW.out.trans (cc.mono HCW.out.size))
              obtain ⟨A2, n2, c2, h2, hR2, hz2_⟩ := rr_at hA hlt3
              have en2 : k < n2 := by rw [hR2.1]; exact HCK.out _ (mem_at16 (by rw [← HLN.out]; exact hlt3))
              obtain ⟨b2, o2, rfl, hb2⟩ := ir_some16 hR2 (by omega)
              have h3 := ir_cell16 hR2 en2
              have hv6 := i64_of_mem hz2_ (j := k) (by rw [← hR2.1]; exact en2)
              have hS := HS1.out j hlt3
              have hlo := HLO.out j
              have hhi := HHI.out j
              obtain ⟨v, ev⟩ : ∃ v, (L[j]?.getD [])[k]?.getD 0 = v := ⟨_, rfl⟩
              rw [ev] at h3 hv6 hS hlo hhi
              have hb1 := Nat.lt_of_lt_of_le HBW.out cc.size
              have jj : (j : Int) < (i : Int) := by omega
              have jk2 : (k : Int) < (n2 : Int) := by omega
              have k3 : IntKind.i64.wrap ((j : Int) + 1) = ((j + 1 : Nat) : Int) := by have := HN1.out; rw [IntWalk.i64_in _ (by omega)]; omega
              have hb9 := HBW.out
              obtain ⟨a, ea⟩ : ∃ a, lo j = a := ⟨_, rfl⟩
              obtain ⟨a2, ea2⟩ : ∃ a, lo (j + 1) = a := ⟨_, rfl⟩
              obtain ⟨q, eq⟩ : ∃ a, hi_ j = a := ⟨_, rfl⟩
              obtain ⟨q2, eq2⟩ : ∃ a, hi_ (j + 1) = a := ⟨_, rfl⟩
              rw [ea, ea2] at hlo
              rw [eq, eq2] at hhi
              rw [ea, eq]
              have hmn : ∀ (W : World) (ts : Array TypeId) (t : TypeId), (Builtin.min_ ts t #[.int .i64 a, .int .i64 v]).run Try.prog W = .ok (.int .i64 a2) W := fun W ts t => by rw [hlo]; exact mn16_run W ts t a v
              have hmx : ∀ (W : World) (ts : Array TypeId) (t : TypeId), (Builtin.max_ ts t #[.int .i64 q, .int .i64 v]).run Try.prog W = .ok (.int .i64 q2) W := fun W ts t => by rw [hhi]; exact mx16_run W ts t q v
              have HEA := Lib.hid ea2
              have HEQ := Lib.hid eq2
              have CV := fun W : World => rzof_N W v hv6
              have HV1 := Lib.hid (len_one hv6.abs)
              have HSX := Lib.hid (HSL.out j)
              have HSE := Lib.hid hS
              have HZ_ := Lib.hid hsz
              have HB2 := Lib.hid hb2
              clear hA hz2_ hv6 hS hlo hhi ea ea2 eq eq2 ev hsz
              go_wp2_with fail
              have BD : Below wr.heap.size wr wr.drew := below_drewN (Below.refl _ wr) 1
              go_region_with (first | (go_at_call 11; refine (CV _).mono ?_; rintro e z1 ⟨bv, Av, nv, cv, rfl, hv, b⟩; have hx1 := (hx.on BD).on b; have b1 := BD.trans (b.mono BD.size); have x0 := cK b1 xs0 xsl; have x1 := cK b1 xs1 xsl; have r0 := fK b1 xsr0 xsl; have r1 := fK b1 xsr1 xsl; have xl1 := Nat.lt_of_lt_of_le xsl b1.size; clear b) | (go_at_call 21; refine (rzadd_N hx1 hv (Nat.le_trans HSX.out (by omega)) (Nat.le_trans HV1.out (by omega))).mono ?_; rintro e z2 ⟨bu, Au, nu, cu, rfl, hu, b⟩; have y0 := cK b x0 xl1; have y1 := cK b x1 xl1; have s0 := fK b r0 xl1; have s1 := fK b r1 xl1; have b2_ := b1.trans (b.mono b1.size); have xl2 := Nat.lt_of_lt_of_le xl1 b.size; clear b))
              all_goals rw [← HSE.out] at hu
              all_goals have bb_ : Box z2 (wv.heap.size) bz Az nz cz := ⟨y0, y1⟩
              all_goals have c2_ := cc.trans (b2_.mono cc.size)
              all_goals have HU : Hid (Below wr.heap.size wr z2) := Lib.hid b2_
              all_goals have HE : Hid (Box ((z2.setCell ⟨wv.heap.size, 0, none⟩ (.bool bu)).setCell ⟨wv.heap.size, 1, none⟩ (.slice Au nu cu)) (wv.heap.size) bu Au nu cu ∧ Zn ((z2.setCell ⟨wv.heap.size, 0, none⟩ (.bool bu)).setCell ⟨wv.heap.size, 1, none⟩ (.slice Au nu cu)) bu Au nu cu (S (j + 1)) ∧ (((z2.setCell ⟨wv.heap.size, 0, none⟩ (.bool bu)).setCell ⟨wv.heap.size, 1, none⟩ (.slice Au nu cu)).frozen? ⟨wv.heap.size, 0, none⟩ = false ∧ ((z2.setCell ⟨wv.heap.size, 0, none⟩ (.bool bu)).setCell ⟨wv.heap.size, 1, none⟩ (.slice Au nu cu)).frozen? ⟨wv.heap.size, 1, none⟩ = false) ∧ Below wv.heap.size wv ((z2.setCell ⟨wv.heap.size, 0, none⟩ (.bool bu)).setCell ⟨wv.heap.size, 1, none⟩ (.slice Au nu cu)) ∧ v4.heap.size ≤ ((z2.setCell ⟨wv.heap.size, 0, none⟩ (.bool bu)).setCell ⟨wv.heap.size, 1, none⟩ (.slice Au nu cu)).heap.size) := Lib.hid ⟨bb_.put _ _ _ _, hu.put bb_ _ _, ⟨by simpa [go_sem] using s0, by simpa [go_sem] using s1⟩, below_put c2_ (Nat.le_refl _) _ _, by have := HZ_.out; have := b2_.size; simp; omega⟩
              all_goals have h2u : ((z2.setCell ⟨wv.heap.size, 0, none⟩ (.bool bu)).setCell ⟨wv.heap.size, 1, none⟩ (.slice Au nu cu)).cell? ⟨bb, off + j, none⟩ = some (.slice (some ⟨b2, o2, none⟩) n2 c2) := (cell_store (by omega)).trans (cK b2_ h2 hb1)
              all_goals have h3u : ((z2.setCell ⟨wv.heap.size, 0, none⟩ (.bool bu)).setCell ⟨wv.heap.size, 1, none⟩ (.slice Au nu cu)).cell? ⟨b2, o2 + k, none⟩ = some (.int .i64 v) := (ir_zed bb_ hR2 hb2 b2_ en2 (by exact h3))
              all_goals clear bb_ hx hx1 hu c2_ cc x0 x1 r0 r1 s0 s1 y0 y1
              all_goals generalize ((z2.setCell ⟨wv.heap.size, 0, none⟩ (.bool bu)).setCell ⟨wv.heap.size, 1, none⟩ (.slice Au nu cu)) = u9 at *
              all_goals go_wp2_with fail
              all_goals go_roundw
              all_goals first | exact ⟨j + 1, _, _, _, _, by omega, by go_num, by rw [HEA.out], by rw [HEQ.out], HE.out⟩ | (simp [intOf] <;> omega)
            · obtain rfl : j = i := by omega
              have hm := HRV.out.on cc
              obtain ⟨b3, o3, rfl, hb3⟩ := ir_some16 hm (by omega)
              have hmk := ir_cell16 hm (j := k) (by omega)
              rw [HMK.out] at hmk
              have hmi := HMI.out
              have hmh := HMH.out
              have hlh := HLH.out
              have hsl := HSL.out j
              rw [← HSN.out] at hmh
              obtain ⟨Mk, eMk⟩ : ∃ x, mean16 L k = x := ⟨_, rfl⟩
              rw [eMk] at hmk hmi hmh hlh
              obtain ⟨s_, es⟩ : ∃ x, S j = x := ⟨_, rfl⟩
              rw [es] at hmh hsl hx
              obtain ⟨a, ea⟩ : ∃ a, lo j = a := ⟨_, rfl⟩
              obtain ⟨q, eq⟩ : ∃ a, hi_ j = a := ⟨_, rfl⟩
              rw [ea, eq] at hlh ⊢
              have n40 := HN1.out
              have s1 : decide (Mk < a) = false := decide_eq_false (by omega)
              have s2 : decide (q < Mk) = false := decide_eq_false (by omega)
              have hji : I64 (j : Int) := by unfold I64; omega
              have CMk := fun W : World => rzof_N W Mk hmi
              have CI := fun W : World => rzof_N W (j : Int) hji
              have l1 := len_one hmi.abs
              have l2 := len_one hji.abs
              have l3 := zlen_mul l1 l2
              have l4 := len_diff (k := 2) l3 hsl
              obtain ⟨D, eD⟩ : ∃ D, (Mk * (j : Int) - s_).natAbs = D := ⟨_, rfl⟩
              rw [eD] at hmh l4
              have hjb : j < B64 := by unfold B64; omega
              have CU := fun W : World => rof_N W j hjb
              have ku : IntKind.u64.wrap (j : Int) = (j : Int) := by rw [IntKind.wrap_u64]; omega
              have s3 : decide (0 < cmpN (D + D) j) = false := decide_eq_false (by unfold cmpN; split <;> (try split) <;> omega)
              obtain ⟨p, ep⟩ : ∃ p, cmpN (D + D) j = p := ⟨_, rfl⟩
              rw [ep] at s3
              have l5 := limbs_length_add l4 l4
              have C3 : ∀ {W : World} {B B2 : Option Addr} {m d m2 d2 : Nat}, Num W B m d (D + D) → Num W B2 m2 d2 j → Calls Try.prog 13 #[.slice B m d, .slice B2 m2 d2] W (GotV W (.int .i64 p)) := fun h h2 => by rw [← ep]; exact rcmp_N h h2 (by omega) (Nat.le_trans (len_one hjb) (by omega))
              have HL4 := Lib.hid l4
              have HD_ : Hid (∀ {W : World} {b : Bool} {B : Option Addr} {m d : Nat}, Zn W b B m d (Mk * (j : Int) - s_) → Num W B m d D) := Lib.hid (fun h => by rw [← eD]; exact h.1)
              have m1 : (limbs Mk.natAbs).length ≤ 1000 := by omega
              have m2 : (limbs ((j : Int)).natAbs).length ≤ 1000 := by omega
              have m3 : (limbs (Mk * (j : Int)).natAbs).length ≤ 100 := by omega
              have m4 : (limbs s_.natAbs).length ≤ 100 := by omega
              clear hm hmi hmh hlh hsl eMk es ea eq l1 l2 l3 l4 l5 eD ep hji hsz xsr0 xsr1
              go_upto_region 24 with fail
              go_cut [11] (fun u wx => ∃ (g_ : Nat) (b_ : Bool) (A_ : Option Addr) (n_ c_ : Nat), u = .pointer (some ⟨g_, 0, none⟩) ∧ LoneZ wr wx g_ b_ A_ n_ c_ (Mk * (j : Int) - s_))
              case first =>
                have BB0 : Below wr.heap.size wr wr.drew := below_drewN (Below.refl _ wr) 1
                have BB1 : Below wr.heap.size wr (wr.alloc (.cells #[.bool false, .slice none 0 0] 29)).drew := below_drewN (below_one _ _) 1
                go_region_held3 (fun w' => w'.cell? ⟨b3, o3 + k, none⟩ = some (.int .i64 Mk) ∧ w'.cell? ⟨wv.heap.size, 0, none⟩ = some (.bool bz) ∧ w'.cell? ⟨wv.heap.size, 1, none⟩ = some (.slice Az nz cz))
                  (first | with_reducible exact ⟨hmk, xs0, xs1⟩ | with_reducible exact ⟨keep_alloc (hmk), keep_alloc (xs0), keep_alloc (xs1)⟩ | with_reducible exact ⟨keep_alloc (keep_alloc (hmk)), keep_alloc (keep_alloc (xs0)), keep_alloc (keep_alloc (xs1))⟩ | with_reducible exact ⟨(cK qq hmk hb3), (cK qq xs0 xsl), (cK qq xs1 xsl)⟩ | with_reducible exact ⟨keep_alloc ((cK qq hmk hb3)), keep_alloc ((cK qq xs0 xsl)), keep_alloc ((cK qq xs1 xsl))⟩ | with_reducible exact ⟨keep_alloc (keep_alloc ((cK qq hmk hb3))), keep_alloc (keep_alloc ((cK qq xs0 xsl))), keep_alloc (keep_alloc ((cK qq xs1 xsl)))⟩ | with_reducible exact ⟨((cell_store (by omega)).trans (cK qq hmk hb3)), ((cell_store (by omega)).trans (cK qq xs0 xsl)), ((cell_store (by omega)).trans (cK qq xs1 xsl))⟩ | with_reducible exact ⟨keep_alloc (((cell_store (by omega)).trans (cK qq hmk hb3))), keep_alloc (((cell_store (by omega)).trans (cK qq xs0 xsl))), keep_alloc (((cell_store (by omega)).trans (cK qq xs1 xsl)))⟩ | with_reducible exact ⟨keep_alloc (keep_alloc (((cell_store (by omega)).trans (cK qq hmk hb3)))), keep_alloc (keep_alloc (((cell_store (by omega)).trans (cK qq xs0 xsl)))), keep_alloc (keep_alloc (((cell_store (by omega)).trans (cK qq xs1 xsl))))⟩ | go_keep)
                  (first
                    | (go_at_call 11; (with_reducible refine (CMk _).mono ?_); rintro e y1 ⟨ba, Aa, na, ca, rfl, ha, q⟩; have qq := BB0.trans (q.mono BB0.size); have hx' := (hx.on BB0).on q; have qs1 := qq.size; clear q)
                    | (go_at_call 11; (with_reducible refine (CMk _).mono ?_); rintro e y1 ⟨ba, Aa, na, ca, rfl, ha, q⟩; have qq := BB1.trans (q.mono BB1.size); have hx' := (hx.on BB1).on q; have qs1 := qq.size; obtain ⟨bo_0, fo_0, bo_1, fo_1, ol⟩ := zb2 (g := wr.heap.size) q (by simp) (by simp [Cs2, go_sem]) (by simp [Fz2, go_sem]); clear q)
                    | (go_at_call 11; have up := Below.refl y1.heap.size y1; (with_reducible refine (CI _).mono ?_); rintro e y2 ⟨be, Ae, ne, ce, rfl, he, q⟩; replace qq := uK qq up q; replace hx' := (hx'.on up).on q; replace ha := (ha.on up).on q; (try (rewrite [cR up ol, cR q (lK up ol)] at bo_0 bo_1; rewrite [fR up ol, fR q (lK up ol)] at fo_0 fo_1; replace ol := lK q (lK up ol))); have qs2 := qq.size; clear q up)
                    | (go_at_call 11; have up := below_one y1 (.cells #[.bool false, .slice none 0 0] 29); (with_reducible refine (CI _).mono ?_); rintro e y2 ⟨be, Ae, ne, ce, rfl, he, q⟩; replace qq := uK qq up q; replace hx' := (hx'.on up).on q; replace ha := (ha.on up).on q; (try (rewrite [cR up ol, cR q (lK up ol)] at bo_0 bo_1; rewrite [fR up ol, fR q (lK up ol)] at fo_0 fo_1; replace ol := lK q (lK up ol))); have qs2 := qq.size; obtain ⟨bo_0, fo_0, bo_1, fo_1, ol⟩ := zb2 (g := y1.heap.size) q (by simp) (by simp [Cs2, go_sem]) (by simp [Fz2, go_sem]); clear q up)
                    | (go_at_call 23; have up := Below.refl y2.heap.size y2; (with_reducible refine (rzmul_N (ha.on up) (he.on up) m1 m2).mono ?_); rintro e y3 ⟨bp, Ap, np, cp, rfl, hp, q⟩; replace qq := uK qq up q; replace hx' := (hx'.on up).on q; replace ha := (ha.on up).on q; replace he := (he.on up).on q; (try (rewrite [cR up ol, cR q (lK up ol)] at bo_0 bo_1; rewrite [fR up ol, fR q (lK up ol)] at fo_0 fo_1; replace ol := lK q (lK up ol))); have qs3 := qq.size; clear q up)
                    | (go_at_call 23; have up := below_one y2 (.cells #[.bool false, .slice none 0 0] 29); (with_reducible refine (rzmul_N (ha.on up) (he.on up) m1 m2).mono ?_); rintro e y3 ⟨bp, Ap, np, cp, rfl, hp, q⟩; replace qq := uK qq up q; replace hx' := (hx'.on up).on q; replace ha := (ha.on up).on q; replace he := (he.on up).on q; (try (rewrite [cR up ol, cR q (lK up ol)] at bo_0 bo_1; rewrite [fR up ol, fR q (lK up ol)] at fo_0 fo_1; replace ol := lK q (lK up ol))); have qs3 := qq.size; obtain ⟨bo_0, fo_0, bo_1, fo_1, ol⟩ := zb2 (g := y2.heap.size) q (by simp) (by simp [Cs2, go_sem]) (by simp [Fz2, go_sem]); clear q up)
                    | (go_at_call 22; have up := Below.refl y3.heap.size y3; (with_reducible refine (rzsub_N (hp.on up) m3 (hx'.on up) m4).mono ?_); rintro e y4 ⟨bo, Ao, no, co, rfl, o, q⟩; replace qq := uK qq up q; replace hx' := (hx'.on up).on q; replace ha := (ha.on up).on q; replace he := (he.on up).on q; replace hp := (hp.on up).on q; (try (rewrite [cR up ol, cR q (lK up ol)] at bo_0 bo_1; rewrite [fR up ol, fR q (lK up ol)] at fo_0 fo_1; replace ol := lK q (lK up ol))); have qs4 := qq.size; clear q up)
                    | (go_at_call 22; have up := below_one y3 (.cells #[.bool false, .slice none 0 0] 29); (with_reducible refine (rzsub_N (hp.on up) m3 (hx'.on up) m4).mono ?_); rintro e y4 ⟨bo, Ao, no, co, rfl, o, q⟩; replace qq := uK qq up q; replace hx' := (hx'.on up).on q; replace ha := (ha.on up).on q; replace he := (he.on up).on q; replace hp := (hp.on up).on q; (try (rewrite [cR up ol, cR q (lK up ol)] at bo_0 bo_1; rewrite [fR up ol, fR q (lK up ol)] at fo_0 fo_1; replace ol := lK q (lK up ol))); have qs4 := qq.size; obtain ⟨bo_0, fo_0, bo_1, fo_1, ol⟩ := zb2 (g := y3.heap.size) q (by simp) (by simp [Cs2, go_sem]) (by simp [Fz2, go_sem]); clear q up))
                all_goals (go_wp2_with fail; go_meet)
                all_goals refine ⟨_, bo, Ao, no, co, rfl, ?_⟩
                all_goals first
                  | with_reducible exact loneZA o qq _
                  | with_reducible exact loneZB bo_0 bo_1 o qq (by omega)
              case rest =>
                obtain ⟨gr, br, Ar, nr, cr, rfl, ⟨r0, r1⟩, hr, b, rge⟩ := hcut
                have rl := cell_lt r0
                simp only at rl
                have rqxs : wv.heap.size < gr := Nat.lt_of_lt_of_le xsl rge
                replace hmk := cK b hmk hb3
                replace hb3 := lK b hb3
                replace hx := hx.on b
                rewrite [cR b xsl] at xs0 xs1
                replace xsl := lK b xsl
                replace cc := bK cc b
                clear b
                have hdn := HD_.out hr
                clear hr hx
                go_wp2_with fail
                refine (radd_N hdn hdn (Nat.le_trans HL4.out (by omega)) (Nat.le_trans HL4.out (by omega))).mono ?_
                rintro e w5 ⟨Ag, ng_, cg, rfl, hg, b⟩
                replace hmk := cK b hmk hb3
                replace hb3 := lK b hb3
                replace hdn := hdn.on b
                rewrite [cR b xsl] at xs0 xs1
                replace xsl := lK b xsl
                rewrite [cR b rl] at r0 r1
                replace rl := lK b rl
                replace cc := bK cc b
                clear b
                go_wp2_with fail
                refine (CU _).mono ?_
                rintro e w6 ⟨Ah, nh_, ch, rfl, hh, b⟩
                replace hmk := cK b hmk hb3
                replace hb3 := lK b hb3
                replace hdn := hdn.on b
                replace hg := hg.on b
                rewrite [cR b xsl] at xs0 xs1
                replace xsl := lK b xsl
                rewrite [cR b rl] at r0 r1
                replace rl := lK b rl
                replace cc := bK cc b
                clear b
                go_wp2_with fail
                refine (C3 hg hh).mono ?_
                rintro e w7 ⟨rfl, b⟩
                replace hmk := cK b hmk hb3
                replace hb3 := lK b hb3
                replace hdn := hdn.on b
                replace hg := hg.on b
                replace hh := hh.on b
                rewrite [cR b xsl] at xs0 xs1
                replace xsl := lK b xsl
                rewrite [cR b rl] at r0 r1
                replace rl := lK b rl
                replace cc := bK cc b
                clear b
                go_wp2_with fail
                go_roundw
                case rel => exact ⟨k + 1, by omega, by go_num, HCW.out.trans (cc.mono HCW.out.size)⟩
                case measure => simp [intOf] <;> omega
        · obtain rfl : k = nm_ := by omega
          have cc := HCC.out.trans (HCW.out.mono HCC.out.size)
          go_wp2_with fail
          refine (alive16_any _).mono ?_
          rintro e w9 ⟨rfl, b⟩
          replace cc := bK cc b
          clear b
          go_wp2_with fail
          go_ret
          exact ⟨rfl, cc⟩

theorem ClipMean_walk {w : World} {A : Option Addr} {n c : Nat} {L : List (List Int)} (hA : RR w A n c L) (hn : n ≤ 2305843009213693952) (hl : ∀ l ∈ L, l.length ≤ 2305843009213693952) : Calls Try.prog 6 #[.slice A n c] w fun e w' => e = .returned (.bool true) ∧ Below w.heap.size w w' := by
  by_cases hf : few16 L ≤ 40
  rotate_left
  · exact ClipMean_many hA hn hl hf
  by_cases h0 : L = []
  · exact ClipMean_none hA hn hl hf h0
  by_cases hk : OkM L
  rotate_left
  · exact ClipMean_shape hA hn hl hf h0 hk
  by_cases h1 : n = 1
  · exact ClipMean_one hA hn hl hf h0 hk h1
  · exact ClipMean_more hA hn hl hf h0 hk h1

end Go.Proofs.Ytpephogadljncaa
