/-
  The walk of ClipSides.
-/
import Derived.BigRegion
import Derived.Test.YtpephogadljncaaA8
import Derived.Test.YtpephogadljncaaA3
namespace Go.Proofs.Ytpephogadljncaa
set_option maxRecDepth 100000
set_option maxHeartbeats 8000000
open Go.RowKit
set_option linter.unusedVariables false
set_option linter.unusedSimpArgs false

theorem clipR_len (N : Nat) {most : Int} (h : ¬ most < 0) (l : List Int) : (clipR N most l).length = l.length := by
  unfold clipR
  rw [if_neg h]
  split
  · rfl
  · exact List.length_map _
theorem clipR_at (N : Nat) {most : Int} (h : ¬ most < 0) (l : List Int) (i : Nat) : ((clipR N most l)[i]?.getD 0 = l[i]?.getD 0) ∨ (0 < N ∧ most.natAbs ≤ N ∧ (clipR N most l)[i]?.getD 0 = clip1 most.natAbs N (l[i]?.getD 0)) := by
  unfold clipR
  rw [if_neg h]
  split
  · exact .inl rfl
  · rename_i hq
    have hlt : most.natAbs < N := by rcases Nat.lt_or_ge most.natAbs N with e | e; exact e; exact absurd (.inr e) hq
    right
    refine ⟨by omega, by omega, ?_⟩
    rw [List.getElem?_map]
    rcases l[i]? with _ | z
    · show (0 : Int) = clip1 most.natAbs N 0
      rw [clip_pos (Int.le_refl 0)]; simp
    · rfl
theorem clipR_side (N : Nat) {most : Int} (h : ¬ most < 0) (l : List Int) (i : Nat) : (0 ≤ l[i]?.getD 0 → 0 ≤ (clipR N most l)[i]?.getD 0 ∧ (clipR N most l)[i]?.getD 0 ≤ l[i]?.getD 0) ∧ (l[i]?.getD 0 ≤ 0 → l[i]?.getD 0 ≤ (clipR N most l)[i]?.getD 0 ∧ (clipR N most l)[i]?.getD 0 ≤ 0) := by
  rcases clipR_at N h l i with e | ⟨h1, h2, e⟩
  · rw [e]; exact ⟨fun q => ⟨q, Int.le_refl _⟩, fun q => ⟨Int.le_refl _, q⟩⟩
  · rw [e]; exact clip_side h2 h1 _
theorem clipR_mono (N : Nat) {most : Int} (h : ¬ most < 0) (l : List Int) (i j : Nat) (hij : l[i]?.getD 0 ≤ l[j]?.getD 0) : (clipR N most l)[i]?.getD 0 ≤ (clipR N most l)[j]?.getD 0 := by
  unfold clipR
  rw [if_neg h]
  split
  · exact hij
  · rename_i hq
    have hlt : most.natAbs < N := by rcases Nat.lt_or_ge most.natAbs N with e | e; exact e; exact absurd (.inr e) hq
    have key : ∀ k, (l.map (clip1 most.natAbs N))[k]?.getD 0 = clip1 most.natAbs N (l[k]?.getD 0) := fun k => by
      rw [List.getElem?_map]
      rcases l[k]? with _ | z
      · show (0 : Int) = clip1 most.natAbs N 0
        rw [clip_pos (Int.le_refl 0)]; simp
      · rfl
    rw [key, key]
    exact clip_mono (by omega) (by omega) hij

theorem ClipSides_long {w : World} {A B : Option Addr} {n c m d : Nat} {l : List Int} {k : List Nat} {most : Int} (hA : IR w A n c l) (h : 40 < n) :
    Calls Try.prog 5 #[.slice A n c, .slice B m d, .int .i64 most] w fun e w' => e = .returned (.bool true) ∧ Below w.heap.size w w' := by
  have t0 : decide (40 < (n : Int)) = true := decide_eq_true (by omega)
  have t0b : decide (40 < n) = true := decide_eq_true (by omega)
  clear hA h
  have cc := Below.refl w.heap.size w
  go_enter Try.func5, Try.ntmps5
  go_wp2_with fail
  refine (alive16_any _).mono ?_
  rintro e w1 ⟨rfl, b⟩
  replace cc := bK cc b
  clear b
  go_wp2_with fail
  go_ret
  exact ⟨rfl, cc⟩

theorem ClipSides_many {w : World} {A B : Option Addr} {n c m d : Nat} {l : List Int} {k : List Nat} {most : Int} (hA : IR w A n c l) (h : ¬ 40 < n) (h1 : 4 < m) :
    Calls Try.prog 5 #[.slice A n c, .slice B m d, .int .i64 most] w fun e w' => e = .returned (.bool true) ∧ Below w.heap.size w w' := by
  have t0 : decide (40 < (n : Int)) = false := decide_eq_false (by omega)
  have t0b : decide (40 < n) = false := decide_eq_false (by omega)
  have t1 : decide (4 < (m : Int)) = true := decide_eq_true (by omega)
  have t1b : decide (4 < m) = true := decide_eq_true (by omega)
  clear hA h h1
  have cc := Below.refl w.heap.size w
  go_enter Try.func5, Try.ntmps5
  go_wp2_with fail
  refine (alive16_any _).mono ?_
  rintro e w1 ⟨rfl, b⟩
  replace cc := bK cc b
  clear b
  go_wp2_with fail
  go_ret
  exact ⟨rfl, cc⟩

theorem ClipSides_wrong {w : World} {A B : Option Addr} {n c m d : Nat} {l : List Int} {k : List Nat} {most : Int} (hA : IR w A n c l) (hB : Lim w.heap.size w B m d k) (h : ¬ 40 < n) (h1 : ¬ 4 < m) (hc : canon k = false) :
    Calls Try.prog 5 #[.slice A n c, .slice B m d, .int .i64 most] w fun e w' => e = .returned (.bool true) ∧ Below w.heap.size w w' := by
  have t0 : decide (40 < (n : Int)) = false := decide_eq_false (by omega)
  have t0b : decide (40 < n) = false := decide_eq_false (by omega)
  have t1 : decide (4 < (m : Int)) = false := decide_eq_false (by omega)
  have t1b : decide (4 < m) = false := decide_eq_false (by omega)
  have CR : Calls Try.prog 17 #[.slice B m d] w (GotV w (.bool false)) := (rright_any _ _ _ _ _ false _ hB (by omega) hc).mono (fun e w' h => by obtain ⟨h1, h2⟩ := h; subst h2; exact ⟨h1, Below.refl _ _⟩)
  clear hA h h1 hB hc
  have cc := Below.refl w.heap.size w
  go_enter Try.func5, Try.ntmps5
  go_wp2_with fail
  refine (CR).mono ?_
  rintro e w1 ⟨rfl, b⟩
  replace cc := bK cc b
  clear b
  go_wp2_with fail
  refine (alive16_any _).mono ?_
  rintro e w2 ⟨rfl, b⟩
  replace cc := bK cc b
  clear b
  go_wp2_with fail
  go_ret
  exact ⟨rfl, cc⟩

theorem ClipSides_neg {w : World} {A B : Option Addr} {n c m d : Nat} {l : List Int} {k : List Nat} {most : Int} (hA : IR w A n c l) {N : Nat} (hB : Num w B m d N) (hm : I64 most) (hi : ∀ x ∈ l, I64 x) (h : ¬ 40 < n) (h1 : ¬ 4 < m) (hs : most < 0) :
    Calls Try.prog 5 #[.slice A n c, .slice B m d, .int .i64 most] w fun e w' => e = .returned (.bool true) ∧ Below w.heap.size w w' := by
  have t0 : decide (40 < (n : Int)) = false := decide_eq_false (by omega)
  have t0b : decide (40 < n) = false := decide_eq_false (by omega)
  have t1 : decide (4 < (m : Int)) = false := decide_eq_false (by omega)
  have t1b : decide (4 < m) = false := decide_eq_false (by omega)
  have hlm : (limbs N).length ≤ 4 := by rw [← hB.len]; omega
  have CR := rright_N hB (by omega)
  have CC := fun {W : World} (a : IR W A n c l) (b : Num W B m d N) => clClip_W a b hm (by omega) (by omega) hi
  clear hlm
  have e1 : clipR N most l = [] := by unfold clipR; rw [if_pos hs]
  have e2 : clipE most = 1 := by unfold clipE; rw [if_pos hs]
  rw [e1, e2] at CC
  have t2 : decide (most < 0) = true := decide_eq_true hs
  clear e1 e2 h h1 hs hi hm
  have cc := Below.refl w.heap.size w
  go_enter Try.func5, Try.ntmps5
  go_wp2_with fail
  refine (CR).mono ?_
  rintro e w1 ⟨rfl, b⟩
  replace hA := hA.on b
  replace hB := hB.on b
  replace cc := bK cc b
  clear b
  go_wp2_with fail
  refine (CC hA hB).mono ?_
  rintro e w2 ⟨Ax, nx_, cx, rfl, hx, b⟩
  replace hA := hA.on b
  replace hB := hB.on b
  replace cc := bK cc b
  clear b
  obtain rfl : nx_ = 0 := hx.1
  clear hx hA hB
  go_wp2_with fail
  refine (alive16_any _).mono ?_
  rintro e w3 ⟨rfl, b⟩
  replace cc := bK cc b
  clear b
  go_wp2_with fail
  go_ret
  exact ⟨rfl, cc⟩

theorem ClipSides_main {w : World} {A B : Option Addr} {n c m d : Nat} {l : List Int} {k : List Nat} {most : Int} (hA : IR w A n c l) {N : Nat} (hB : Num w B m d N) (hm : I64 most) (hi : ∀ x ∈ l, I64 x) (h : ¬ 40 < n) (h1 : ¬ 4 < m) (hs : ¬ most < 0) :
    Calls Try.prog 5 #[.slice A n c, .slice B m d, .int .i64 most] w fun e w' => e = .returned (.bool true) ∧ Below w.heap.size w w' := by
  have t0 : decide (40 < (n : Int)) = false := decide_eq_false (by omega)
  have t0b : decide (40 < n) = false := decide_eq_false (by omega)
  have t1 : decide (4 < (m : Int)) = false := decide_eq_false (by omega)
  have t1b : decide (4 < m) = false := decide_eq_false (by omega)
  have hlm : (limbs N).length ≤ 4 := by rw [← hB.len]; omega
  have CR := rright_N hB (by omega)
  have CC := fun {W : World} (a : IR W A n c l) (b : Num W B m d N) => clClip_W a b hm (by omega) (by omega) hi
  clear hlm
  have e2 : clipE most = 0 := by unfold clipE; rw [if_neg hs]
  have e3 := clipR_len N hs l
  have HF := Lib.hid (fun i => clipR_side N hs l i)
  have HM := Lib.hid (fun i j h => clipR_mono N hs l i j h)
  have t2 : decide (most < 0) = false := decide_eq_false hs
  obtain ⟨C, eC⟩ : ∃ C, clipR N most l = C := ⟨_, rfl⟩
  rw [e2, eC] at CC
  rw [eC] at e3 HF HM
  have HN : Hid (n ≤ 40) := Lib.hid (by omega)
  rw [← hA.1] at e3
  have HE3 := Lib.hid e3
  clear e2 h h1 hs hi hm eC e3
  have cc := Below.refl w.heap.size w
  go_enter Try.func5, Try.ntmps5
  go_wp2_with fail
  refine (CR).mono ?_
  rintro e w1 ⟨rfl, b⟩
  replace hA := hA.on b
  replace hB := hB.on b
  replace cc := bK cc b
  clear b
  go_wp2_with fail
  refine (CC hA hB).mono ?_
  rintro e w2 ⟨Ax, nx_, cx, rfl, hx, b⟩
  replace hA := hA.on b
  replace hB := hB.on b
  replace cc := bK cc b
  clear b
  have en : nx_ = n := by rw [hx.1]; exact HE3.out
  subst en
  have HA := Lib.hid hA
  have HX := Lib.hid hx
  have HCC := Lib.hid cc
  clear hA hB hx cc
  go_wp2_with fail
  go_loopw [9] (fun iv wr => ∃ i : Nat, i ≤ nx_ ∧ iv = .int .i64 (i : Int) ∧ Below w2.heap.size w2 wr) (fun iv _ => nx_ - (intOf iv).toNat)
  case atStart => exact ⟨0, by omega, rfl, Below.refl _ _⟩
  case round =>
    obtain ⟨i, hi2, rfl, cc⟩ := hrel
    by_cases hlt : i < nx_
    · have hA := HA.out.on cc
      have hx := HX.out.on cc
      obtain ⟨b1, o1, rfl, hb1⟩ := ir_some16 hA (by omega)
      obtain ⟨b2, o2, rfl, hb2⟩ := ir_some16 hx (by omega)
      have h1 := ir_cell16 hA hlt
      have h2 := ir_cell16 hx hlt
      obtain ⟨f1, f2⟩ := HF.out i
      have hmo := HM.out (i - 1) i
      have jl : (i : Int) < (nx_ : Int) := by omega
      have hn40 := HN.out
      have k3 : IntKind.i64.wrap ((i : Int) + 1) = ((i + 1 : Nat) : Int) := by rw [IntWalk.i64_in _ (by omega)]; omega
      have g1 : 0 < i → wr.cell? ⟨b1, o1 + (i - 1), none⟩ = some (.int .i64 (l[i - 1]?.getD 0)) := fun h => ir_cell16 hA (by omega)
      have g2 : 0 < i → wr.cell? ⟨b2, o2 + (i - 1), none⟩ = some (.int .i64 (C[i - 1]?.getD 0)) := fun h => ir_cell16 hx (by omega)
      clear hA hx
      obtain ⟨x, ex⟩ : ∃ x, l[i]?.getD 0 = x := ⟨_, rfl⟩
      obtain ⟨y, ey⟩ : ∃ y, C[i]?.getD 0 = y := ⟨_, rfl⟩
      obtain ⟨x0, ex0⟩ : ∃ x, l[i - 1]?.getD 0 = x := ⟨_, rfl⟩
      obtain ⟨y0, ey0⟩ : ∃ y, C[i - 1]?.getD 0 = y := ⟨_, rfl⟩
      rw [ex] at h1 f1 f2 hmo
      rw [ey] at h2 f1 f2 hmo
      rw [ex0] at g1 hmo
      rw [ey0] at g2 hmo
      clear ex ey ex0 ey0
      by_cases hs : 0 ≤ x
      · have s1 : decide (0 ≤ x) = true := decide_eq_true (by omega)
        have s2 : decide (x < 0) = false := decide_eq_false (by omega)
        have f := f1 (by omega)
        have s3 : decide (y < 0) = false := decide_eq_false (by omega)
        have s4 : decide (x < y) = false := decide_eq_false (by omega)
        clear f f1 f2 hs
        rcases Nat.eq_zero_or_pos i with h0 | h0
        · have s5 : decide (0 < (i : Int)) = false := decide_eq_false (by omega)
          have s5b : decide (0 < i) = false := decide_eq_false (by omega)
          clear g1 g2 hmo h0
          go_wp2_with fail
          simp only [List.append_eq, List.cons_append, List.nil_append]
          go_big_region
          go_wp2_with fail
          go_roundw
          case rel => exact ⟨i + 1, by omega, by go_num, below_drewN cc 1⟩
          case measure => simp [intOf] <;> omega
        · have s5 : decide (0 < (i : Int)) = true := decide_eq_true (by omega)
          have s5b : decide (0 < i) = true := decide_eq_true (by omega)
          have g3 := g1 h0
          have g4 := g2 h0
          obtain ⟨j, ej⟩ : ∃ j, i - 1 = j := ⟨_, rfl⟩
          rw [ej] at g3 g4
          have k4 : IntKind.i64.wrap ((i : Int) - 1) = (j : Int) := by rw [IntWalk.i64_in _ (by omega)]; omega
          have j0 : (0 : Int) ≤ (j : Int) := by omega
          have j1 : (j : Int) < (nx_ : Int) := by omega
          clear g1 g2 ej
          by_cases hq : x0 ≤ x
          · have s6 : decide (x0 ≤ x) = true := decide_eq_true hq
            have s7 : decide (y < y0) = false := decide_eq_false (by have := hmo hq; omega)
            clear hmo hq h0
            go_wp2_with fail
            simp only [List.append_eq, List.cons_append, List.nil_append]
            go_big_region
            go_wp2_with fail
            go_roundw
            case rel => exact ⟨i + 1, by omega, by go_num, below_drewN cc 1⟩
            case measure => simp [intOf] <;> omega
          · have s6 : decide (x0 ≤ x) = false := decide_eq_false hq
            clear hmo hq h0
            go_wp2_with fail
            simp only [List.append_eq, List.cons_append, List.nil_append]
            go_big_region
            go_wp2_with fail
            go_roundw
            case rel => exact ⟨i + 1, by omega, by go_num, below_drewN cc 1⟩
            case measure => simp [intOf] <;> omega
      · have s1 : decide (0 ≤ x) = false := decide_eq_false (by omega)
        have s2 : decide (x < 0) = true := decide_eq_true (by omega)
        have f := f2 (by omega)
        have s3 : decide (0 < y) = false := decide_eq_false (by omega)
        have s4 : decide (y < x) = false := decide_eq_false (by omega)
        clear f f1 f2 hs
        rcases Nat.eq_zero_or_pos i with h0 | h0
        · have s5 : decide (0 < (i : Int)) = false := decide_eq_false (by omega)
          have s5b : decide (0 < i) = false := decide_eq_false (by omega)
          clear g1 g2 hmo h0
          go_wp2_with fail
          simp only [List.append_eq, List.cons_append, List.nil_append]
          go_big_region
          go_wp2_with fail
          go_roundw
          case rel => exact ⟨i + 1, by omega, by go_num, below_drewN cc 1⟩
          case measure => simp [intOf] <;> omega
        · have s5 : decide (0 < (i : Int)) = true := decide_eq_true (by omega)
          have s5b : decide (0 < i) = true := decide_eq_true (by omega)
          have g3 := g1 h0
          have g4 := g2 h0
          obtain ⟨j, ej⟩ : ∃ j, i - 1 = j := ⟨_, rfl⟩
          rw [ej] at g3 g4
          have k4 : IntKind.i64.wrap ((i : Int) - 1) = (j : Int) := by rw [IntWalk.i64_in _ (by omega)]; omega
          have j0 : (0 : Int) ≤ (j : Int) := by omega
          have j1 : (j : Int) < (nx_ : Int) := by omega
          clear g1 g2 ej
          by_cases hq : x0 ≤ x
          · have s6 : decide (x0 ≤ x) = true := decide_eq_true hq
            have s7 : decide (y < y0) = false := decide_eq_false (by have := hmo hq; omega)
            clear hmo hq h0
            go_wp2_with fail
            simp only [List.append_eq, List.cons_append, List.nil_append]
            go_big_region
            go_wp2_with fail
            go_roundw
            case rel => exact ⟨i + 1, by omega, by go_num, below_drewN cc 1⟩
            case measure => simp [intOf] <;> omega
          · have s6 : decide (x0 ≤ x) = false := decide_eq_false hq
            clear hmo hq h0
            go_wp2_with fail
            simp only [List.append_eq, List.cons_append, List.nil_append]
            go_big_region
            go_wp2_with fail
            go_roundw
            case rel => exact ⟨i + 1, by omega, by go_num, below_drewN cc 1⟩
            case measure => simp [intOf] <;> omega
    · obtain rfl : i = nx_ := by omega
      replace cc := HCC.out.trans (cc.mono HCC.out.size)
      go_wp2_with fail
      refine (alive16_any _).mono ?_
      rintro e w9 ⟨rfl, b⟩
      replace cc := bK cc b
      clear b
      go_wp2_with fail
      go_ret
      exact ⟨rfl, cc⟩

theorem ClipSides_walk {w : World} {A B : Option Addr} {n c m d : Nat} {l : List Int} {k : List Nat} {most : Int} (hA : IR w A n c l) (hi : ∀ x ∈ l, I64 x) (hB : Lim w.heap.size w B m d k) (hm : I64 most) : Calls Try.prog 5 #[.slice A n c, .slice B m d, .int .i64 most] w fun e w' => e = .returned (.bool true) ∧ Below w.heap.size w w' := by
  by_cases h : 40 < n
  · exact ClipSides_long (k := k) hA h
  by_cases h1 : 4 < m
  · exact ClipSides_many (k := k) hA h h1
  cases hc : canon k with
  | false => exact ClipSides_wrong hA hB h h1 hc
  | true =>
    have hN : Num w B m d (val k) := by unfold Num; rw [limbs_val hB.2.2.1 hc]; exact hB
    by_cases hs : most < 0
    · exact ClipSides_neg (k := k) hA hN hm hi h h1 hs
    · exact ClipSides_main (k := k) hA hN hm hi h h1 hs

end Go.Proofs.Ytpephogadljncaa
