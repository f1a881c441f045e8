/-
  Several texts in one: C17d, C17e, C17f, C17g, N17, G17, C17h, JMd.
-/
import Derived.Test.YtckdbcngnghhiaaA6
import Derived.Test.YtckdbcngnghhiaaA2
import Derived.Test.YtckdbcngnghhiaaA5

/-
  The contract of the seventeenth reference: step.
-/
namespace Go.Proofs.Ytckdbcngnghhiaa
open Go.RowKit
set_option linter.unusedVariables false
set_option linter.unusedSimpArgs false

end Go.Proofs.Ytckdbcngnghhiaa

/-
  The contracts of the seventeenth reference: Same, Few.
-/
namespace Go.Proofs.Ytckdbcngnghhiaa
set_option maxRecDepth 100000
set_option maxHeartbeats 8000000
open Go.RowKit
set_option linter.unusedVariables false
set_option linter.unusedSimpArgs false

theorem rsameI_n {w : World} {A B : Option Addr} {n c m d : Nat} (hnm : n ≠ m) : Calls Try.prog 21 #[.slice A n c, .slice B m d] w (GotV w (.bool false)) := by
  have e1 : ((n : Int) == (m : Int)) = false := beq_eq_false_iff_ne.2 (by omega)
  have e2 : ((n : Int) != (m : Int)) = true := by simp; omega
  have e3 : (n == m) = false := beq_eq_false_iff_ne.2 hnm
  have e4 : (n != m) = true := by simp; omega
  clear hnm
  have cc := Below.refl w.heap.size w
  go_enter Try.func21, Try.ntmps21
  go_wp2_with fail
  go_ret
  exact ⟨rfl, cc⟩
theorem rsameI_eq {w : World} {A B : Option Addr} {n c d : Nat} {L K : List Int} (hA : IR w A n c L) (hB : IR w B n d K) (hn : n ≤ 9223372036854775807) : Calls Try.prog 21 #[.slice A n c, .slice B n d] w (GotV w (.bool (decide (L = K)))) := by
  have HN := Lib.hid hn
  have l1 := Lib.hid hA.1
  have l2 := Lib.hid hB.1
  obtain ⟨R, hR⟩ : ∃ R, decide (L = K) = R := ⟨_, rfl⟩
  rw [hR]
  have HR := Lib.hid hR
  clear hR hn
  go_enter Try.func21, Try.ntmps21
  go_wp2_with fail
  go_loopw [5] (fun iv wr => ∃ i : Nat, i ≤ n ∧ iv = .int .i64 (i : Int) ∧ (∀ j, j < i → L[j]?.getD 0 = K[j]?.getD 0) ∧ Below w.heap.size w wr) (fun iv _ => n - (intOf iv).toNat)
  case atStart => exact ⟨0, by omega, rfl, fun j h => absurd h (by omega), Below.refl _ _⟩
  case round =>
    obtain ⟨i, hi, rfl, hj, hbl⟩ := hrel
    by_cases hlt : i < n
    · obtain ⟨b1, o1, rfl, hb1, hc1⟩ := (hA.on hbl).2.2 (by omega)
      obtain ⟨b2, o2, rfl, hb2, hc2⟩ := (hB.on hbl).2.2 (by omega)
      have h1 := hc1 i hlt
      have h2 := hc2 i hlt
      have k3 : IntKind.i64.wrap ((i : Int) + 1) = ((i + 1 : Nat) : Int) := by rw [IntWalk.i64_in _ (by have := HN.out; omega)]; omega
      have jl : (i : Int) < (n : Int) := by omega
      obtain ⟨x, hx⟩ : ∃ x, L[i]?.getD 0 = x := ⟨_, rfl⟩
      obtain ⟨y, hy⟩ : ∃ y, K[i]?.getD 0 = y := ⟨_, rfl⟩
      rw [hx] at h1
      rw [hy] at h2
      have HX := Lib.hid hx
      have HY := Lib.hid hy
      have HJ0 := Lib.hid hj
      clear hc1 hc2 hx hy hj hA hB
      by_cases hxy : x = y
      · have HJ : Hid (∀ j, j < i + 1 → L[j]?.getD 0 = K[j]?.getD 0) := Lib.hid (fun j h => by
          rcases Nat.lt_or_ge j i with e | e
          · exact HJ0.out j e
          · have e2 : j = i := by omega
            rw [e2, HX.out, HY.out, hxy])
        have t1 : (x == y) = true := beq_iff_eq.2 hxy
        have t2 : (x != y) = false := by rw [hxy]; simp
        clear hxy
        go_wp2_with fail
        go_region_held3 (fun w' => w'.cell? ⟨b1, o1 + i, none⟩ = some (.int .i64 x) ∧ w'.cell? ⟨b2, o2 + i, none⟩ = some (.int .i64 y)) (exact ⟨h1, h2⟩) (fail)
        go_wp2_with fail
        go_roundw
        case rel => exact ⟨i + 1, by omega, by go_num, HJ.out, below_drewN hbl 1⟩
        case measure => simp [intOf] <;> omega
      · have HF : Hid (R = false) := Lib.hid (by rw [← HR.out]; exact decide_eq_false (fun h => hxy (by rw [← HX.out, ← HY.out, h])))
        have t1 : (x == y) = false := beq_eq_false_iff_ne.2 hxy
        have t2 : (x != y) = true := by simp; exact hxy
        clear hxy
        go_wp2_with fail
        go_region_held3 (fun w' => w'.cell? ⟨b1, o1 + i, none⟩ = some (.int .i64 x) ∧ w'.cell? ⟨b2, o2 + i, none⟩ = some (.int .i64 y)) (exact ⟨h1, h2⟩) (fail)
        go_wp2_with fail
        go_ret
        exact ⟨by rw [HF.out]; rfl, below_drewN hbl 1⟩
    · obtain rfl : i = n := by omega
      have HF : Hid (R = true) := Lib.hid (by
        rw [← HR.out]
        have l1 := l1.out
        have l2 := l2.out
        refine decide_eq_true (List.ext_getElem (by omega) fun j h1 h2 => ?_)
        have := hj j (by omega)
        rwa [List.getElem?_eq_getElem h1, List.getElem?_eq_getElem h2] at this)
      clear hj hA hB
      go_wp2_with fail
      go_ret
      exact ⟨by rw [HF.out]; rfl, hbl⟩
theorem rsameI_N {w : World} {A B : Option Addr} {n c m d : Nat} {L K : List Int} (hA : IR w A n c L) (hB : IR w B m d K) (hn : n ≤ 9223372036854775807) : Calls Try.prog 21 #[.slice A n c, .slice B m d] w (GotV w (.bool (decide (L = K)))) := by
  by_cases hnm : n = m
  · subst hnm; exact rsameI_eq hA hB hn
  · rw [decide_eq_false (fun h => hnm (by rw [hA.1, hB.1, h]))]; exact rsameI_n hnm

theorem nSame17_0 {w : World} {Awa : Option Addr} {nwa cwa : Nat} {Lwa : List Int} {Ama : Option Addr} {nma cma : Nat} {Lma : List Int} {Ava : Option Addr} {nva cva : Nat} {Lva : List Int} {Aga : Option Addr} {nga cga : Nat} {Lga : List Int} {Awb : Option Addr} {nwb cwb : Nat} {Lwb : List Int} {Amb : Option Addr} {nmb cmb : Nat} {Lmb : List Int} {Avb : Option Addr} {nvb cvb : Nat} {Lvb : List Int} {Agb : Option Addr} {ngb cgb : Nat} {Lgb : List Int} (hwa : IR w Awa nwa cwa Lwa) (hma : IR w Ama nma cma Lma) (hva : IR w Ava nva cva Lva) (hga : IR w Aga nga cga Lga) (hwb : IR w Awb nwb cwb Lwb) (hmb : IR w Amb nmb cmb Lmb) (hvb : IR w Avb nvb cvb Lvb) (hgb : IR w Agb ngb cgb Lgb) (kwa : nwa ≤ 9223372036854775807) (kma : nma ≤ 9223372036854775807) (kva : nva ≤ 9223372036854775807) (kga : nga ≤ 9223372036854775807) (q0 : ¬ Lwa = Lwb) :
    Calls Try.prog 14 #[.agg #[.slice Awa nwa cwa, .slice Ama nma cma, .slice Ava nva cva, .slice Aga nga cga], .agg #[.slice Awb nwb cwb, .slice Amb nmb cmb, .slice Avb nvb cvb, .slice Agb ngb cgb]] w (GotV w (.bool false)) := by
  have Cw := fun {W : World} (a : IR W Awa nwa cwa Lwa) (b : IR W Awb nwb cwb Lwb) => rsameI_N a b kwa
  rw [decide_eq_false q0] at Cw
  clear q0 kwa kma kva kga
  have cc := Below.refl w.heap.size w
  go_enter Try.func14, Try.ntmps14
  go_upto_region 1 with fail
  generalize hv_ : (w.alloc (.cells #[.slice Awa nwa cwa, .slice Ama nma cma, .slice Ava nva cva, .slice Aga nga cga] 26)).alloc (.cells #[.slice Awb nwb cwb, .slice Amb nmb cmb, .slice Avb nvb cvb, .slice Agb ngb cgb] 26) = v1
  have bA : Below w.heap.size w v1 := by rw [← hv_]; exact (((Below.refl _ w).alloc (by simp) _).alloc (by simp) _)
  replace hwa := hwa.on bA
  replace hwb := hwb.on bA
  replace cc := bK cc bA
  clear bA
  have xa0 : v1.cell? ⟨w.heap.size, 0, none⟩ = some (.slice Awa nwa cwa) := by simp [← hv_, go_sem]
  have xa1 : v1.cell? ⟨w.heap.size, 1, none⟩ = some (.slice Ama nma cma) := by simp [← hv_, go_sem]
  have xa2 : v1.cell? ⟨w.heap.size, 2, none⟩ = some (.slice Ava nva cva) := by simp [← hv_, go_sem]
  have xa3 : v1.cell? ⟨w.heap.size, 3, none⟩ = some (.slice Aga nga cga) := by simp [← hv_, go_sem]
  have xal : w.heap.size < v1.heap.size := by simp [← hv_] <;> omega
  have xb0 : v1.cell? ⟨w.heap.size + 1, 0, none⟩ = some (.slice Awb nwb cwb) := by simp [← hv_, go_sem]
  have xb1 : v1.cell? ⟨w.heap.size + 1, 1, none⟩ = some (.slice Amb nmb cmb) := by simp [← hv_, go_sem]
  have xb2 : v1.cell? ⟨w.heap.size + 1, 2, none⟩ = some (.slice Avb nvb cvb) := by simp [← hv_, go_sem]
  have xb3 : v1.cell? ⟨w.heap.size + 1, 3, none⟩ = some (.slice Agb ngb cgb) := by simp [← hv_, go_sem]
  have xbl : w.heap.size + 1 < v1.heap.size := by simp [← hv_] <;> omega
  clear hv_
  go_wp2_with fail
  refine (Cw hwa hwb).mono ?_
  rintro e w2 ⟨rfl, b⟩
  replace hwa := hwa.on b
  replace hwb := hwb.on b
  rewrite [cR b xal] at xa0 xa1 xa2 xa3
  replace xal := lK b xal
  rewrite [cR b xbl] at xb0 xb1 xb2 xb3
  replace xbl := lK b xbl
  replace cc := bK cc b
  clear b
  go_wp2_with fail
  go_ret
  exact ⟨rfl, cc⟩

theorem nSame17_1 {w : World} {Awa : Option Addr} {nwa cwa : Nat} {Lwa : List Int} {Ama : Option Addr} {nma cma : Nat} {Lma : List Int} {Ava : Option Addr} {nva cva : Nat} {Lva : List Int} {Aga : Option Addr} {nga cga : Nat} {Lga : List Int} {Awb : Option Addr} {nwb cwb : Nat} {Lwb : List Int} {Amb : Option Addr} {nmb cmb : Nat} {Lmb : List Int} {Avb : Option Addr} {nvb cvb : Nat} {Lvb : List Int} {Agb : Option Addr} {ngb cgb : Nat} {Lgb : List Int} (hwa : IR w Awa nwa cwa Lwa) (hma : IR w Ama nma cma Lma) (hva : IR w Ava nva cva Lva) (hga : IR w Aga nga cga Lga) (hwb : IR w Awb nwb cwb Lwb) (hmb : IR w Amb nmb cmb Lmb) (hvb : IR w Avb nvb cvb Lvb) (hgb : IR w Agb ngb cgb Lgb) (kwa : nwa ≤ 9223372036854775807) (kma : nma ≤ 9223372036854775807) (kva : nva ≤ 9223372036854775807) (kga : nga ≤ 9223372036854775807) (q0 : Lwa = Lwb) (q1 : ¬ Lma = Lmb) :
    Calls Try.prog 14 #[.agg #[.slice Awa nwa cwa, .slice Ama nma cma, .slice Ava nva cva, .slice Aga nga cga], .agg #[.slice Awb nwb cwb, .slice Amb nmb cmb, .slice Avb nvb cvb, .slice Agb ngb cgb]] w (GotV w (.bool false)) := by
  have Cw := fun {W : World} (a : IR W Awa nwa cwa Lwa) (b : IR W Awb nwb cwb Lwb) => rsameI_N a b kwa
  rw [decide_eq_true q0] at Cw
  have Cm := fun {W : World} (a : IR W Ama nma cma Lma) (b : IR W Amb nmb cmb Lmb) => rsameI_N a b kma
  rw [decide_eq_false q1] at Cm
  clear q0 q1 kwa kma kva kga
  have cc := Below.refl w.heap.size w
  go_enter Try.func14, Try.ntmps14
  go_upto_region 1 with fail
  generalize hv_ : (w.alloc (.cells #[.slice Awa nwa cwa, .slice Ama nma cma, .slice Ava nva cva, .slice Aga nga cga] 26)).alloc (.cells #[.slice Awb nwb cwb, .slice Amb nmb cmb, .slice Avb nvb cvb, .slice Agb ngb cgb] 26) = v1
  have bA : Below w.heap.size w v1 := by rw [← hv_]; exact (((Below.refl _ w).alloc (by simp) _).alloc (by simp) _)
  replace hwa := hwa.on bA
  replace hwb := hwb.on bA
  replace hma := hma.on bA
  replace hmb := hmb.on bA
  replace cc := bK cc bA
  clear bA
  have xa0 : v1.cell? ⟨w.heap.size, 0, none⟩ = some (.slice Awa nwa cwa) := by simp [← hv_, go_sem]
  have xa1 : v1.cell? ⟨w.heap.size, 1, none⟩ = some (.slice Ama nma cma) := by simp [← hv_, go_sem]
  have xa2 : v1.cell? ⟨w.heap.size, 2, none⟩ = some (.slice Ava nva cva) := by simp [← hv_, go_sem]
  have xa3 : v1.cell? ⟨w.heap.size, 3, none⟩ = some (.slice Aga nga cga) := by simp [← hv_, go_sem]
  have xal : w.heap.size < v1.heap.size := by simp [← hv_] <;> omega
  have xb0 : v1.cell? ⟨w.heap.size + 1, 0, none⟩ = some (.slice Awb nwb cwb) := by simp [← hv_, go_sem]
  have xb1 : v1.cell? ⟨w.heap.size + 1, 1, none⟩ = some (.slice Amb nmb cmb) := by simp [← hv_, go_sem]
  have xb2 : v1.cell? ⟨w.heap.size + 1, 2, none⟩ = some (.slice Avb nvb cvb) := by simp [← hv_, go_sem]
  have xb3 : v1.cell? ⟨w.heap.size + 1, 3, none⟩ = some (.slice Agb ngb cgb) := by simp [← hv_, go_sem]
  have xbl : w.heap.size + 1 < v1.heap.size := by simp [← hv_] <;> omega
  clear hv_
  go_wp2_with fail
  refine (Cw hwa hwb).mono ?_
  rintro e w2 ⟨rfl, b⟩
  replace hwa := hwa.on b
  replace hwb := hwb.on b
  replace hma := hma.on b
  replace hmb := hmb.on b
  rewrite [cR b xal] at xa0 xa1 xa2 xa3
  replace xal := lK b xal
  rewrite [cR b xbl] at xb0 xb1 xb2 xb3
  replace xbl := lK b xbl
  replace cc := bK cc b
  clear b
  go_wp2_with fail
  refine (Cm hma hmb).mono ?_
  rintro e w3 ⟨rfl, b⟩
  replace hwa := hwa.on b
  replace hwb := hwb.on b
  replace hma := hma.on b
  replace hmb := hmb.on b
  rewrite [cR b xal] at xa0 xa1 xa2 xa3
  replace xal := lK b xal
  rewrite [cR b xbl] at xb0 xb1 xb2 xb3
  replace xbl := lK b xbl
  replace cc := bK cc b
  clear b
  go_wp2_with fail
  go_ret
  exact ⟨rfl, cc⟩

theorem nSame17_2 {w : World} {Awa : Option Addr} {nwa cwa : Nat} {Lwa : List Int} {Ama : Option Addr} {nma cma : Nat} {Lma : List Int} {Ava : Option Addr} {nva cva : Nat} {Lva : List Int} {Aga : Option Addr} {nga cga : Nat} {Lga : List Int} {Awb : Option Addr} {nwb cwb : Nat} {Lwb : List Int} {Amb : Option Addr} {nmb cmb : Nat} {Lmb : List Int} {Avb : Option Addr} {nvb cvb : Nat} {Lvb : List Int} {Agb : Option Addr} {ngb cgb : Nat} {Lgb : List Int} (hwa : IR w Awa nwa cwa Lwa) (hma : IR w Ama nma cma Lma) (hva : IR w Ava nva cva Lva) (hga : IR w Aga nga cga Lga) (hwb : IR w Awb nwb cwb Lwb) (hmb : IR w Amb nmb cmb Lmb) (hvb : IR w Avb nvb cvb Lvb) (hgb : IR w Agb ngb cgb Lgb) (kwa : nwa ≤ 9223372036854775807) (kma : nma ≤ 9223372036854775807) (kva : nva ≤ 9223372036854775807) (kga : nga ≤ 9223372036854775807) (q0 : Lwa = Lwb) (q1 : Lma = Lmb) (q2 : ¬ Lva = Lvb) :
    Calls Try.prog 14 #[.agg #[.slice Awa nwa cwa, .slice Ama nma cma, .slice Ava nva cva, .slice Aga nga cga], .agg #[.slice Awb nwb cwb, .slice Amb nmb cmb, .slice Avb nvb cvb, .slice Agb ngb cgb]] w (GotV w (.bool false)) := by
  have Cw := fun {W : World} (a : IR W Awa nwa cwa Lwa) (b : IR W Awb nwb cwb Lwb) => rsameI_N a b kwa
  rw [decide_eq_true q0] at Cw
  have Cm := fun {W : World} (a : IR W Ama nma cma Lma) (b : IR W Amb nmb cmb Lmb) => rsameI_N a b kma
  rw [decide_eq_true q1] at Cm
  have Cv := fun {W : World} (a : IR W Ava nva cva Lva) (b : IR W Avb nvb cvb Lvb) => rsameI_N a b kva
  rw [decide_eq_false q2] at Cv
  clear q0 q1 q2 kwa kma kva kga
  have cc := Below.refl w.heap.size w
  go_enter Try.func14, Try.ntmps14
  go_upto_region 1 with fail
  generalize hv_ : (w.alloc (.cells #[.slice Awa nwa cwa, .slice Ama nma cma, .slice Ava nva cva, .slice Aga nga cga] 26)).alloc (.cells #[.slice Awb nwb cwb, .slice Amb nmb cmb, .slice Avb nvb cvb, .slice Agb ngb cgb] 26) = v1
  have bA : Below w.heap.size w v1 := by rw [← hv_]; exact (((Below.refl _ w).alloc (by simp) _).alloc (by simp) _)
  replace hwa := hwa.on bA
  replace hwb := hwb.on bA
  replace hma := hma.on bA
  replace hmb := hmb.on bA
  replace hva := hva.on bA
  replace hvb := hvb.on bA
  replace cc := bK cc bA
  clear bA
  have xa0 : v1.cell? ⟨w.heap.size, 0, none⟩ = some (.slice Awa nwa cwa) := by simp [← hv_, go_sem]
  have xa1 : v1.cell? ⟨w.heap.size, 1, none⟩ = some (.slice Ama nma cma) := by simp [← hv_, go_sem]
  have xa2 : v1.cell? ⟨w.heap.size, 2, none⟩ = some (.slice Ava nva cva) := by simp [← hv_, go_sem]
  have xa3 : v1.cell? ⟨w.heap.size, 3, none⟩ = some (.slice Aga nga cga) := by simp [← hv_, go_sem]
  have xal : w.heap.size < v1.heap.size := by simp [← hv_] <;> omega
  have xb0 : v1.cell? ⟨w.heap.size + 1, 0, none⟩ = some (.slice Awb nwb cwb) := by simp [← hv_, go_sem]
  have xb1 : v1.cell? ⟨w.heap.size + 1, 1, none⟩ = some (.slice Amb nmb cmb) := by simp [← hv_, go_sem]
  have xb2 : v1.cell? ⟨w.heap.size + 1, 2, none⟩ = some (.slice Avb nvb cvb) := by simp [← hv_, go_sem]
  have xb3 : v1.cell? ⟨w.heap.size + 1, 3, none⟩ = some (.slice Agb ngb cgb) := by simp [← hv_, go_sem]
  have xbl : w.heap.size + 1 < v1.heap.size := by simp [← hv_] <;> omega
  clear hv_
  go_wp2_with fail
  refine (Cw hwa hwb).mono ?_
  rintro e w2 ⟨rfl, b⟩
  replace hwa := hwa.on b
  replace hwb := hwb.on b
  replace hma := hma.on b
  replace hmb := hmb.on b
  replace hva := hva.on b
  replace hvb := hvb.on b
  rewrite [cR b xal] at xa0 xa1 xa2 xa3
  replace xal := lK b xal
  rewrite [cR b xbl] at xb0 xb1 xb2 xb3
  replace xbl := lK b xbl
  replace cc := bK cc b
  clear b
  go_wp2_with fail
  refine (Cm hma hmb).mono ?_
  rintro e w3 ⟨rfl, b⟩
  replace hwa := hwa.on b
  replace hwb := hwb.on b
  replace hma := hma.on b
  replace hmb := hmb.on b
  replace hva := hva.on b
  replace hvb := hvb.on b
  rewrite [cR b xal] at xa0 xa1 xa2 xa3
  replace xal := lK b xal
  rewrite [cR b xbl] at xb0 xb1 xb2 xb3
  replace xbl := lK b xbl
  replace cc := bK cc b
  clear b
  go_wp2_with fail
  refine (Cv hva hvb).mono ?_
  rintro e w4 ⟨rfl, b⟩
  replace hwa := hwa.on b
  replace hwb := hwb.on b
  replace hma := hma.on b
  replace hmb := hmb.on b
  replace hva := hva.on b
  replace hvb := hvb.on b
  rewrite [cR b xal] at xa0 xa1 xa2 xa3
  replace xal := lK b xal
  rewrite [cR b xbl] at xb0 xb1 xb2 xb3
  replace xbl := lK b xbl
  replace cc := bK cc b
  clear b
  go_wp2_with fail
  go_ret
  exact ⟨rfl, cc⟩

theorem nSame17_3 {w : World} {Awa : Option Addr} {nwa cwa : Nat} {Lwa : List Int} {Ama : Option Addr} {nma cma : Nat} {Lma : List Int} {Ava : Option Addr} {nva cva : Nat} {Lva : List Int} {Aga : Option Addr} {nga cga : Nat} {Lga : List Int} {Awb : Option Addr} {nwb cwb : Nat} {Lwb : List Int} {Amb : Option Addr} {nmb cmb : Nat} {Lmb : List Int} {Avb : Option Addr} {nvb cvb : Nat} {Lvb : List Int} {Agb : Option Addr} {ngb cgb : Nat} {Lgb : List Int} (hwa : IR w Awa nwa cwa Lwa) (hma : IR w Ama nma cma Lma) (hva : IR w Ava nva cva Lva) (hga : IR w Aga nga cga Lga) (hwb : IR w Awb nwb cwb Lwb) (hmb : IR w Amb nmb cmb Lmb) (hvb : IR w Avb nvb cvb Lvb) (hgb : IR w Agb ngb cgb Lgb) (kwa : nwa ≤ 9223372036854775807) (kma : nma ≤ 9223372036854775807) (kva : nva ≤ 9223372036854775807) (kga : nga ≤ 9223372036854775807) (q0 : Lwa = Lwb) (q1 : Lma = Lmb) (q2 : Lva = Lvb) (q3 : ¬ Lga = Lgb) :
    Calls Try.prog 14 #[.agg #[.slice Awa nwa cwa, .slice Ama nma cma, .slice Ava nva cva, .slice Aga nga cga], .agg #[.slice Awb nwb cwb, .slice Amb nmb cmb, .slice Avb nvb cvb, .slice Agb ngb cgb]] w (GotV w (.bool false)) := by
  have Cw := fun {W : World} (a : IR W Awa nwa cwa Lwa) (b : IR W Awb nwb cwb Lwb) => rsameI_N a b kwa
  rw [decide_eq_true q0] at Cw
  have Cm := fun {W : World} (a : IR W Ama nma cma Lma) (b : IR W Amb nmb cmb Lmb) => rsameI_N a b kma
  rw [decide_eq_true q1] at Cm
  have Cv := fun {W : World} (a : IR W Ava nva cva Lva) (b : IR W Avb nvb cvb Lvb) => rsameI_N a b kva
  rw [decide_eq_true q2] at Cv
  have Cg := fun {W : World} (a : IR W Aga nga cga Lga) (b : IR W Agb ngb cgb Lgb) => rsameI_N a b kga
  rw [decide_eq_false q3] at Cg
  clear q0 q1 q2 q3 kwa kma kva kga
  have cc := Below.refl w.heap.size w
  go_enter Try.func14, Try.ntmps14
  go_upto_region 1 with fail
  generalize hv_ : (w.alloc (.cells #[.slice Awa nwa cwa, .slice Ama nma cma, .slice Ava nva cva, .slice Aga nga cga] 26)).alloc (.cells #[.slice Awb nwb cwb, .slice Amb nmb cmb, .slice Avb nvb cvb, .slice Agb ngb cgb] 26) = v1
  have bA : Below w.heap.size w v1 := by rw [← hv_]; exact (((Below.refl _ w).alloc (by simp) _).alloc (by simp) _)
  replace hwa := hwa.on bA
  replace hwb := hwb.on bA
  replace hma := hma.on bA
  replace hmb := hmb.on bA
  replace hva := hva.on bA
  replace hvb := hvb.on bA
  replace hga := hga.on bA
  replace hgb := hgb.on bA
  replace cc := bK cc bA
  clear bA
  have xa0 : v1.cell? ⟨w.heap.size, 0, none⟩ = some (.slice Awa nwa cwa) := by simp [← hv_, go_sem]
  have xa1 : v1.cell? ⟨w.heap.size, 1, none⟩ = some (.slice Ama nma cma) := by simp [← hv_, go_sem]
  have xa2 : v1.cell? ⟨w.heap.size, 2, none⟩ = some (.slice Ava nva cva) := by simp [← hv_, go_sem]
  have xa3 : v1.cell? ⟨w.heap.size, 3, none⟩ = some (.slice Aga nga cga) := by simp [← hv_, go_sem]
  have xal : w.heap.size < v1.heap.size := by simp [← hv_] <;> omega
  have xb0 : v1.cell? ⟨w.heap.size + 1, 0, none⟩ = some (.slice Awb nwb cwb) := by simp [← hv_, go_sem]
  have xb1 : v1.cell? ⟨w.heap.size + 1, 1, none⟩ = some (.slice Amb nmb cmb) := by simp [← hv_, go_sem]
  have xb2 : v1.cell? ⟨w.heap.size + 1, 2, none⟩ = some (.slice Avb nvb cvb) := by simp [← hv_, go_sem]
  have xb3 : v1.cell? ⟨w.heap.size + 1, 3, none⟩ = some (.slice Agb ngb cgb) := by simp [← hv_, go_sem]
  have xbl : w.heap.size + 1 < v1.heap.size := by simp [← hv_] <;> omega
  clear hv_
  go_wp2_with fail
  refine (Cw hwa hwb).mono ?_
  rintro e w2 ⟨rfl, b⟩
  replace hwa := hwa.on b
  replace hwb := hwb.on b
  replace hma := hma.on b
  replace hmb := hmb.on b
  replace hva := hva.on b
  replace hvb := hvb.on b
  replace hga := hga.on b
  replace hgb := hgb.on b
  rewrite [cR b xal] at xa0 xa1 xa2 xa3
  replace xal := lK b xal
  rewrite [cR b xbl] at xb0 xb1 xb2 xb3
  replace xbl := lK b xbl
  replace cc := bK cc b
  clear b
  go_wp2_with fail
  refine (Cm hma hmb).mono ?_
  rintro e w3 ⟨rfl, b⟩
  replace hwa := hwa.on b
  replace hwb := hwb.on b
  replace hma := hma.on b
  replace hmb := hmb.on b
  replace hva := hva.on b
  replace hvb := hvb.on b
  replace hga := hga.on b
  replace hgb := hgb.on b
  rewrite [cR b xal] at xa0 xa1 xa2 xa3
  replace xal := lK b xal
  rewrite [cR b xbl] at xb0 xb1 xb2 xb3
  replace xbl := lK b xbl
  replace cc := bK cc b
  clear b
  go_wp2_with fail
  refine (Cv hva hvb).mono ?_
  rintro e w4 ⟨rfl, b⟩
  replace hwa := hwa.on b
  replace hwb := hwb.on b
  replace hma := hma.on b
  replace hmb := hmb.on b
  replace hva := hva.on b
  replace hvb := hvb.on b
  replace hga := hga.on b
  replace hgb := hgb.on b
  rewrite [cR b xal] at xa0 xa1 xa2 xa3
  replace xal := lK b xal
  rewrite [cR b xbl] at xb0 xb1 xb2 xb3
  replace xbl := lK b xbl
  replace cc := bK cc b
  clear b
  go_wp2_with fail
  refine (Cg hga hgb).mono ?_
  rintro e w5 ⟨rfl, b⟩
  replace hwa := hwa.on b
  replace hwb := hwb.on b
  replace hma := hma.on b
  replace hmb := hmb.on b
  replace hva := hva.on b
  replace hvb := hvb.on b
  replace hga := hga.on b
  replace hgb := hgb.on b
  rewrite [cR b xal] at xa0 xa1 xa2 xa3
  replace xal := lK b xal
  rewrite [cR b xbl] at xb0 xb1 xb2 xb3
  replace xbl := lK b xbl
  replace cc := bK cc b
  clear b
  go_wp2_with fail
  go_ret
  exact ⟨rfl, cc⟩

theorem nSame17_4 {w : World} {Awa : Option Addr} {nwa cwa : Nat} {Lwa : List Int} {Ama : Option Addr} {nma cma : Nat} {Lma : List Int} {Ava : Option Addr} {nva cva : Nat} {Lva : List Int} {Aga : Option Addr} {nga cga : Nat} {Lga : List Int} {Awb : Option Addr} {nwb cwb : Nat} {Lwb : List Int} {Amb : Option Addr} {nmb cmb : Nat} {Lmb : List Int} {Avb : Option Addr} {nvb cvb : Nat} {Lvb : List Int} {Agb : Option Addr} {ngb cgb : Nat} {Lgb : List Int} (hwa : IR w Awa nwa cwa Lwa) (hma : IR w Ama nma cma Lma) (hva : IR w Ava nva cva Lva) (hga : IR w Aga nga cga Lga) (hwb : IR w Awb nwb cwb Lwb) (hmb : IR w Amb nmb cmb Lmb) (hvb : IR w Avb nvb cvb Lvb) (hgb : IR w Agb ngb cgb Lgb) (kwa : nwa ≤ 9223372036854775807) (kma : nma ≤ 9223372036854775807) (kva : nva ≤ 9223372036854775807) (kga : nga ≤ 9223372036854775807) (q0 : Lwa = Lwb) (q1 : Lma = Lmb) (q2 : Lva = Lvb) (q3 : Lga = Lgb) :
    Calls Try.prog 14 #[.agg #[.slice Awa nwa cwa, .slice Ama nma cma, .slice Ava nva cva, .slice Aga nga cga], .agg #[.slice Awb nwb cwb, .slice Amb nmb cmb, .slice Avb nvb cvb, .slice Agb ngb cgb]] w (GotV w (.bool true)) := by
  have Cw := fun {W : World} (a : IR W Awa nwa cwa Lwa) (b : IR W Awb nwb cwb Lwb) => rsameI_N a b kwa
  rw [decide_eq_true q0] at Cw
  have Cm := fun {W : World} (a : IR W Ama nma cma Lma) (b : IR W Amb nmb cmb Lmb) => rsameI_N a b kma
  rw [decide_eq_true q1] at Cm
  have Cv := fun {W : World} (a : IR W Ava nva cva Lva) (b : IR W Avb nvb cvb Lvb) => rsameI_N a b kva
  rw [decide_eq_true q2] at Cv
  have Cg := fun {W : World} (a : IR W Aga nga cga Lga) (b : IR W Agb ngb cgb Lgb) => rsameI_N a b kga
  rw [decide_eq_true q3] at Cg
  clear q0 q1 q2 q3 kwa kma kva kga
  have cc := Below.refl w.heap.size w
  go_enter Try.func14, Try.ntmps14
  go_upto_region 1 with fail
  generalize hv_ : (w.alloc (.cells #[.slice Awa nwa cwa, .slice Ama nma cma, .slice Ava nva cva, .slice Aga nga cga] 26)).alloc (.cells #[.slice Awb nwb cwb, .slice Amb nmb cmb, .slice Avb nvb cvb, .slice Agb ngb cgb] 26) = v1
  have bA : Below w.heap.size w v1 := by rw [← hv_]; exact (((Below.refl _ w).alloc (by simp) _).alloc (by simp) _)
  replace hwa := hwa.on bA
  replace hwb := hwb.on bA
  replace hma := hma.on bA
  replace hmb := hmb.on bA
  replace hva := hva.on bA
  replace hvb := hvb.on bA
  replace hga := hga.on bA
  replace hgb := hgb.on bA
  replace cc := bK cc bA
  clear bA
  have xa0 : v1.cell? ⟨w.heap.size, 0, none⟩ = some (.slice Awa nwa cwa) := by simp [← hv_, go_sem]
  have xa1 : v1.cell? ⟨w.heap.size, 1, none⟩ = some (.slice Ama nma cma) := by simp [← hv_, go_sem]
  have xa2 : v1.cell? ⟨w.heap.size, 2, none⟩ = some (.slice Ava nva cva) := by simp [← hv_, go_sem]
  have xa3 : v1.cell? ⟨w.heap.size, 3, none⟩ = some (.slice Aga nga cga) := by simp [← hv_, go_sem]
  have xal : w.heap.size < v1.heap.size := by simp [← hv_] <;> omega
  have xb0 : v1.cell? ⟨w.heap.size + 1, 0, none⟩ = some (.slice Awb nwb cwb) := by simp [← hv_, go_sem]
  have xb1 : v1.cell? ⟨w.heap.size + 1, 1, none⟩ = some (.slice Amb nmb cmb) := by simp [← hv_, go_sem]
  have xb2 : v1.cell? ⟨w.heap.size + 1, 2, none⟩ = some (.slice Avb nvb cvb) := by simp [← hv_, go_sem]
  have xb3 : v1.cell? ⟨w.heap.size + 1, 3, none⟩ = some (.slice Agb ngb cgb) := by simp [← hv_, go_sem]
  have xbl : w.heap.size + 1 < v1.heap.size := by simp [← hv_] <;> omega
  clear hv_
  go_wp2_with fail
  refine (Cw hwa hwb).mono ?_
  rintro e w2 ⟨rfl, b⟩
  replace hwa := hwa.on b
  replace hwb := hwb.on b
  replace hma := hma.on b
  replace hmb := hmb.on b
  replace hva := hva.on b
  replace hvb := hvb.on b
  replace hga := hga.on b
  replace hgb := hgb.on b
  rewrite [cR b xal] at xa0 xa1 xa2 xa3
  replace xal := lK b xal
  rewrite [cR b xbl] at xb0 xb1 xb2 xb3
  replace xbl := lK b xbl
  replace cc := bK cc b
  clear b
  go_wp2_with fail
  refine (Cm hma hmb).mono ?_
  rintro e w3 ⟨rfl, b⟩
  replace hwa := hwa.on b
  replace hwb := hwb.on b
  replace hma := hma.on b
  replace hmb := hmb.on b
  replace hva := hva.on b
  replace hvb := hvb.on b
  replace hga := hga.on b
  replace hgb := hgb.on b
  rewrite [cR b xal] at xa0 xa1 xa2 xa3
  replace xal := lK b xal
  rewrite [cR b xbl] at xb0 xb1 xb2 xb3
  replace xbl := lK b xbl
  replace cc := bK cc b
  clear b
  go_wp2_with fail
  refine (Cv hva hvb).mono ?_
  rintro e w4 ⟨rfl, b⟩
  replace hwa := hwa.on b
  replace hwb := hwb.on b
  replace hma := hma.on b
  replace hmb := hmb.on b
  replace hva := hva.on b
  replace hvb := hvb.on b
  replace hga := hga.on b
  replace hgb := hgb.on b
  rewrite [cR b xal] at xa0 xa1 xa2 xa3
  replace xal := lK b xal
  rewrite [cR b xbl] at xb0 xb1 xb2 xb3
  replace xbl := lK b xbl
  replace cc := bK cc b
  clear b
  go_wp2_with fail
  refine (Cg hga hgb).mono ?_
  rintro e w5 ⟨rfl, b⟩
  replace hwa := hwa.on b
  replace hwb := hwb.on b
  replace hma := hma.on b
  replace hmb := hmb.on b
  replace hva := hva.on b
  replace hvb := hvb.on b
  replace hga := hga.on b
  replace hgb := hgb.on b
  rewrite [cR b xal] at xa0 xa1 xa2 xa3
  replace xal := lK b xal
  rewrite [cR b xbl] at xb0 xb1 xb2 xb3
  replace xbl := lK b xbl
  replace cc := bK cc b
  clear b
  go_wp2_with fail
  go_ret
  exact ⟨rfl, cc⟩

theorem nSame17_N {w : World} {Awa : Option Addr} {nwa cwa : Nat} {Lwa : List Int} {Ama : Option Addr} {nma cma : Nat} {Lma : List Int} {Ava : Option Addr} {nva cva : Nat} {Lva : List Int} {Aga : Option Addr} {nga cga : Nat} {Lga : List Int} {Awb : Option Addr} {nwb cwb : Nat} {Lwb : List Int} {Amb : Option Addr} {nmb cmb : Nat} {Lmb : List Int} {Avb : Option Addr} {nvb cvb : Nat} {Lvb : List Int} {Agb : Option Addr} {ngb cgb : Nat} {Lgb : List Int} (hwa : IR w Awa nwa cwa Lwa) (hma : IR w Ama nma cma Lma) (hva : IR w Ava nva cva Lva) (hga : IR w Aga nga cga Lga) (hwb : IR w Awb nwb cwb Lwb) (hmb : IR w Amb nmb cmb Lmb) (hvb : IR w Avb nvb cvb Lvb) (hgb : IR w Agb ngb cgb Lgb) (kwa : nwa ≤ 9223372036854775807) (kma : nma ≤ 9223372036854775807) (kva : nva ≤ 9223372036854775807) (kga : nga ≤ 9223372036854775807) : Calls Try.prog 14 #[.agg #[.slice Awa nwa cwa, .slice Ama nma cma, .slice Ava nva cva, .slice Aga nga cga], .agg #[.slice Awb nwb cwb, .slice Amb nmb cmb, .slice Avb nvb cvb, .slice Agb ngb cgb]] w (GotV w (.bool (decide (Lwa = Lwb ∧ Lma = Lmb ∧ Lva = Lvb ∧ Lga = Lgb)))) := by
  by_cases q0 : Lwa = Lwb
  rotate_left
  · rw [decide_eq_false (fun h => q0 h.1)]; exact nSame17_0 hwa hma hva hga hwb hmb hvb hgb kwa kma kva kga q0
  by_cases q1 : Lma = Lmb
  rotate_left
  · rw [decide_eq_false (fun h => q1 h.2.1)]; exact nSame17_1 hwa hma hva hga hwb hmb hvb hgb kwa kma kva kga q0 q1
  by_cases q2 : Lva = Lvb
  rotate_left
  · rw [decide_eq_false (fun h => q2 h.2.2.1)]; exact nSame17_2 hwa hma hva hga hwb hmb hvb hgb kwa kma kva kga q0 q1 q2
  by_cases q3 : Lga = Lgb
  rotate_left
  · rw [decide_eq_false (fun h => q3 h.2.2.2)]; exact nSame17_3 hwa hma hva hga hwb hmb hvb hgb kwa kma kva kga q0 q1 q2 q3
  rw [decide_eq_true ⟨q0, q1, q2, q3⟩]
  exact nSame17_4 hwa hma hva hga hwb hmb hvb hgb kwa kma kva kga q0 q1 q2 q3

theorem nFew17_N {w : World} {Aw : Option Addr} {nw cw : Nat} {Am : Option Addr} {nm cm : Nat} {Av : Option Addr} {nv cv : Nat} {Ag : Option Addr} {ng cg : Nat} {most : Int} (kw : nw ≤ 2305843009213693951) (km : nm ≤ 2305843009213693951) (kv : nv ≤ 2305843009213693951) (kg : ng ≤ 2305843009213693951) :
    Calls Try.prog 8 #[.agg #[.slice Aw nw cw, .slice Am nm cm, .slice Av nv cv, .slice Ag ng cg], .int .i64 most] w (GotV w (.bool (decide (((nw + nm + nv + ng : Nat) : Int) ≤ most)))) := by
  have t1 : IntKind.i64.wrap ((nw : Int) + (nm : Int)) = ((nw + nm : Nat) : Int) := by rw [IntWalk.i64_in _ (by omega)]; omega
  have t2 : IntKind.i64.wrap (((nw + nm : Nat) : Int) + (nv : Int)) = ((nw + nm + nv : Nat) : Int) := by rw [IntWalk.i64_in _ (by omega)]; omega
  have t3 : IntKind.i64.wrap (((nw + nm + nv : Nat) : Int) + (ng : Int)) = ((nw + nm + nv + ng : Nat) : Int) := by rw [IntWalk.i64_in _ (by omega)]; omega
  obtain ⟨a, ea⟩ : ∃ a, nw + nm = a := ⟨_, rfl⟩
  obtain ⟨b, eb⟩ : ∃ b, a + nv = b := ⟨_, rfl⟩
  obtain ⟨d, ed⟩ : ∃ d, b + ng = d := ⟨_, rfl⟩
  simp only [ea, eb, ed] at t1 t2 t3 ⊢
  clear kw km kv kg ea eb ed
  have cc := Below.refl w.heap.size w
  go_enter Try.func8, Try.ntmps8
  go_upto_region 1 with fail
  generalize hv_ : w.alloc (.cells #[.slice Aw nw cw, .slice Am nm cm, .slice Av nv cv, .slice Ag ng cg] 26) = v1
  have bA : Below w.heap.size w v1 := by rw [← hv_]; exact ((Below.refl _ w).alloc (by simp) _)
  replace cc := bK cc bA
  clear bA
  have xa0 : v1.cell? ⟨w.heap.size, 0, none⟩ = some (.slice Aw nw cw) := by simp [← hv_, go_sem]
  have xa1 : v1.cell? ⟨w.heap.size, 1, none⟩ = some (.slice Am nm cm) := by simp [← hv_, go_sem]
  have xa2 : v1.cell? ⟨w.heap.size, 2, none⟩ = some (.slice Av nv cv) := by simp [← hv_, go_sem]
  have xa3 : v1.cell? ⟨w.heap.size, 3, none⟩ = some (.slice Ag ng cg) := by simp [← hv_, go_sem]
  have xal : w.heap.size < v1.heap.size := by simp [← hv_] <;> omega
  clear hv_
  go_wp2_with fail
  go_ret
  exact ⟨rfl, cc⟩

end Go.Proofs.Ytckdbcngnghhiaa

/-
  The seventeenth reference: the region of a round of Step that draws its order.
-/
namespace Go.Proofs.Ytckdbcngnghhiaa
open Go.RowKit
set_option linter.unusedVariables false
set_option linter.unusedSimpArgs false

def rg_StepR9 : { o : Array Oper // regOf 9 Try.f11 = o } := ⟨_, by
  simp only [regOf, regIn, Try.f11, reduceIte, Nat.reduceEqDiff, Option.or, Option.getD, Nat.one_ne_zero, Nat.zero_ne_one]
  rfl⟩
end Go.Proofs.Ytckdbcngnghhiaa

/-
  The seventeenth reference: Step, where there is none.
-/
namespace Go.Proofs.Ytckdbcngnghhiaa
open Go.RowKit
set_option linter.unusedVariables false
set_option linter.unusedSimpArgs false

/-- All four cells of a box of rows are written. -/
@[reducible] def put4 (W : World) (g : Nat) (a b c d : Value) : World := (((W.setCell ⟨g, 0, none⟩ a).setCell ⟨g, 1, none⟩ b).setCell ⟨g, 2, none⟩ c).setCell ⟨g, 3, none⟩ d
theorem below_put4 {C g : Nat} {V W : World} (h : Below C V W) (hg : C ≤ g) (a b c d : Value) : Below C V (put4 W g a b c d) := (((h.setCell (p := ⟨g, 0, none⟩) hg a).setCell (p := ⟨g, 1, none⟩) hg b).setCell (p := ⟨g, 2, none⟩) hg c).setCell (p := ⟨g, 3, none⟩) hg d

end Go.Proofs.Ytckdbcngnghhiaa

/-
  Rows of steps, place by place.
-/
namespace Go.Proofs.Ytckdbcngnghhiaa
set_option linter.unusedVariables false
set_option linter.unusedSimpArgs false

/-- The step at a place: its velocity, its weight. -/
def sV (mu wd : Int) (f : Nat) (W V G : List Int) (j : Nat) : Nm := stV mu wd f (W[j]?.getD 0) (V[j]?.getD 0) (G[j]?.getD 0)
def sW (lr mu wd : Int) (nest : Bool) (f : Nat) (W V G : List Int) (j : Nat) : Nm := stW lr mu wd nest f (W[j]?.getD 0) (V[j]?.getD 0) (G[j]?.getD 0)
theorem range_cons {α : Type} (F : Nat → α) (n : Nat) : (List.range (n + 1)).map F = F 0 :: (List.range n).map (fun j => F (j + 1)) := by
  rw [List.range_succ_eq_map, List.map_cons, List.map_map]; rfl
theorem rowV_eq (mu wd : Int) (f : Nat) : ∀ {W V G : List Int}, V.length = W.length → G.length = W.length → rowV mu wd f W V G = (List.range W.length).map fun j => (sV mu wd f W V G j).1
  | [], V, G, _, _ => by unfold rowV; simp
  | w :: W, [], G, h, _ => by simp at h
  | w :: W, v :: V, [], _, h => by simp at h
  | w :: W, v :: V, g :: G, h1, h2 => by
    have ih := rowV_eq mu wd f (W := W) (V := V) (G := G) (by simpa using h1) (by simpa using h2)
    rw [List.length_cons, range_cons]
    show _ :: rowV mu wd f W V G = _
    rw [ih]; rfl
theorem rowW_eq (lr mu wd : Int) (nest : Bool) (f : Nat) : ∀ {W V G : List Int}, V.length = W.length → G.length = W.length → rowW lr mu wd nest f W V G = (List.range W.length).map fun j => (sW lr mu wd nest f W V G j).1
  | [], V, G, _, _ => by unfold rowW; simp
  | w :: W, [], G, h, _ => by simp at h
  | w :: W, v :: V, [], _, h => by simp at h
  | w :: W, v :: V, g :: G, h1, h2 => by
    have ih := rowW_eq lr mu wd nest f (W := W) (V := V) (G := G) (by simpa using h1) (by simpa using h2)
    rw [List.length_cons, range_cons]
    show _ :: rowW lr mu wd nest f W V G = _
    rw [ih]; rfl
theorem rowOK_iff (lr mu wd : Int) (nest : Bool) (f : Nat) : ∀ {W V G : List Int}, V.length = W.length → G.length = W.length → (rowOK lr mu wd nest f W V G = true ↔ ∀ j, j < W.length → (sW lr mu wd nest f W V G j).2 = true ∧ (sV mu wd f W V G j).2 = true)
  | [], V, G, _, _ => by unfold rowOK; simp
  | w :: W, [], G, h, _ => by simp at h
  | w :: W, v :: V, [], _, h => by simp at h
  | w :: W, v :: V, g :: G, h1, h2 => by
    have ih := rowOK_iff lr mu wd nest f (W := W) (V := V) (G := G) (by simpa using h1) (by simpa using h2)
    have e : rowOK lr mu wd nest f (w :: W) (v :: V) (g :: G) = ((stW lr mu wd nest f w v g).2 && (stV mu wd f w v g).2 && rowOK lr mu wd nest f W V G) := rfl
    rw [e, Bool.and_eq_true, Bool.and_eq_true, ih]
    constructor
    · rintro ⟨⟨a, b⟩, c⟩ j hj
      rcases j with _ | j
      · exact ⟨a, b⟩
      · exact c j (by simpa using hj)
    · intro h
      exact ⟨h 0 (by simp), fun j hj => h (j + 1) (by simpa using hj)⟩
/-- The first i of each. -/
def upV (mu wd : Int) (f : Nat) (W V G : List Int) (i : Nat) : List Int := (List.range i).map fun j => (sV mu wd f W V G j).1
def upW (lr mu wd : Int) (nest : Bool) (f : Nat) (W V G : List Int) (i : Nat) : List Int := (List.range i).map fun j => (sW lr mu wd nest f W V G j).1
theorem upV_succ (mu wd : Int) (f : Nat) (W V G : List Int) (i : Nat) : upV mu wd f W V G (i + 1) = upV mu wd f W V G i ++ [(sV mu wd f W V G i).1] := by unfold upV; rw [List.range_succ, List.map_append]; rfl
theorem upW_succ (lr mu wd : Int) (nest : Bool) (f : Nat) (W V G : List Int) (i : Nat) : upW lr mu wd nest f W V G (i + 1) = upW lr mu wd nest f W V G i ++ [(sW lr mu wd nest f W V G i).1] := by unfold upW; rw [List.range_succ, List.map_append]; rfl
end Go.Proofs.Ytckdbcngnghhiaa

/-
  Two rows of numbers of the call's own, in a box of rows, which grow.
-/
namespace Go.Proofs.Ytckdbcngnghhiaa
open Go.RowKit
set_option linter.unusedVariables false
set_option linter.unusedSimpArgs false

theorem own_any17 {t n : Nat} {w w' : World} {e : TypeId} {size : Nat} {v : Value} {xs : List Value} (hO : w.ownsRow t e size v n xs) (hk : ∀ g, v.ownBlock = some g → w'.heap[g]? = w.heap[g]?) : w'.ownsRow t e size v n xs := by
  obtain ⟨h1, h2⟩ := hO
  refine ⟨h1, ?_⟩
  rcases h2 with h2 | ⟨g', cap', cur, hv, hg, hh, r⟩
  · exact Or.inl h2
  · exact Or.inr ⟨g', cap', cur, hv, hg, by rw [hk g' (by rw [hv]; rfl)]; exact hh, r⟩
theorem ir_keep17 {w w' : World} {A : Option Addr} {n c : Nat} {l : List Int} (h : IR w A n c l) (hk : ∀ q, 0 < n → A = some q → w'.heap[q.block]? = w.heap[q.block]?) (hs : w.heap.size ≤ w'.heap.size) : IR w' A n c l :=
  ⟨h.1, h.2.1, fun hp => by
    obtain ⟨b, off, e, hlt, hc⟩ := h.2.2 hp
    have hb : w'.heap[b]? = w.heap[b]? := hk _ hp e
    exact ⟨b, off, e, Nat.lt_of_lt_of_le hlt hs, fun j hj => (World.cell?_of_block (w := w) (a := ⟨b, off + j, none⟩) hb).trans (hc j hj)⟩⟩
theorem cells4 {W : World} {g : Nat} {a b c d : Value} {T : TypeId} (h : W.heap[g]? = some (.cells #[a, b, c, d] T)) : W.cell? ⟨g, 0, none⟩ = some a ∧ W.cell? ⟨g, 1, none⟩ = some b ∧ W.cell? ⟨g, 2, none⟩ = some c ∧ W.cell? ⟨g, 3, none⟩ = some d :=
  ⟨cell_of_row W g 0 #[a, b, c, d] T _ h, cell_of_row W g 1 #[a, b, c, d] T _ h, cell_of_row W g 2 #[a, b, c, d] T _ h, cell_of_row W g 3 #[a, b, c, d] T _ h⟩
theorem fro_of {W : World} {g : Nat} {cs : Array Value} {T : TypeId} (k : Nat) (h : W.heap[g]? = some (.cells cs T)) : W.frozen? ⟨g, k, none⟩ = false := by simp [World.frozen?, h]
/-- A box of rows at go, the first two of which are the call's own, from t on. -/
def Own17 (t go : Nat) (w : World) (p : Option Addr) (n cp : Nat) (q : Option Addr) (m cq : Nat) (LW LM : List Int) : Prop :=
  w.heap[go]? = some (.cells #[.slice p n cp, .slice q m cq, .slice none 0 0, .slice none 0 0] 26) ∧ w.ownsRow t 2 1 (.slice p n cp) n (LW.map encI) ∧ w.ownsRow t 2 1 (.slice q m cq) m (LM.map encI) ∧ ∀ a, (Value.slice p n cp).ownBlock = some a → (Value.slice q m cq).ownBlock ≠ some a
theorem Own17.on {t go : Nat} {w w' : World} {p : Option Addr} {n cp : Nat} {q : Option Addr} {m cq : Nat} {LW LM : List Int} (h : Own17 t go w p n cp q m cq LW LM) (b : Below w.heap.size w w') : Own17 t go w' p n cp q m cq LW LM := by
  obtain ⟨z, hW, hM, hne⟩ := h
  exact ⟨(b.block go (Array.getElem?_eq_some_iff.1 z).1).trans z, own_any17 hW (fun g e => b.block g (hW.lt g e).2), own_any17 hM (fun g e => b.block g (hM.lt g e).2), hne⟩
theorem put4_far {W : World} {g b : Nat} {x y z u : Value} (h : b ≠ g) : (put4 W g x y z u).heap[b]? = W.heap[b]? := by
  unfold put4
  rw [heap_setCell_other _ ⟨g, 3, none⟩ b u h, heap_setCell_other _ ⟨g, 2, none⟩ b z h, heap_setCell_other _ ⟨g, 1, none⟩ b y h, heap_setCell_other _ ⟨g, 0, none⟩ b x h]
/-- Two rows are answered, with a code; both are new. -/
def GotS17 (w : World) (LW LM : List Int) (k : Int) (e : Ending) (w' : World) : Prop :=
  ∃ A n c B m d, e = .returned (.tuple #[.agg #[.slice A n c, .slice B m d, .slice none 0 0, .slice none 0 0], .int .i64 k]) ∧ IR w' A n c LW ∧ IR w' B m d LM ∧ Below w.heap.size w w' ∧ (∀ q, A = some q → w.heap.size ≤ q.block) ∧ ∀ q, B = some q → w.heap.size ≤ q.block
theorem Own17.got {t go g : Nat} {w w' : World} {p : Option Addr} {n cp : Nat} {q : Option Addr} {m cq : Nat} {LW LM : List Int} {e : Ending} {k : Int} (h : Own17 t go w' p n cp q m cq LW LM) (cc : Below w.heap.size w w') (hg : w.heap.size ≤ g) (hgt : g < t) (x y z u : Value)
    (he : e = .returned (.tuple #[.agg #[.slice p n cp, .slice q m cq, .slice none 0 0, .slice none 0 0], .int .i64 k])) : GotS17 w LW LM k e (put4 w' g x y z u) := by
  obtain ⟨_, hW, hM, _⟩ := h
  have nb : ∀ {A : Option Addr} {n c : Nat} {L : List Int}, w'.ownsRow t 2 1 (.slice A n c) n (L.map encI) → ∀ r, A = some r → t ≤ r.block := fun {A n c L} hO r e => by
    rcases hO.2 with ⟨e1, _⟩ | ⟨g', cap', cur, hv, hg', _⟩
    · rw [e] at e1; cases e1
    · injection hv with e2; rw [e] at e2; injection e2 with e2; rw [e2]; exact hg'
  refine ⟨p, n, cp, q, m, cq, he, ?_, ?_, below_put4 cc hg x y z u, fun r e => ?_, fun r e => ?_⟩
  · exact ir_keep17 (IR.of_own hW) (fun r _ e => put4_far (by have := nb hW r e; omega)) (by unfold put4; simp)
  · exact ir_keep17 (IR.of_own hM) (fun r _ e => put4_far (by have := nb hM r e; omega)) (by unfold put4; simp)
  · have := nb hW r e; omega
  · have := nb hM r e; omega
end Go.Proofs.Ytckdbcngnghhiaa

/-
  The seventeenth reference: Step, where Mom and the rows' shape may be.
-/
namespace Go.Proofs.Ytckdbcngnghhiaa
open Go.RowKit
set_option linter.unusedVariables false
set_option linter.unusedSimpArgs false

/-- What a step of rows tells: a code, new weights, new velocities. -/
def stC17 (lr mu wd f : Int) (ne : Bool) (LW LM LG : List Int) : Int := if OkM17 lr mu wd f then if LM.length = LW.length ∧ LG.length = LW.length then if rowOK lr mu wd ne f.toNat LW LM LG = true then 0 else 2 else 5 else 1
def stRW17 (lr mu wd f : Int) (ne : Bool) (LW LM LG : List Int) : List Int := if stC17 lr mu wd f ne LW LM LG = 0 then rowW lr mu wd ne f.toNat LW LM LG else []
def stRV17 (lr mu wd f : Int) (ne : Bool) (LW LM LG : List Int) : List Int := if stC17 lr mu wd f ne LW LM LG = 0 then rowV mu wd f.toNat LW LM LG else []
theorem gotS17_nil {w : World} {k : Int} {e : Ending} {w' : World} (h : GotV w (.tuple #[.agg #[.slice none 0 0, .slice none 0 0, .slice none 0 0, .slice none 0 0], .int .i64 k]) e w') : GotS17 w [] [] k e w' :=
  ⟨none, 0, 0, none, 0, 0, h.1, IR.nil _ _ _, IR.nil _ _ _, h.2, fun _ e => (by cases e), fun _ e => (by cases e)⟩
end Go.Proofs.Ytckdbcngnghhiaa

/-
  The landed mom: Step where there is none; the rows that it makes.
-/
namespace Go.Proofs.Ytckdbcngnghhiaa
set_option maxRecDepth 100000
set_option maxHeartbeats 8000000
open Go.RowKit
set_option linter.unusedVariables false
set_option linter.unusedSimpArgs false

theorem kStep_k {w : World} {lr mu wd f : Int} {ne : Bool} {Aw : Option Addr} {nw cw : Nat} {Am : Option Addr} {nm cm : Nat} {Av : Option Addr} {nv cv : Nat} {Ag : Option Addr} {ng cg : Nat} (hK : ¬ OkM17 lr mu wd f) :
    Calls Try.prog 10 #[.agg #[.int .i64 lr, .int .i64 mu, .int .i64 wd, .bool ne], .int .i64 f, .agg #[.slice Aw nw cw, .slice Am nm cm, .slice Av nv cv, .slice Ag ng cg]] w (GotV w (.tuple #[.agg #[.slice none 0 0, .slice none 0 0, .slice none 0 0, .slice none 0 0], .int .i64 1])) := by
  have CR : ∀ W : World, Calls Try.prog 12 #[.agg #[.int .i64 lr, .int .i64 mu, .int .i64 wd, .bool ne], .int .i64 f] W (GotV W (.bool false)) := fun W => by have h := kRight_N (w := W) (lr := lr) (mu := mu) (wd := wd) (f := f) (ne := ne); rw [decide_eq_false hK] at h; exact h
  clear hK
  have cc := Below.refl w.heap.size w
  go_enter Try.func10, Try.ntmps10
  go_upto_region 1 with fail
  generalize hv_ : ((w.alloc (.cells #[.int .i64 lr, .int .i64 mu, .int .i64 wd, .bool ne] 23)).alloc (.cells #[.slice Aw nw cw, .slice Am nm cm, .slice Av nv cv, .slice Ag ng cg] 26)).alloc (.cells #[.slice none 0 0, .slice none 0 0, .slice none 0 0, .slice none 0 0] 26) = v1
  have f0 : v1.frozen? ⟨w.heap.size + 1 + 1, 0, none⟩ = false := by simp [← hv_, go_sem]
  have f1 : v1.frozen? ⟨w.heap.size + 1 + 1, 1, none⟩ = false := by simp [← hv_, go_sem]
  have f2 : v1.frozen? ⟨w.heap.size + 1 + 1, 2, none⟩ = false := by simp [← hv_, go_sem]
  have f3 : v1.frozen? ⟨w.heap.size + 1 + 1, 3, none⟩ = false := by simp [← hv_, go_sem]
  have bA : Below w.heap.size w v1 := by rw [← hv_]; exact ((((Below.refl _ w).alloc (by simp) _).alloc (by simp) _).alloc (by simp <;> omega) _)
  replace cc := bK cc bA
  clear bA
  have pa0 : v1.cell? ⟨w.heap.size, 0, none⟩ = some (.int .i64 lr) := by simp [← hv_, go_sem]
  have pa1 : v1.cell? ⟨w.heap.size, 1, none⟩ = some (.int .i64 mu) := by simp [← hv_, go_sem]
  have pa2 : v1.cell? ⟨w.heap.size, 2, none⟩ = some (.int .i64 wd) := by simp [← hv_, go_sem]
  have pa3 : v1.cell? ⟨w.heap.size, 3, none⟩ = some (.bool ne) := by simp [← hv_, go_sem]
  have pal : w.heap.size < v1.heap.size := by simp [← hv_] <;> omega
  have xa0 : v1.cell? ⟨w.heap.size + 1, 0, none⟩ = some (.slice Aw nw cw) := by simp [← hv_, go_sem]
  have xa1 : v1.cell? ⟨w.heap.size + 1, 1, none⟩ = some (.slice Am nm cm) := by simp [← hv_, go_sem]
  have xa2 : v1.cell? ⟨w.heap.size + 1, 2, none⟩ = some (.slice Av nv cv) := by simp [← hv_, go_sem]
  have xa3 : v1.cell? ⟨w.heap.size + 1, 3, none⟩ = some (.slice Ag ng cg) := by simp [← hv_, go_sem]
  have xal : w.heap.size + 1 < v1.heap.size := by simp [← hv_] <;> omega
  have g0 : v1.cell? ⟨w.heap.size + 1 + 1, 0, none⟩ = some (.slice none 0 0) := by simp [← hv_, go_sem]
  have g1 : v1.cell? ⟨w.heap.size + 1 + 1, 1, none⟩ = some (.slice none 0 0) := by simp [← hv_, go_sem]
  have g2 : v1.cell? ⟨w.heap.size + 1 + 1, 2, none⟩ = some (.slice none 0 0) := by simp [← hv_, go_sem]
  have g3 : v1.cell? ⟨w.heap.size + 1 + 1, 3, none⟩ = some (.slice none 0 0) := by simp [← hv_, go_sem]
  have gl : w.heap.size + 1 + 1 < v1.heap.size := by simp [← hv_] <;> omega
  clear hv_
  go_wp2_with fail
  refine (CR _).mono ?_
  rintro e w2 ⟨rfl, b⟩
  rewrite [fR b gl] at f0 f1 f2 f3
  rewrite [cR b pal] at pa0 pa1 pa2 pa3
  replace pal := lK b pal
  rewrite [cR b xal] at xa0 xa1 xa2 xa3
  replace xal := lK b xal
  rewrite [cR b gl] at g0 g1 g2 g3
  replace gl := lK b gl
  replace cc := bK cc b
  clear b
  have HBF := Lib.hid (below_put4 cc (show w.heap.size ≤ w.heap.size + 1 + 1 by omega) (.slice none 0 0) (.slice none 0 0) (.slice none 0 0) (.slice none 0 0))
  clear cc
  go_wp2_with fail
  refine bodyPost_ret (v := .tuple #[.agg #[.slice none 0 0, .slice none 0 0, .slice none 0 0, .slice none 0 0], .int .i64 1]) (by simp [results, Try.results10, go_sem, g0, g1, g2, g3]) rfl ⟨rfl, HBF.out⟩

theorem kStep_m {w : World} {lr mu wd f : Int} {ne : Bool} {Aw : Option Addr} {nw cw : Nat} {Am : Option Addr} {nm cm : Nat} {Av : Option Addr} {nv cv : Nat} {Ag : Option Addr} {ng cg : Nat} (hK : OkM17 lr mu wd f) (q : nm ≠ nw) :
    Calls Try.prog 10 #[.agg #[.int .i64 lr, .int .i64 mu, .int .i64 wd, .bool ne], .int .i64 f, .agg #[.slice Aw nw cw, .slice Am nm cm, .slice Av nv cv, .slice Ag ng cg]] w (GotV w (.tuple #[.agg #[.slice none 0 0, .slice none 0 0, .slice none 0 0, .slice none 0 0], .int .i64 5])) := by
  have CR : ∀ W : World, Calls Try.prog 12 #[.agg #[.int .i64 lr, .int .i64 mu, .int .i64 wd, .bool ne], .int .i64 f] W (GotV W (.bool true)) := fun W => by have h := kRight_N (w := W) (lr := lr) (mu := mu) (wd := wd) (f := f) (ne := ne); rw [decide_eq_true hK] at h; exact h
  clear hK
  have t0 : ((nm : Int) == (nw : Int)) = false := beq_eq_false_iff_ne.2 (by omega)
  have t1 : ((nm : Int) != (nw : Int)) = true := by simp; omega
  have t2 : (nm == nw) = false := beq_eq_false_iff_ne.2 q
  have t3 : (nm != nw) = true := by simp; omega
  clear q
  have cc := Below.refl w.heap.size w
  go_enter Try.func10, Try.ntmps10
  go_upto_region 1 with fail
  generalize hv_ : ((w.alloc (.cells #[.int .i64 lr, .int .i64 mu, .int .i64 wd, .bool ne] 23)).alloc (.cells #[.slice Aw nw cw, .slice Am nm cm, .slice Av nv cv, .slice Ag ng cg] 26)).alloc (.cells #[.slice none 0 0, .slice none 0 0, .slice none 0 0, .slice none 0 0] 26) = v1
  have f0 : v1.frozen? ⟨w.heap.size + 1 + 1, 0, none⟩ = false := by simp [← hv_, go_sem]
  have f1 : v1.frozen? ⟨w.heap.size + 1 + 1, 1, none⟩ = false := by simp [← hv_, go_sem]
  have f2 : v1.frozen? ⟨w.heap.size + 1 + 1, 2, none⟩ = false := by simp [← hv_, go_sem]
  have f3 : v1.frozen? ⟨w.heap.size + 1 + 1, 3, none⟩ = false := by simp [← hv_, go_sem]
  have bA : Below w.heap.size w v1 := by rw [← hv_]; exact ((((Below.refl _ w).alloc (by simp) _).alloc (by simp) _).alloc (by simp <;> omega) _)
  replace cc := bK cc bA
  clear bA
  have pa0 : v1.cell? ⟨w.heap.size, 0, none⟩ = some (.int .i64 lr) := by simp [← hv_, go_sem]
  have pa1 : v1.cell? ⟨w.heap.size, 1, none⟩ = some (.int .i64 mu) := by simp [← hv_, go_sem]
  have pa2 : v1.cell? ⟨w.heap.size, 2, none⟩ = some (.int .i64 wd) := by simp [← hv_, go_sem]
  have pa3 : v1.cell? ⟨w.heap.size, 3, none⟩ = some (.bool ne) := by simp [← hv_, go_sem]
  have pal : w.heap.size < v1.heap.size := by simp [← hv_] <;> omega
  have xa0 : v1.cell? ⟨w.heap.size + 1, 0, none⟩ = some (.slice Aw nw cw) := by simp [← hv_, go_sem]
  have xa1 : v1.cell? ⟨w.heap.size + 1, 1, none⟩ = some (.slice Am nm cm) := by simp [← hv_, go_sem]
  have xa2 : v1.cell? ⟨w.heap.size + 1, 2, none⟩ = some (.slice Av nv cv) := by simp [← hv_, go_sem]
  have xa3 : v1.cell? ⟨w.heap.size + 1, 3, none⟩ = some (.slice Ag ng cg) := by simp [← hv_, go_sem]
  have xal : w.heap.size + 1 < v1.heap.size := by simp [← hv_] <;> omega
  have g0 : v1.cell? ⟨w.heap.size + 1 + 1, 0, none⟩ = some (.slice none 0 0) := by simp [← hv_, go_sem]
  have g1 : v1.cell? ⟨w.heap.size + 1 + 1, 1, none⟩ = some (.slice none 0 0) := by simp [← hv_, go_sem]
  have g2 : v1.cell? ⟨w.heap.size + 1 + 1, 2, none⟩ = some (.slice none 0 0) := by simp [← hv_, go_sem]
  have g3 : v1.cell? ⟨w.heap.size + 1 + 1, 3, none⟩ = some (.slice none 0 0) := by simp [← hv_, go_sem]
  have gl : w.heap.size + 1 + 1 < v1.heap.size := by simp [← hv_] <;> omega
  clear hv_
  go_wp2_with fail
  refine (CR _).mono ?_
  rintro e w2 ⟨rfl, b⟩
  rewrite [fR b gl] at f0 f1 f2 f3
  rewrite [cR b pal] at pa0 pa1 pa2 pa3
  replace pal := lK b pal
  rewrite [cR b xal] at xa0 xa1 xa2 xa3
  replace xal := lK b xal
  rewrite [cR b gl] at g0 g1 g2 g3
  replace gl := lK b gl
  replace cc := bK cc b
  clear b
  have HBF := Lib.hid (below_put4 cc (show w.heap.size ≤ w.heap.size + 1 + 1 by omega) (.slice none 0 0) (.slice none 0 0) (.slice none 0 0) (.slice none 0 0))
  clear cc
  go_wp2_with fail
  refine bodyPost_ret (v := .tuple #[.agg #[.slice none 0 0, .slice none 0 0, .slice none 0 0, .slice none 0 0], .int .i64 5]) (by simp [results, Try.results10, go_sem, g0, g1, g2, g3]) rfl ⟨rfl, HBF.out⟩

theorem kStep_g {w : World} {lr mu wd f : Int} {ne : Bool} {Aw : Option Addr} {nw cw : Nat} {Am : Option Addr} {nm cm : Nat} {Av : Option Addr} {nv cv : Nat} {Ag : Option Addr} {ng cg : Nat} (hK : OkM17 lr mu wd f) (q : nm = nw) (q2 : ng ≠ nw) :
    Calls Try.prog 10 #[.agg #[.int .i64 lr, .int .i64 mu, .int .i64 wd, .bool ne], .int .i64 f, .agg #[.slice Aw nw cw, .slice Am nm cm, .slice Av nv cv, .slice Ag ng cg]] w (GotV w (.tuple #[.agg #[.slice none 0 0, .slice none 0 0, .slice none 0 0, .slice none 0 0], .int .i64 5])) := by
  have CR : ∀ W : World, Calls Try.prog 12 #[.agg #[.int .i64 lr, .int .i64 mu, .int .i64 wd, .bool ne], .int .i64 f] W (GotV W (.bool true)) := fun W => by have h := kRight_N (w := W) (lr := lr) (mu := mu) (wd := wd) (f := f) (ne := ne); rw [decide_eq_true hK] at h; exact h
  clear hK
  subst q
  have t0 : ((ng : Int) == (nm : Int)) = false := beq_eq_false_iff_ne.2 (by omega)
  have t1 : ((ng : Int) != (nm : Int)) = true := by simp; omega
  have t2 : (ng == nm) = false := beq_eq_false_iff_ne.2 q2
  have t3 : (ng != nm) = true := by simp; omega
  clear q2
  have cc := Below.refl w.heap.size w
  go_enter Try.func10, Try.ntmps10
  go_upto_region 1 with fail
  generalize hv_ : ((w.alloc (.cells #[.int .i64 lr, .int .i64 mu, .int .i64 wd, .bool ne] 23)).alloc (.cells #[.slice Aw nm cw, .slice Am nm cm, .slice Av nv cv, .slice Ag ng cg] 26)).alloc (.cells #[.slice none 0 0, .slice none 0 0, .slice none 0 0, .slice none 0 0] 26) = v1
  have f0 : v1.frozen? ⟨w.heap.size + 1 + 1, 0, none⟩ = false := by simp [← hv_, go_sem]
  have f1 : v1.frozen? ⟨w.heap.size + 1 + 1, 1, none⟩ = false := by simp [← hv_, go_sem]
  have f2 : v1.frozen? ⟨w.heap.size + 1 + 1, 2, none⟩ = false := by simp [← hv_, go_sem]
  have f3 : v1.frozen? ⟨w.heap.size + 1 + 1, 3, none⟩ = false := by simp [← hv_, go_sem]
  have bA : Below w.heap.size w v1 := by rw [← hv_]; exact ((((Below.refl _ w).alloc (by simp) _).alloc (by simp) _).alloc (by simp <;> omega) _)
  replace cc := bK cc bA
  clear bA
  have pa0 : v1.cell? ⟨w.heap.size, 0, none⟩ = some (.int .i64 lr) := by simp [← hv_, go_sem]
  have pa1 : v1.cell? ⟨w.heap.size, 1, none⟩ = some (.int .i64 mu) := by simp [← hv_, go_sem]
  have pa2 : v1.cell? ⟨w.heap.size, 2, none⟩ = some (.int .i64 wd) := by simp [← hv_, go_sem]
  have pa3 : v1.cell? ⟨w.heap.size, 3, none⟩ = some (.bool ne) := by simp [← hv_, go_sem]
  have pal : w.heap.size < v1.heap.size := by simp [← hv_] <;> omega
  have xa0 : v1.cell? ⟨w.heap.size + 1, 0, none⟩ = some (.slice Aw nm cw) := by simp [← hv_, go_sem]
  have xa1 : v1.cell? ⟨w.heap.size + 1, 1, none⟩ = some (.slice Am nm cm) := by simp [← hv_, go_sem]
  have xa2 : v1.cell? ⟨w.heap.size + 1, 2, none⟩ = some (.slice Av nv cv) := by simp [← hv_, go_sem]
  have xa3 : v1.cell? ⟨w.heap.size + 1, 3, none⟩ = some (.slice Ag ng cg) := by simp [← hv_, go_sem]
  have xal : w.heap.size + 1 < v1.heap.size := by simp [← hv_] <;> omega
  have g0 : v1.cell? ⟨w.heap.size + 1 + 1, 0, none⟩ = some (.slice none 0 0) := by simp [← hv_, go_sem]
  have g1 : v1.cell? ⟨w.heap.size + 1 + 1, 1, none⟩ = some (.slice none 0 0) := by simp [← hv_, go_sem]
  have g2 : v1.cell? ⟨w.heap.size + 1 + 1, 2, none⟩ = some (.slice none 0 0) := by simp [← hv_, go_sem]
  have g3 : v1.cell? ⟨w.heap.size + 1 + 1, 3, none⟩ = some (.slice none 0 0) := by simp [← hv_, go_sem]
  have gl : w.heap.size + 1 + 1 < v1.heap.size := by simp [← hv_] <;> omega
  clear hv_
  go_wp2_with fail
  refine (CR _).mono ?_
  rintro e w2 ⟨rfl, b⟩
  rewrite [fR b gl] at f0 f1 f2 f3
  rewrite [cR b pal] at pa0 pa1 pa2 pa3
  replace pal := lK b pal
  rewrite [cR b xal] at xa0 xa1 xa2 xa3
  replace xal := lK b xal
  rewrite [cR b gl] at g0 g1 g2 g3
  replace gl := lK b gl
  replace cc := bK cc b
  clear b
  have HBF := Lib.hid (below_put4 cc (show w.heap.size ≤ w.heap.size + 1 + 1 by omega) (.slice none 0 0) (.slice none 0 0) (.slice none 0 0) (.slice none 0 0))
  clear cc
  go_wp2_with fail
  refine bodyPost_ret (v := .tuple #[.agg #[.slice none 0 0, .slice none 0 0, .slice none 0 0, .slice none 0 0], .int .i64 5]) (by simp [results, Try.results10, go_sem, g0, g1, g2, g3]) rfl ⟨rfl, HBF.out⟩

def rg_kStepR6 : { o : Array Oper // regOf 6 Try.f10 = o } := ⟨_, by
  simp only [regOf, regIn, Try.f10, reduceIte, Nat.reduceEqDiff, Option.or, Option.getD, Nat.one_ne_zero, Nat.zero_ne_one]
  rfl⟩
theorem kStepR6 {V : World} {C : Nat} {Q : Exit → Act → World → Prop} {u0 u1 u2 u3 u4 u6 u7 u8 u9 u10 u11 u12 u13 u14 u15 u16 u17 u18 u19 u20 u21 u22 u23 u24 u25 u26 u27 u28 u29 u30 u31 u32 u33 u34 u35 u36 u37 u38 u39 u40 u41 u42 u43 u44 u45 u46 u47 u48 u49 u50 u51 u52 u53 u54 u55 u56 u57 u58 u59 u60 u61 u62 u63 u64 u65 u66 u67 u68 u69 u70 u71 u72 u73 u74 u75 u76 u77 u78 u79 u80 u81 u82 u83 u84 u85 u86 u87 u88 : Value} {br : Nat} {n cw cm nv cv cg : Nat} {Aw Am Av Ag : Option Addr} (hmk : ∀ W : World, (Instr.makeSlice 24 (.int .i64 (n : Int)) (.int .i64 (n : Int))).run Try.prog W = .ok (.slice (some ⟨W.heap.size, 0, none⟩) n n) (W.alloc (ziM n))) (hP : ∀ c (a : Act) (d : Option Tmp) (v : Value) (w : World), Q (.panic c) (a.put d v) w → Q (.panic c) a w) (hC : C ≤ V.heap.size) (zbr : V.heap[br]? = some (.cells #[.slice Aw n cw, .slice Am n cm, .slice Av nv cv, .slice Ag n cg] 26)) (hQ : ∀ (W : World) (gW gM go : Nat), Below C V W → W.heap[br]? = some (.cells #[.slice Aw n cw, .slice Am n cm, .slice Av nv cv, .slice Ag n cg] 26) → W.heap[gW]? = some (ziM n) → W.heap[gM]? = some (ziM n) → W.heap[go]? = some (.cells #[.slice (some ⟨gW, 0, none⟩) n n, .slice (some ⟨gM, 0, none⟩) n n, .slice none 0 0, .slice none 0 0] 26) → C ≤ gW → C ≤ gM → C ≤ go → br ≠ gW → br ≠ gM → gW ≠ gM → br ≠ go → gW ≠ go → gM ≠ go → Q .normal { tmps := #[u0, u1, u2, u3, u4, .pointer (some ⟨br, 0, none⟩), u6, u7, u8, .pointer (some ⟨go, 0, none⟩), u10, u11, u12, u13, u14, u15, u16, u17, u18, u19, u20, u21, u22, u23, u24, u25, u26, u27, u28, u29, u30, u31, u32, u33, u34, u35, u36, .pointer (some ⟨br, 0, none⟩), .slice Aw n cw, .int .i64 (n : Int), .slice (some ⟨gW, 0, none⟩) n n, .pointer (some ⟨br, 0, none⟩), .slice Aw n cw, .int .i64 (n : Int), .slice (some ⟨gM, 0, none⟩) n n, .agg #[.slice (some ⟨gW, 0, none⟩) n n, .slice (some ⟨gM, 0, none⟩) n n, .slice none 0 0, .slice none 0 0], u46, u47, u48, u49, u50, u51, u52, u53, u54, u55, u56, u57, u58, u59, u60, u61, u62, u63, u64, u65, u66, u67, u68, u69, u70, u71, u72, u73, u74, u75, u76, u77, u78, u79, u80, u81, u82, u83, u84, u85, u86, u87, u88], defers := [] } W) :
    (Code.region 6 rg_kStepR6.1 true).wp Try.prog Q { tmps := #[u0, u1, u2, u3, u4, .pointer (some ⟨br, 0, none⟩), u6, u7, u8, u9, u10, u11, u12, u13, u14, u15, u16, u17, u18, u19, u20, u21, u22, u23, u24, u25, u26, u27, u28, u29, u30, u31, u32, u33, u34, u35, u36, u37, u38, u39, u40, u41, u42, u43, u44, u45, u46, u47, u48, u49, u50, u51, u52, u53, u54, u55, u56, u57, u58, u59, u60, u61, u62, u63, u64, u65, u66, u67, u68, u69, u70, u71, u72, u73, u74, u75, u76, u77, u78, u79, u80, u81, u82, u83, u84, u85, u86, u87, u88], defers := [] } V := by
  have HS : ∀ W : World, Below C V W → W.heap[br]? = some (.cells #[.slice Aw n cw, .slice Am n cm, .slice Av nv cv, .slice Ag n cg] 26) → (fun w' : World => w'.cell? ⟨br, 0, none⟩ = some (.slice Aw n cw)) W := fun W yb ybr => cell_of_row W br 0 #[.slice Aw n cw, .slice Am n cm, .slice Av nv cv, .slice Ag n cg] 26 _ ybr
  have s_1111 : ∀ (W : World) (gW gM go : Nat), Below C V W → W.heap[br]? = some (.cells #[.slice Aw n cw, .slice Am n cm, .slice Av nv cv, .slice Ag n cg] 26) → W.heap[gW]? = some (ziM n) → W.heap[gM]? = some (ziM n) → W.heap[go]? = some (.cells #[.slice (some ⟨gW, 0, none⟩) n n, .slice (some ⟨gM, 0, none⟩) n n, .slice none 0 0, .slice none 0 0] 26) → C ≤ gW → C ≤ gM → C ≤ go → br ≠ gW → br ≠ gM → gW ≠ gM → br ≠ go → gW ≠ go → gM ≠ go → wpAnyH Try.prog .any rg_kStepR6.1 Q (fun w' => w'.cell? ⟨br, 0, none⟩ = some (.slice Aw n cw)) 0 #[true, true, true, true, true, true, true, true, true, true, true] { tmps := #[u0, u1, u2, u3, u4, .pointer (some ⟨br, 0, none⟩), u6, u7, u8, .pointer (some ⟨go, 0, none⟩), u10, u11, u12, u13, u14, u15, u16, u17, u18, u19, u20, u21, u22, u23, u24, u25, u26, u27, u28, u29, u30, u31, u32, u33, u34, u35, u36, .pointer (some ⟨br, 0, none⟩), .slice Aw n cw, .int .i64 (n : Int), .slice (some ⟨gW, 0, none⟩) n n, .pointer (some ⟨br, 0, none⟩), .slice Aw n cw, .int .i64 (n : Int), .slice (some ⟨gM, 0, none⟩) n n, .agg #[.slice (some ⟨gW, 0, none⟩) n n, .slice (some ⟨gM, 0, none⟩) n n, .slice none 0 0, .slice none 0 0], u46, u47, u48, u49, u50, u51, u52, u53, u54, u55, u56, u57, u58, u59, u60, u61, u62, u63, u64, u65, u66, u67, u68, u69, u70, u71, u72, u73, u74, u75, u76, u77, u78, u79, u80, u81, u82, u83, u84, u85, u86, u87, u88], defers := [] } W := by
    intro W gW gM go hb zbr zgW zgM zgo mgW mgM mgo dbr_gW dbr_gM dgW_gM dbr_go dgW_go dgM_go
    dsimp only [rg_kStepR6]
    exact wpAnyH_done (by kernel_rfl) (hQ W gW gM go hb zbr zgW zgM zgo mgW mgM mgo dbr_gW dbr_gM dgW_gM dbr_go dgW_go dgM_go) _
  have s_1110 : ∀ (W : World) (gW gM go : Nat), Below C V W → W.heap[br]? = some (.cells #[.slice Aw n cw, .slice Am n cm, .slice Av nv cv, .slice Ag n cg] 26) → W.heap[gW]? = some (ziM n) → W.heap[gM]? = some (ziM n) → W.heap[go]? = some (.cells #[.slice none 0 0, .slice none 0 0, .slice none 0 0, .slice none 0 0] 26) → C ≤ gW → C ≤ gM → C ≤ go → br ≠ gW → br ≠ gM → gW ≠ gM → br ≠ go → gW ≠ go → gM ≠ go → wpAnyH Try.prog .any rg_kStepR6.1 Q (fun w' => w'.cell? ⟨br, 0, none⟩ = some (.slice Aw n cw)) 1 #[true, true, true, true, true, true, true, true, true, true, false] { tmps := #[u0, u1, u2, u3, u4, .pointer (some ⟨br, 0, none⟩), u6, u7, u8, .pointer (some ⟨go, 0, none⟩), u10, u11, u12, u13, u14, u15, u16, u17, u18, u19, u20, u21, u22, u23, u24, u25, u26, u27, u28, u29, u30, u31, u32, u33, u34, u35, u36, .pointer (some ⟨br, 0, none⟩), .slice Aw n cw, .int .i64 (n : Int), .slice (some ⟨gW, 0, none⟩) n n, .pointer (some ⟨br, 0, none⟩), .slice Aw n cw, .int .i64 (n : Int), .slice (some ⟨gM, 0, none⟩) n n, .agg #[.slice (some ⟨gW, 0, none⟩) n n, .slice (some ⟨gM, 0, none⟩) n n, .slice none 0 0, .slice none 0 0], u46, u47, u48, u49, u50, u51, u52, u53, u54, u55, u56, u57, u58, u59, u60, u61, u62, u63, u64, u65, u66, u67, u68, u69, u70, u71, u72, u73, u74, u75, u76, u77, u78, u79, u80, u81, u82, u83, u84, u85, u86, u87, u88], defers := [] } W := by
    intro W gW gM go hb zbr zgW zgM zgo mgW mgM mgo dbr_gW dbr_gM dgW_gM dbr_go dgW_go dgM_go
    dsimp only [rg_kStepR6]
    refine wpAnyH_ready (rs := [10]) (by kernel_rfl) (by simp) ?_
    refine AllReadyH.cons rfl (fun K hK => ?_) (AllReadyH.nil)
    · (try simp only [pT])
      rw [if_pos (by rfl)]
      have c0 : W.cell? ⟨go, 0, none⟩ = some (.slice none 0 0) := cell_of_row W go 0 #[.slice none 0 0, .slice none 0 0, .slice none 0 0, .slice none 0 0] 26 _ zgo
      have f0 : W.frozen? ⟨go, 0, none⟩ = false := by simp [World.frozen?, zgo]
      have c1 : W.cell? ⟨go, 1, none⟩ = some (.slice none 0 0) := cell_of_row W go 1 #[.slice none 0 0, .slice none 0 0, .slice none 0 0, .slice none 0 0] 26 _ zgo
      have f1 : W.frozen? ⟨go, 1, none⟩ = false := by simp [World.frozen?, zgo]
      have c2 : W.cell? ⟨go, 2, none⟩ = some (.slice none 0 0) := cell_of_row W go 2 #[.slice none 0 0, .slice none 0 0, .slice none 0 0, .slice none 0 0] 26 _ zgo
      have f2 : W.frozen? ⟨go, 2, none⟩ = false := by simp [World.frozen?, zgo]
      have c3 : W.cell? ⟨go, 3, none⟩ = some (.slice none 0 0) := cell_of_row W go 3 #[.slice none 0 0, .slice none 0 0, .slice none 0 0, .slice none 0 0] 26 _ zgo
      have f3 : W.frozen? ⟨go, 3, none⟩ = false := by simp [World.frozen?, zgo]
      go_simp
      refine hK.out _ _ (HS _ ((((hb.setCell (p := ⟨go, 0, none⟩) mgo _).setCell (p := ⟨go, 1, none⟩) mgo _).setCell (p := ⟨go, 2, none⟩) mgo _).setCell (p := ⟨go, 3, none⟩) mgo _) (put_far4 zbr dbr_go)) (fun hHeld => ?_)
      exact s_1111 ((((W.setCell ⟨go, 0, none⟩ (.slice (some ⟨gW, 0, none⟩) n n)).setCell ⟨go, 1, none⟩ (.slice (some ⟨gM, 0, none⟩) n n)).setCell ⟨go, 2, none⟩ (.slice none 0 0)).setCell ⟨go, 3, none⟩ (.slice none 0 0)) gW gM go ((((hb.setCell (p := ⟨go, 0, none⟩) mgo _).setCell (p := ⟨go, 1, none⟩) mgo _).setCell (p := ⟨go, 2, none⟩) mgo _).setCell (p := ⟨go, 3, none⟩) mgo _) (put_far4 zbr dbr_go) (put_far4 zgW dgW_go) (put_far4 zgM dgM_go) (put_cells4 zgo) mgW mgM mgo dbr_gW dbr_gM dgW_gM dbr_go dgW_go dgM_go
  have s_1100 : ∀ (W : World) (gW gM : Nat), Below C V W → W.heap[br]? = some (.cells #[.slice Aw n cw, .slice Am n cm, .slice Av nv cv, .slice Ag n cg] 26) → W.heap[gW]? = some (ziM n) → W.heap[gM]? = some (ziM n) → C ≤ gW → C ≤ gM → br ≠ gW → br ≠ gM → gW ≠ gM → wpAnyH Try.prog .any rg_kStepR6.1 Q (fun w' => w'.cell? ⟨br, 0, none⟩ = some (.slice Aw n cw)) 2 #[true, true, true, true, true, true, true, true, true, false, false] { tmps := #[u0, u1, u2, u3, u4, .pointer (some ⟨br, 0, none⟩), u6, u7, u8, u9, u10, u11, u12, u13, u14, u15, u16, u17, u18, u19, u20, u21, u22, u23, u24, u25, u26, u27, u28, u29, u30, u31, u32, u33, u34, u35, u36, .pointer (some ⟨br, 0, none⟩), .slice Aw n cw, .int .i64 (n : Int), .slice (some ⟨gW, 0, none⟩) n n, .pointer (some ⟨br, 0, none⟩), .slice Aw n cw, .int .i64 (n : Int), .slice (some ⟨gM, 0, none⟩) n n, .agg #[.slice (some ⟨gW, 0, none⟩) n n, .slice (some ⟨gM, 0, none⟩) n n, .slice none 0 0, .slice none 0 0], u46, u47, u48, u49, u50, u51, u52, u53, u54, u55, u56, u57, u58, u59, u60, u61, u62, u63, u64, u65, u66, u67, u68, u69, u70, u71, u72, u73, u74, u75, u76, u77, u78, u79, u80, u81, u82, u83, u84, u85, u86, u87, u88], defers := [] } W := by
    intro W gW gM hb zbr zgW zgM mgW mgM dbr_gW dbr_gM dgW_gM
    dsimp only [rg_kStepR6]
    refine wpAnyH_ready (rs := [9]) (by kernel_rfl) (by simp) ?_
    refine AllReadyH.cons rfl (fun K hK => ?_) (AllReadyH.nil)
    · (try simp only [pT])
      rw [if_pos (by rfl)]
      go_simp
      refine hK.out _ _ (HS _ (hb.alloc (Nat.le_trans hC hb.size) _) (((one_upD W _).block br (Array.getElem?_eq_some_iff.1 zbr).1).trans zbr)) (fun hHeld => ?_)
      exact s_1110 (W.alloc (.cells #[.slice none 0 0, .slice none 0 0, .slice none 0 0, .slice none 0 0] 26)) gW gM W.heap.size (hb.alloc (Nat.le_trans hC hb.size) _) (((one_upD W _).block br (Array.getElem?_eq_some_iff.1 zbr).1).trans zbr) (((one_upD W _).block gW (Array.getElem?_eq_some_iff.1 zgW).1).trans zgW) (((one_upD W _).block gM (Array.getElem?_eq_some_iff.1 zgM).1).trans zgM) (World.alloc_heap_new W _) mgW mgM (Nat.le_trans hC hb.size) dbr_gW dbr_gM dgW_gM (Nat.ne_of_lt (Array.getElem?_eq_some_iff.1 zbr).1) (Nat.ne_of_lt (Array.getElem?_eq_some_iff.1 zgW).1) (Nat.ne_of_lt (Array.getElem?_eq_some_iff.1 zgM).1)
  have s_0110 : ∀ (W : World) (gM go : Nat), Below C V W → W.heap[br]? = some (.cells #[.slice Aw n cw, .slice Am n cm, .slice Av nv cv, .slice Ag n cg] 26) → W.heap[gM]? = some (ziM n) → W.heap[go]? = some (.cells #[.slice none 0 0, .slice none 0 0, .slice none 0 0, .slice none 0 0] 26) → C ≤ gM → C ≤ go → br ≠ gM → br ≠ go → gM ≠ go → wpAnyH Try.prog .any rg_kStepR6.1 Q (fun w' => w'.cell? ⟨br, 0, none⟩ = some (.slice Aw n cw)) 3 #[true, true, true, false, true, true, true, true, false, true, false] { tmps := #[u0, u1, u2, u3, u4, .pointer (some ⟨br, 0, none⟩), u6, u7, u8, .pointer (some ⟨go, 0, none⟩), u10, u11, u12, u13, u14, u15, u16, u17, u18, u19, u20, u21, u22, u23, u24, u25, u26, u27, u28, u29, u30, u31, u32, u33, u34, u35, u36, .pointer (some ⟨br, 0, none⟩), .slice Aw n cw, .int .i64 (n : Int), u40, .pointer (some ⟨br, 0, none⟩), .slice Aw n cw, .int .i64 (n : Int), .slice (some ⟨gM, 0, none⟩) n n, u45, u46, u47, u48, u49, u50, u51, u52, u53, u54, u55, u56, u57, u58, u59, u60, u61, u62, u63, u64, u65, u66, u67, u68, u69, u70, u71, u72, u73, u74, u75, u76, u77, u78, u79, u80, u81, u82, u83, u84, u85, u86, u87, u88], defers := [] } W := by
    intro W gM go hb zbr zgM zgo mgM mgo dbr_gM dbr_go dgM_go
    dsimp only [rg_kStepR6]
    refine wpAnyH_ready (rs := [3]) (by kernel_rfl) (by simp) ?_
    refine AllReadyH.cons rfl (fun K hK => ?_) (AllReadyH.nil)
    · (try simp only [pT])
      rw [if_pos (by rfl)]
      go_simp
      refine hK.out _ _ (HS _ (hb.alloc (Nat.le_trans hC hb.size) _) (((one_upD W _).block br (Array.getElem?_eq_some_iff.1 zbr).1).trans zbr)) (fun hHeld => ?_)
      clear hK K
      try simp only [Act.put, pT]
      refine wpAnyH_take (i := 8) (v := ?_) rfl (by kernel_rfl) (by kernel_rfl) (by kernel_rfl) (fun _ _ _ h => hP _ _ _ _ _ h) (Or.inl ⟨by rfl, ?_⟩) hHeld ?_
      rotate_left
      · (intro w hSw; (try dsimp only at hSw); go_simp; (try with_reducible rfl))
      try simp only [Act.put, pT]
      exact s_1110 (W.alloc (ziM n)) W.heap.size gM go (hb.alloc (Nat.le_trans hC hb.size) _) (((one_upD W _).block br (Array.getElem?_eq_some_iff.1 zbr).1).trans zbr) (World.alloc_heap_new W _) (((one_upD W _).block gM (Array.getElem?_eq_some_iff.1 zgM).1).trans zgM) (((one_upD W _).block go (Array.getElem?_eq_some_iff.1 zgo).1).trans zgo) (Nat.le_trans hC hb.size) mgM mgo (Nat.ne_of_lt (Array.getElem?_eq_some_iff.1 zbr).1) dbr_gM (Nat.ne_of_gt (Array.getElem?_eq_some_iff.1 zgM).1) dbr_go (Nat.ne_of_gt (Array.getElem?_eq_some_iff.1 zgo).1) dgM_go
  have s_1010 : ∀ (W : World) (gW go : Nat), Below C V W → W.heap[br]? = some (.cells #[.slice Aw n cw, .slice Am n cm, .slice Av nv cv, .slice Ag n cg] 26) → W.heap[gW]? = some (ziM n) → W.heap[go]? = some (.cells #[.slice none 0 0, .slice none 0 0, .slice none 0 0, .slice none 0 0] 26) → C ≤ gW → C ≤ go → br ≠ gW → br ≠ go → gW ≠ go → wpAnyH Try.prog .any rg_kStepR6.1 Q (fun w' => w'.cell? ⟨br, 0, none⟩ = some (.slice Aw n cw)) 3 #[true, true, true, true, true, true, true, false, false, true, false] { tmps := #[u0, u1, u2, u3, u4, .pointer (some ⟨br, 0, none⟩), u6, u7, u8, .pointer (some ⟨go, 0, none⟩), u10, u11, u12, u13, u14, u15, u16, u17, u18, u19, u20, u21, u22, u23, u24, u25, u26, u27, u28, u29, u30, u31, u32, u33, u34, u35, u36, .pointer (some ⟨br, 0, none⟩), .slice Aw n cw, .int .i64 (n : Int), .slice (some ⟨gW, 0, none⟩) n n, .pointer (some ⟨br, 0, none⟩), .slice Aw n cw, .int .i64 (n : Int), u44, u45, u46, u47, u48, u49, u50, u51, u52, u53, u54, u55, u56, u57, u58, u59, u60, u61, u62, u63, u64, u65, u66, u67, u68, u69, u70, u71, u72, u73, u74, u75, u76, u77, u78, u79, u80, u81, u82, u83, u84, u85, u86, u87, u88], defers := [] } W := by
    intro W gW go hb zbr zgW zgo mgW mgo dbr_gW dbr_go dgW_go
    dsimp only [rg_kStepR6]
    refine wpAnyH_ready (rs := [7]) (by kernel_rfl) (by simp) ?_
    refine AllReadyH.cons rfl (fun K hK => ?_) (AllReadyH.nil)
    · (try simp only [pT])
      rw [if_pos (by rfl)]
      go_simp
      refine hK.out _ _ (HS _ (hb.alloc (Nat.le_trans hC hb.size) _) (((one_upD W _).block br (Array.getElem?_eq_some_iff.1 zbr).1).trans zbr)) (fun hHeld => ?_)
      clear hK K
      try simp only [Act.put, pT]
      refine wpAnyH_take (i := 8) (v := ?_) rfl (by kernel_rfl) (by kernel_rfl) (by kernel_rfl) (fun _ _ _ h => hP _ _ _ _ _ h) (Or.inl ⟨by rfl, ?_⟩) hHeld ?_
      rotate_left
      · (intro w hSw; (try dsimp only at hSw); go_simp; (try with_reducible rfl))
      try simp only [Act.put, pT]
      exact s_1110 (W.alloc (ziM n)) gW W.heap.size go (hb.alloc (Nat.le_trans hC hb.size) _) (((one_upD W _).block br (Array.getElem?_eq_some_iff.1 zbr).1).trans zbr) (((one_upD W _).block gW (Array.getElem?_eq_some_iff.1 zgW).1).trans zgW) (World.alloc_heap_new W _) (((one_upD W _).block go (Array.getElem?_eq_some_iff.1 zgo).1).trans zgo) mgW (Nat.le_trans hC hb.size) mgo dbr_gW (Nat.ne_of_lt (Array.getElem?_eq_some_iff.1 zbr).1) (Nat.ne_of_lt (Array.getElem?_eq_some_iff.1 zgW).1) dbr_go dgW_go (Nat.ne_of_gt (Array.getElem?_eq_some_iff.1 zgo).1)
  have s_0010 : ∀ (W : World) (go : Nat), Below C V W → W.heap[br]? = some (.cells #[.slice Aw n cw, .slice Am n cm, .slice Av nv cv, .slice Ag n cg] 26) → W.heap[go]? = some (.cells #[.slice none 0 0, .slice none 0 0, .slice none 0 0, .slice none 0 0] 26) → C ≤ go → br ≠ go → wpAnyH Try.prog .any rg_kStepR6.1 Q (fun w' => w'.cell? ⟨br, 0, none⟩ = some (.slice Aw n cw)) 4 #[true, true, true, false, true, true, true, false, false, true, false] { tmps := #[u0, u1, u2, u3, u4, .pointer (some ⟨br, 0, none⟩), u6, u7, u8, .pointer (some ⟨go, 0, none⟩), u10, u11, u12, u13, u14, u15, u16, u17, u18, u19, u20, u21, u22, u23, u24, u25, u26, u27, u28, u29, u30, u31, u32, u33, u34, u35, u36, .pointer (some ⟨br, 0, none⟩), .slice Aw n cw, .int .i64 (n : Int), u40, .pointer (some ⟨br, 0, none⟩), .slice Aw n cw, .int .i64 (n : Int), u44, u45, u46, u47, u48, u49, u50, u51, u52, u53, u54, u55, u56, u57, u58, u59, u60, u61, u62, u63, u64, u65, u66, u67, u68, u69, u70, u71, u72, u73, u74, u75, u76, u77, u78, u79, u80, u81, u82, u83, u84, u85, u86, u87, u88], defers := [] } W := by
    intro W go hb zbr zgo mgo dbr_go
    dsimp only [rg_kStepR6]
    refine wpAnyH_ready (rs := [3, 7]) (by kernel_rfl) (by simp) ?_
    refine AllReadyH.cons rfl (fun K hK => ?_) (AllReadyH.cons rfl (fun K hK => ?_) (AllReadyH.nil))
    · (try simp only [pT])
      rw [if_pos (by rfl)]
      go_simp
      refine hK.out _ _ (HS _ (hb.alloc (Nat.le_trans hC hb.size) _) (((one_upD W _).block br (Array.getElem?_eq_some_iff.1 zbr).1).trans zbr)) (fun hHeld => ?_)
      exact s_1010 (W.alloc (ziM n)) W.heap.size go (hb.alloc (Nat.le_trans hC hb.size) _) (((one_upD W _).block br (Array.getElem?_eq_some_iff.1 zbr).1).trans zbr) (World.alloc_heap_new W _) (((one_upD W _).block go (Array.getElem?_eq_some_iff.1 zgo).1).trans zgo) (Nat.le_trans hC hb.size) mgo (Nat.ne_of_lt (Array.getElem?_eq_some_iff.1 zbr).1) dbr_go (Nat.ne_of_gt (Array.getElem?_eq_some_iff.1 zgo).1)
    · (try simp only [pT])
      rw [if_pos (by rfl)]
      go_simp
      refine hK.out _ _ (HS _ (hb.alloc (Nat.le_trans hC hb.size) _) (((one_upD W _).block br (Array.getElem?_eq_some_iff.1 zbr).1).trans zbr)) (fun hHeld => ?_)
      exact s_0110 (W.alloc (ziM n)) W.heap.size go (hb.alloc (Nat.le_trans hC hb.size) _) (((one_upD W _).block br (Array.getElem?_eq_some_iff.1 zbr).1).trans zbr) (World.alloc_heap_new W _) (((one_upD W _).block go (Array.getElem?_eq_some_iff.1 zgo).1).trans zgo) (Nat.le_trans hC hb.size) mgo (Nat.ne_of_lt (Array.getElem?_eq_some_iff.1 zbr).1) dbr_go (Nat.ne_of_gt (Array.getElem?_eq_some_iff.1 zgo).1)
  have s_0100 : ∀ (W : World) (gM : Nat), Below C V W → W.heap[br]? = some (.cells #[.slice Aw n cw, .slice Am n cm, .slice Av nv cv, .slice Ag n cg] 26) → W.heap[gM]? = some (ziM n) → C ≤ gM → br ≠ gM → wpAnyH Try.prog .any rg_kStepR6.1 Q (fun w' => w'.cell? ⟨br, 0, none⟩ = some (.slice Aw n cw)) 4 #[true, true, true, false, true, true, true, true, false, false, false] { tmps := #[u0, u1, u2, u3, u4, .pointer (some ⟨br, 0, none⟩), u6, u7, u8, u9, u10, u11, u12, u13, u14, u15, u16, u17, u18, u19, u20, u21, u22, u23, u24, u25, u26, u27, u28, u29, u30, u31, u32, u33, u34, u35, u36, .pointer (some ⟨br, 0, none⟩), .slice Aw n cw, .int .i64 (n : Int), u40, .pointer (some ⟨br, 0, none⟩), .slice Aw n cw, .int .i64 (n : Int), .slice (some ⟨gM, 0, none⟩) n n, u45, u46, u47, u48, u49, u50, u51, u52, u53, u54, u55, u56, u57, u58, u59, u60, u61, u62, u63, u64, u65, u66, u67, u68, u69, u70, u71, u72, u73, u74, u75, u76, u77, u78, u79, u80, u81, u82, u83, u84, u85, u86, u87, u88], defers := [] } W := by
    intro W gM hb zbr zgM mgM dbr_gM
    dsimp only [rg_kStepR6]
    refine wpAnyH_ready (rs := [3, 9]) (by kernel_rfl) (by simp) ?_
    refine AllReadyH.cons rfl (fun K hK => ?_) (AllReadyH.cons rfl (fun K hK => ?_) (AllReadyH.nil))
    · (try simp only [pT])
      rw [if_pos (by rfl)]
      go_simp
      refine hK.out _ _ (HS _ (hb.alloc (Nat.le_trans hC hb.size) _) (((one_upD W _).block br (Array.getElem?_eq_some_iff.1 zbr).1).trans zbr)) (fun hHeld => ?_)
      clear hK K
      try simp only [Act.put, pT]
      refine wpAnyH_take (i := 8) (v := ?_) rfl (by kernel_rfl) (by kernel_rfl) (by kernel_rfl) (fun _ _ _ h => hP _ _ _ _ _ h) (Or.inl ⟨by rfl, ?_⟩) hHeld ?_
      rotate_left
      · (intro w hSw; (try dsimp only at hSw); go_simp; (try with_reducible rfl))
      try simp only [Act.put, pT]
      exact s_1100 (W.alloc (ziM n)) W.heap.size gM (hb.alloc (Nat.le_trans hC hb.size) _) (((one_upD W _).block br (Array.getElem?_eq_some_iff.1 zbr).1).trans zbr) (World.alloc_heap_new W _) (((one_upD W _).block gM (Array.getElem?_eq_some_iff.1 zgM).1).trans zgM) (Nat.le_trans hC hb.size) mgM (Nat.ne_of_lt (Array.getElem?_eq_some_iff.1 zbr).1) dbr_gM (Nat.ne_of_gt (Array.getElem?_eq_some_iff.1 zgM).1)
    · (try simp only [pT])
      rw [if_pos (by rfl)]
      go_simp
      refine hK.out _ _ (HS _ (hb.alloc (Nat.le_trans hC hb.size) _) (((one_upD W _).block br (Array.getElem?_eq_some_iff.1 zbr).1).trans zbr)) (fun hHeld => ?_)
      exact s_0110 (W.alloc (.cells #[.slice none 0 0, .slice none 0 0, .slice none 0 0, .slice none 0 0] 26)) gM W.heap.size (hb.alloc (Nat.le_trans hC hb.size) _) (((one_upD W _).block br (Array.getElem?_eq_some_iff.1 zbr).1).trans zbr) (((one_upD W _).block gM (Array.getElem?_eq_some_iff.1 zgM).1).trans zgM) (World.alloc_heap_new W _) mgM (Nat.le_trans hC hb.size) dbr_gM (Nat.ne_of_lt (Array.getElem?_eq_some_iff.1 zbr).1) (Nat.ne_of_lt (Array.getElem?_eq_some_iff.1 zgM).1)
  have s_1000 : ∀ (W : World) (gW : Nat), Below C V W → W.heap[br]? = some (.cells #[.slice Aw n cw, .slice Am n cm, .slice Av nv cv, .slice Ag n cg] 26) → W.heap[gW]? = some (ziM n) → C ≤ gW → br ≠ gW → wpAnyH Try.prog .any rg_kStepR6.1 Q (fun w' => w'.cell? ⟨br, 0, none⟩ = some (.slice Aw n cw)) 4 #[true, true, true, true, true, true, true, false, false, false, false] { tmps := #[u0, u1, u2, u3, u4, .pointer (some ⟨br, 0, none⟩), u6, u7, u8, u9, u10, u11, u12, u13, u14, u15, u16, u17, u18, u19, u20, u21, u22, u23, u24, u25, u26, u27, u28, u29, u30, u31, u32, u33, u34, u35, u36, .pointer (some ⟨br, 0, none⟩), .slice Aw n cw, .int .i64 (n : Int), .slice (some ⟨gW, 0, none⟩) n n, .pointer (some ⟨br, 0, none⟩), .slice Aw n cw, .int .i64 (n : Int), u44, u45, u46, u47, u48, u49, u50, u51, u52, u53, u54, u55, u56, u57, u58, u59, u60, u61, u62, u63, u64, u65, u66, u67, u68, u69, u70, u71, u72, u73, u74, u75, u76, u77, u78, u79, u80, u81, u82, u83, u84, u85, u86, u87, u88], defers := [] } W := by
    intro W gW hb zbr zgW mgW dbr_gW
    dsimp only [rg_kStepR6]
    refine wpAnyH_ready (rs := [7, 9]) (by kernel_rfl) (by simp) ?_
    refine AllReadyH.cons rfl (fun K hK => ?_) (AllReadyH.cons rfl (fun K hK => ?_) (AllReadyH.nil))
    · (try simp only [pT])
      rw [if_pos (by rfl)]
      go_simp
      refine hK.out _ _ (HS _ (hb.alloc (Nat.le_trans hC hb.size) _) (((one_upD W _).block br (Array.getElem?_eq_some_iff.1 zbr).1).trans zbr)) (fun hHeld => ?_)
      clear hK K
      try simp only [Act.put, pT]
      refine wpAnyH_take (i := 8) (v := ?_) rfl (by kernel_rfl) (by kernel_rfl) (by kernel_rfl) (fun _ _ _ h => hP _ _ _ _ _ h) (Or.inl ⟨by rfl, ?_⟩) hHeld ?_
      rotate_left
      · (intro w hSw; (try dsimp only at hSw); go_simp; (try with_reducible rfl))
      try simp only [Act.put, pT]
      exact s_1100 (W.alloc (ziM n)) gW W.heap.size (hb.alloc (Nat.le_trans hC hb.size) _) (((one_upD W _).block br (Array.getElem?_eq_some_iff.1 zbr).1).trans zbr) (((one_upD W _).block gW (Array.getElem?_eq_some_iff.1 zgW).1).trans zgW) (World.alloc_heap_new W _) mgW (Nat.le_trans hC hb.size) dbr_gW (Nat.ne_of_lt (Array.getElem?_eq_some_iff.1 zbr).1) (Nat.ne_of_lt (Array.getElem?_eq_some_iff.1 zgW).1)
    · (try simp only [pT])
      rw [if_pos (by rfl)]
      go_simp
      refine hK.out _ _ (HS _ (hb.alloc (Nat.le_trans hC hb.size) _) (((one_upD W _).block br (Array.getElem?_eq_some_iff.1 zbr).1).trans zbr)) (fun hHeld => ?_)
      exact s_1010 (W.alloc (.cells #[.slice none 0 0, .slice none 0 0, .slice none 0 0, .slice none 0 0] 26)) gW W.heap.size (hb.alloc (Nat.le_trans hC hb.size) _) (((one_upD W _).block br (Array.getElem?_eq_some_iff.1 zbr).1).trans zbr) (((one_upD W _).block gW (Array.getElem?_eq_some_iff.1 zgW).1).trans zgW) (World.alloc_heap_new W _) mgW (Nat.le_trans hC hb.size) dbr_gW (Nat.ne_of_lt (Array.getElem?_eq_some_iff.1 zbr).1) (Nat.ne_of_lt (Array.getElem?_eq_some_iff.1 zgW).1)
  have s_0000 : ∀ (W : World), Below C V W → W.heap[br]? = some (.cells #[.slice Aw n cw, .slice Am n cm, .slice Av nv cv, .slice Ag n cg] 26) → wpAnyH Try.prog .any rg_kStepR6.1 Q (fun w' => w'.cell? ⟨br, 0, none⟩ = some (.slice Aw n cw)) 5 #[true, true, true, false, true, true, true, false, false, false, false] { tmps := #[u0, u1, u2, u3, u4, .pointer (some ⟨br, 0, none⟩), u6, u7, u8, u9, u10, u11, u12, u13, u14, u15, u16, u17, u18, u19, u20, u21, u22, u23, u24, u25, u26, u27, u28, u29, u30, u31, u32, u33, u34, u35, u36, .pointer (some ⟨br, 0, none⟩), .slice Aw n cw, .int .i64 (n : Int), u40, .pointer (some ⟨br, 0, none⟩), .slice Aw n cw, .int .i64 (n : Int), u44, u45, u46, u47, u48, u49, u50, u51, u52, u53, u54, u55, u56, u57, u58, u59, u60, u61, u62, u63, u64, u65, u66, u67, u68, u69, u70, u71, u72, u73, u74, u75, u76, u77, u78, u79, u80, u81, u82, u83, u84, u85, u86, u87, u88], defers := [] } W := by
    intro W hb zbr
    dsimp only [rg_kStepR6]
    refine wpAnyH_ready (rs := [3, 7, 9]) (by kernel_rfl) (by simp) ?_
    refine AllReadyH.cons rfl (fun K hK => ?_) (AllReadyH.cons rfl (fun K hK => ?_) (AllReadyH.cons rfl (fun K hK => ?_) (AllReadyH.nil)))
    · (try simp only [pT])
      rw [if_pos (by rfl)]
      go_simp
      refine hK.out _ _ (HS _ (hb.alloc (Nat.le_trans hC hb.size) _) (((one_upD W _).block br (Array.getElem?_eq_some_iff.1 zbr).1).trans zbr)) (fun hHeld => ?_)
      exact s_1000 (W.alloc (ziM n)) W.heap.size (hb.alloc (Nat.le_trans hC hb.size) _) (((one_upD W _).block br (Array.getElem?_eq_some_iff.1 zbr).1).trans zbr) (World.alloc_heap_new W _) (Nat.le_trans hC hb.size) (Nat.ne_of_lt (Array.getElem?_eq_some_iff.1 zbr).1)
    · (try simp only [pT])
      rw [if_pos (by rfl)]
      go_simp
      refine hK.out _ _ (HS _ (hb.alloc (Nat.le_trans hC hb.size) _) (((one_upD W _).block br (Array.getElem?_eq_some_iff.1 zbr).1).trans zbr)) (fun hHeld => ?_)
      exact s_0100 (W.alloc (ziM n)) W.heap.size (hb.alloc (Nat.le_trans hC hb.size) _) (((one_upD W _).block br (Array.getElem?_eq_some_iff.1 zbr).1).trans zbr) (World.alloc_heap_new W _) (Nat.le_trans hC hb.size) (Nat.ne_of_lt (Array.getElem?_eq_some_iff.1 zbr).1)
    · (try simp only [pT])
      rw [if_pos (by rfl)]
      go_simp
      refine hK.out _ _ (HS _ (hb.alloc (Nat.le_trans hC hb.size) _) (((one_upD W _).block br (Array.getElem?_eq_some_iff.1 zbr).1).trans zbr)) (fun hHeld => ?_)
      exact s_0010 (W.alloc (.cells #[.slice none 0 0, .slice none 0 0, .slice none 0 0, .slice none 0 0] 26)) W.heap.size (hb.alloc (Nat.le_trans hC hb.size) _) (((one_upD W _).block br (Array.getElem?_eq_some_iff.1 zbr).1).trans zbr) (World.alloc_heap_new W _) (Nat.le_trans hC hb.size) (Nat.ne_of_lt (Array.getElem?_eq_some_iff.1 zbr).1)
  refine wp_region_n (S := fun w' => w'.cell? ⟨br, 0, none⟩ = some (.slice Aw n cw)) (n := 11) (by kernel_rfl) (by kernel_rfl) (HS _ (below_drewN (Below.refl C V) 1) zbr) (fun hHeld => ?_)
  dsimp only [rg_kStepR6]
  refine wpAnyH_take (i := 0) (v := ?_) rfl (by kernel_rfl) (by kernel_rfl) (by kernel_rfl) (fun _ _ _ h => hP _ _ _ _ _ h) (Or.inl ⟨by rfl, ?_⟩) hHeld ?_
  rotate_left
  · (intro w hSw; (try dsimp only at hSw); go_simp; (try with_reducible rfl))
  try simp only [Act.put, pT]
  refine wpAnyH_take (i := 1) (v := ?_) rfl (by kernel_rfl) (by kernel_rfl) (by kernel_rfl) (fun _ _ _ h => hP _ _ _ _ _ h) (Or.inl ⟨by rfl, ?_⟩) hHeld ?_
  rotate_left
  · (intro w hSw; (try dsimp only at hSw); go_simp; (try with_reducible rfl))
  try simp only [Act.put, pT]
  refine wpAnyH_take (i := 2) (v := ?_) rfl (by kernel_rfl) (by kernel_rfl) (by kernel_rfl) (fun _ _ _ h => hP _ _ _ _ _ h) (Or.inl ⟨by rfl, ?_⟩) hHeld ?_
  rotate_left
  · (intro w hSw; (try dsimp only at hSw); go_simp; (try with_reducible rfl))
  try simp only [Act.put, pT]
  refine wpAnyH_take (i := 4) (v := ?_) rfl (by kernel_rfl) (by kernel_rfl) (by kernel_rfl) (fun _ _ _ h => hP _ _ _ _ _ h) (Or.inl ⟨by rfl, ?_⟩) hHeld ?_
  rotate_left
  · (intro w hSw; (try dsimp only at hSw); go_simp; (try with_reducible rfl))
  try simp only [Act.put, pT]
  refine wpAnyH_take (i := 5) (v := ?_) rfl (by kernel_rfl) (by kernel_rfl) (by kernel_rfl) (fun _ _ _ h => hP _ _ _ _ _ h) (Or.inl ⟨by rfl, ?_⟩) hHeld ?_
  rotate_left
  · (intro w hSw; (try dsimp only at hSw); go_simp; (try with_reducible rfl))
  try simp only [Act.put, pT]
  refine wpAnyH_take (i := 6) (v := ?_) rfl (by kernel_rfl) (by kernel_rfl) (by kernel_rfl) (fun _ _ _ h => hP _ _ _ _ _ h) (Or.inl ⟨by rfl, ?_⟩) hHeld ?_
  rotate_left
  · (intro w hSw; (try dsimp only at hSw); go_simp; (try with_reducible rfl))
  try simp only [Act.put, pT]
  exact s_0000 _ (below_drewN (Below.refl C V) 1) zbr

end Go.Proofs.Ytckdbcngnghhiaa
