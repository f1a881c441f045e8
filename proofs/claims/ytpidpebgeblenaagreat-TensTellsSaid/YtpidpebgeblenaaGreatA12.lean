/-
  Several texts in one: D11, JE, C14a, C14b, C14d.
-/
import Derived.Test.YtpidpebgeblenaaGreatA7
import Derived.Test.YtpidpebgeblenaaGreatA3
import Derived.Test.YtpidpebgeblenaaGreatA11
import Derived.Test.YtpidpebgeblenaaGreatA8

/-
  The contracts of the eleventh reference: Same.
-/
namespace Go.Proofs.YtpidpebgeblenaaGreat
set_option maxRecDepth 100000
set_option maxHeartbeats 8000000
open Go.RowKit
set_option linter.unusedVariables false
set_option linter.unusedSimpArgs false

theorem rSame_k {w : World} {ka sa : Int} {Aa Ba : Option Addr} {na ca ma da : Nat} {kb sb : Int} {Ab Bb : Option Addr} {nb cb mb db : Nat} (h : ka ≠ kb) :
    Calls Tryz.prog 31 #[.agg #[.int .i64 ka, .int .i64 sa, .slice Aa na ca, .slice Ba ma da], .agg #[.int .i64 kb, .int .i64 sb, .slice Ab nb cb, .slice Bb mb db]] w (GotV w (.bool false)) := by
  have t1 : (ka == kb) = false := beq_eq_false_iff_ne.2 h
  have t2 : (ka != kb) = true := by simp; exact h
  clear h
  have cc := Below.refl w.heap.size w
  go_enter Tryz.func31, Tryz.ntmps31
  go_wp2_with fail
  generalize hv_ : (w.alloc (.cells #[.int .i64 ka, .int .i64 sa, .slice Aa na ca, .slice Ba ma da] 43)).alloc (.cells #[.int .i64 kb, .int .i64 sb, .slice Ab nb cb, .slice Bb mb db] 43) = v1
  have bA : Below w.heap.size w v1 := by rw [← hv_]; exact (((Below.refl _ w).alloc (by simp) _).alloc (by simp) _)
  replace cc := bK cc bA
  clear bA
  have xa0 : v1.cell? ⟨w.heap.size, 0, none⟩ = some (.int .i64 ka) := by simp [← hv_, go_sem]
  have xa1 : v1.cell? ⟨w.heap.size, 1, none⟩ = some (.int .i64 sa) := by simp [← hv_, go_sem]
  have xa2 : v1.cell? ⟨w.heap.size, 2, none⟩ = some (.slice Aa na ca) := by simp [← hv_, go_sem]
  have xa3 : v1.cell? ⟨w.heap.size, 3, none⟩ = some (.slice Ba ma da) := by simp [← hv_, go_sem]
  have xal : w.heap.size < v1.heap.size := by simp [← hv_] <;> omega
  have xb0 : v1.cell? ⟨w.heap.size + 1, 0, none⟩ = some (.int .i64 kb) := by simp [← hv_, go_sem]
  have xb1 : v1.cell? ⟨w.heap.size + 1, 1, none⟩ = some (.int .i64 sb) := by simp [← hv_, go_sem]
  have xb2 : v1.cell? ⟨w.heap.size + 1, 2, none⟩ = some (.slice Ab nb cb) := by simp [← hv_, go_sem]
  have xb3 : v1.cell? ⟨w.heap.size + 1, 3, none⟩ = some (.slice Bb mb db) := by simp [← hv_, go_sem]
  have xbl : w.heap.size + 1 < v1.heap.size := by simp [← hv_] <;> omega
  clear hv_
  go_wp2_with fail
  go_ret
  exact ⟨rfl, cc⟩

theorem rSame_s {w : World} {ka sa : Int} {Aa Ba : Option Addr} {na ca ma da : Nat} {kb sb : Int} {Ab Bb : Option Addr} {nb cb mb db : Nat} (hk : ka = kb) (h : sa ≠ sb) :
    Calls Tryz.prog 31 #[.agg #[.int .i64 ka, .int .i64 sa, .slice Aa na ca, .slice Ba ma da], .agg #[.int .i64 kb, .int .i64 sb, .slice Ab nb cb, .slice Bb mb db]] w (GotV w (.bool false)) := by
  subst hk
  have t1 : (sa == sb) = false := beq_eq_false_iff_ne.2 h
  have t2 : (sa != sb) = true := by simp; exact h
  clear h
  have cc := Below.refl w.heap.size w
  go_enter Tryz.func31, Tryz.ntmps31
  go_wp2_with fail
  generalize hv_ : (w.alloc (.cells #[.int .i64 ka, .int .i64 sa, .slice Aa na ca, .slice Ba ma da] 43)).alloc (.cells #[.int .i64 ka, .int .i64 sb, .slice Ab nb cb, .slice Bb mb db] 43) = v1
  have bA : Below w.heap.size w v1 := by rw [← hv_]; exact (((Below.refl _ w).alloc (by simp) _).alloc (by simp) _)
  replace cc := bK cc bA
  clear bA
  have xa0 : v1.cell? ⟨w.heap.size, 0, none⟩ = some (.int .i64 ka) := by simp [← hv_, go_sem]
  have xa1 : v1.cell? ⟨w.heap.size, 1, none⟩ = some (.int .i64 sa) := by simp [← hv_, go_sem]
  have xa2 : v1.cell? ⟨w.heap.size, 2, none⟩ = some (.slice Aa na ca) := by simp [← hv_, go_sem]
  have xa3 : v1.cell? ⟨w.heap.size, 3, none⟩ = some (.slice Ba ma da) := by simp [← hv_, go_sem]
  have xal : w.heap.size < v1.heap.size := by simp [← hv_] <;> omega
  have xb0 : v1.cell? ⟨w.heap.size + 1, 0, none⟩ = some (.int .i64 ka) := by simp [← hv_, go_sem]
  have xb1 : v1.cell? ⟨w.heap.size + 1, 1, none⟩ = some (.int .i64 sb) := by simp [← hv_, go_sem]
  have xb2 : v1.cell? ⟨w.heap.size + 1, 2, none⟩ = some (.slice Ab nb cb) := by simp [← hv_, go_sem]
  have xb3 : v1.cell? ⟨w.heap.size + 1, 3, none⟩ = some (.slice Bb mb db) := by simp [← hv_, go_sem]
  have xbl : w.heap.size + 1 < v1.heap.size := by simp [← hv_] <;> omega
  clear hv_
  go_wp2_with fail
  go_ret
  exact ⟨rfl, cc⟩

theorem rSame_n {w : World} {ka sa : Int} {Aa Ba : Option Addr} {na ca ma da : Nat} {kb sb : Int} {Ab Bb : Option Addr} {nb cb mb db : Nat} (hk : ka = kb) (hs : sa = sb) (h : na ≠ nb) :
    Calls Tryz.prog 31 #[.agg #[.int .i64 ka, .int .i64 sa, .slice Aa na ca, .slice Ba ma da], .agg #[.int .i64 kb, .int .i64 sb, .slice Ab nb cb, .slice Bb mb db]] w (GotV w (.bool false)) := by
  subst hk
  subst hs
  have t1 : ((na : Int) == (nb : Int)) = false := beq_eq_false_iff_ne.2 (by omega)
  have t2 : ((na : Int) != (nb : Int)) = true := by simp; omega
  have t3 : (na == nb) = false := beq_eq_false_iff_ne.2 h
  have t4 : (na != nb) = true := by simp; exact h
  clear h
  have cc := Below.refl w.heap.size w
  go_enter Tryz.func31, Tryz.ntmps31
  go_wp2_with fail
  generalize hv_ : (w.alloc (.cells #[.int .i64 ka, .int .i64 sa, .slice Aa na ca, .slice Ba ma da] 43)).alloc (.cells #[.int .i64 ka, .int .i64 sa, .slice Ab nb cb, .slice Bb mb db] 43) = v1
  have bA : Below w.heap.size w v1 := by rw [← hv_]; exact (((Below.refl _ w).alloc (by simp) _).alloc (by simp) _)
  replace cc := bK cc bA
  clear bA
  have xa0 : v1.cell? ⟨w.heap.size, 0, none⟩ = some (.int .i64 ka) := by simp [← hv_, go_sem]
  have xa1 : v1.cell? ⟨w.heap.size, 1, none⟩ = some (.int .i64 sa) := by simp [← hv_, go_sem]
  have xa2 : v1.cell? ⟨w.heap.size, 2, none⟩ = some (.slice Aa na ca) := by simp [← hv_, go_sem]
  have xa3 : v1.cell? ⟨w.heap.size, 3, none⟩ = some (.slice Ba ma da) := by simp [← hv_, go_sem]
  have xal : w.heap.size < v1.heap.size := by simp [← hv_] <;> omega
  have xb0 : v1.cell? ⟨w.heap.size + 1, 0, none⟩ = some (.int .i64 ka) := by simp [← hv_, go_sem]
  have xb1 : v1.cell? ⟨w.heap.size + 1, 1, none⟩ = some (.int .i64 sa) := by simp [← hv_, go_sem]
  have xb2 : v1.cell? ⟨w.heap.size + 1, 2, none⟩ = some (.slice Ab nb cb) := by simp [← hv_, go_sem]
  have xb3 : v1.cell? ⟨w.heap.size + 1, 3, none⟩ = some (.slice Bb mb db) := by simp [← hv_, go_sem]
  have xbl : w.heap.size + 1 < v1.heap.size := by simp [← hv_] <;> omega
  clear hv_
  go_wp2_with fail
  go_ret
  exact ⟨rfl, cc⟩

theorem rSame_eq {w : World} {ka sa : Int} {Aa Ba : Option Addr} {na ca ma da : Nat} {kb sb : Int} {Ab Bb : Option Addr} {nb cb mb db : Nat} (hk : ka = kb) (hs : sa = sb) (hn : na = nb) {Ca : List Nat} {Wa : List Int} (hCa : BR w Aa na ca Ca) (hWa : IR w Ba ma da Wa) (hna : na ≤ 9223372036854775807) (hma : ma ≤ 9223372036854775807) {Cb : List Nat} {Wb : List Int} (hCb : BR w Ab nb cb Cb) (hWb : IR w Bb mb db Wb) (hnb : nb ≤ 9223372036854775807) (hmb : mb ≤ 9223372036854775807) :
    Calls Tryz.prog 31 #[.agg #[.int .i64 ka, .int .i64 sa, .slice Aa na ca, .slice Ba ma da], .agg #[.int .i64 kb, .int .i64 sb, .slice Ab nb cb, .slice Bb mb db]] w (GotV w (.bool (decide (Ca = Cb ∧ Wa = Wb)))) := by
  subst hk
  subst hs
  subst hn
  obtain ⟨R, hR⟩ : ∃ R, decide (Ca = Cb ∧ Wa = Wb) = R := ⟨_, rfl⟩
  rw [hR]
  have HR := Lib.hid hR
  clear hR
  have cc := Below.refl w.heap.size w
  go_enter Tryz.func31, Tryz.ntmps31
  go_wp2_with fail
  generalize hv_ : (w.alloc (.cells #[.int .i64 ka, .int .i64 sa, .slice Aa na ca, .slice Ba ma da] 43)).alloc (.cells #[.int .i64 ka, .int .i64 sa, .slice Ab na cb, .slice Bb mb db] 43) = v1
  have bA : Below w.heap.size w v1 := by rw [← hv_]; exact (((Below.refl _ w).alloc (by simp) _).alloc (by simp) _)
  replace cc := bK cc bA
  clear bA
  have xa0 : v1.cell? ⟨w.heap.size, 0, none⟩ = some (.int .i64 ka) := by simp [← hv_, go_sem]
  have xa1 : v1.cell? ⟨w.heap.size, 1, none⟩ = some (.int .i64 sa) := by simp [← hv_, go_sem]
  have xa2 : v1.cell? ⟨w.heap.size, 2, none⟩ = some (.slice Aa na ca) := by simp [← hv_, go_sem]
  have xa3 : v1.cell? ⟨w.heap.size, 3, none⟩ = some (.slice Ba ma da) := by simp [← hv_, go_sem]
  have xal : w.heap.size < v1.heap.size := by simp [← hv_] <;> omega
  have xb0 : v1.cell? ⟨w.heap.size + 1, 0, none⟩ = some (.int .i64 ka) := by simp [← hv_, go_sem]
  have xb1 : v1.cell? ⟨w.heap.size + 1, 1, none⟩ = some (.int .i64 sa) := by simp [← hv_, go_sem]
  have xb2 : v1.cell? ⟨w.heap.size + 1, 2, none⟩ = some (.slice Ab na cb) := by simp [← hv_, go_sem]
  have xb3 : v1.cell? ⟨w.heap.size + 1, 3, none⟩ = some (.slice Bb mb db) := by simp [← hv_, go_sem]
  have xbl : w.heap.size + 1 < v1.heap.size := by simp [← hv_] <;> omega
  clear hv_
  have Xa2 := Lib.hid xa2
  have Xa3 := Lib.hid xa3
  have Xb2 := Lib.hid xb2
  have Xb3 := Lib.hid xb3
  have XAL := Lib.hid xal
  have XBL := Lib.hid xbl
  have CCV := Lib.hid cc
  have HCa := Lib.hid (hCa.on cc)
  have HCb := Lib.hid (hCb.on cc)
  have HWa := Lib.hid (hWa.on cc)
  have HWb := Lib.hid (hWb.on cc)
  clear xa0 xa1 xa2 xa3 xb0 xb1 xb2 xb3 xal xbl cc hCa hCb hWa hWb
  go_wp2_with fail
  go_loopw [5] (fun iv wr => ∃ i : Nat, i ≤ na ∧ iv = .int .i64 (i : Int) ∧ (∀ j, j < i → Ca[j]?.getD 0 = Cb[j]?.getD 0) ∧ Below v1.heap.size v1 wr) (fun iv _ => na - (intOf iv).toNat)
  case atStart => exact ⟨0, by omega, rfl, fun j h => absurd h (by omega), Below.refl _ _⟩
  case round =>
    obtain ⟨i, hi, rfl, hj, hbl⟩ := hrel
    have xa2 := (hbl.cell (p := ⟨w.heap.size, 2, none⟩) XAL.out).trans Xa2.out
    have xa3 := (hbl.cell (p := ⟨w.heap.size, 3, none⟩) XAL.out).trans Xa3.out
    have xb2 := (hbl.cell (p := ⟨w.heap.size + 1, 2, none⟩) XBL.out).trans Xb2.out
    have xb3 := (hbl.cell (p := ⟨w.heap.size + 1, 3, none⟩) XBL.out).trans Xb3.out
    have cc := CCV.out.trans (hbl.mono CCV.out.size)
    have l1 := HCa.out.1
    have l2 := HCb.out.1
    by_cases hlt : i < na
    · obtain ⟨b1, o1, rfl, hb1, hc1⟩ := (HCa.out.on hbl).2.2.2 (by omega)
      obtain ⟨b2, o2, rfl, hb2, hc2⟩ := (HCb.out.on hbl).2.2.2 (by omega)
      have h1 := hc1 i hlt
      have h2 := hc2 i hlt
      have k3 : IntKind.i64.wrap ((i : Int) + 1) = ((i + 1 : Nat) : Int) := by rw [IntWalk.i64_in _ (by omega)]; omega
      obtain ⟨x, hx⟩ : ∃ x, Ca[i]?.getD 0 = x := ⟨_, rfl⟩
      obtain ⟨y, hy⟩ : ∃ y, Cb[i]?.getD 0 = y := ⟨_, rfl⟩
      have x6 : (x : Int) < 256 := by have := HCa.out.at hlt; rw [hx] at this; omega
      have y6 : (y : Int) < 256 := by have := HCb.out.at hlt; rw [hy] at this; omega
      rw [hx] at h1
      rw [hy] at h2
      clear hc1 hc2
      by_cases hxy : x = y
      · subst hxy
        have HJ : Hid (∀ j, j < i + 1 → Ca[j]?.getD 0 = Cb[j]?.getD 0) := Lib.hid (fun j h => by
          rcases Nat.lt_or_ge j i with e | e
          · exact hj j e
          · have e2 : j = i := by omega
            rw [e2, hx, hy])
        clear hj hx hy l1 l2
        go_wp2_with fail
        go_region_held3 (fun w' => w'.cell? ⟨b1, o1 + i, none⟩ = some (.int .u8 (x : Int)) ∧ w'.cell? ⟨b2, o2 + i, none⟩ = some (.int .u8 (x : Int)) ∧ w'.cell? ⟨w.heap.size, 2, none⟩ = some (.slice (some ⟨b1, o1, none⟩) na ca) ∧ w'.cell? ⟨w.heap.size + 1, 2, none⟩ = some (.slice (some ⟨b2, o2, none⟩) na cb)) (exact ⟨h1, h2, xa2, xb2⟩) (fail)
        go_wp2_with fail
        go_roundw
        case rel => exact ⟨i + 1, by omega, rfl, HJ.out, below_drewN hbl 1⟩
        case measure => simp [intOf] <;> omega
      · have t1 : ((x : Int) == (y : Int)) = false := beq_eq_false_iff_ne.2 (by omega)
        have t2 : ((x : Int) != (y : Int)) = true := by simp; omega
        have t3 : (x == y) = false := beq_eq_false_iff_ne.2 hxy
        have t4 : (x != y) = true := by simp; exact hxy
        have hF : R = false := by rw [← HR.out]; exact decide_eq_false (fun h => hxy (by rw [← hx, ← hy, h.1]))
        subst hF
        clear hj hx hy l1 l2 hxy
        go_wp2_with fail
        go_region_held3 (fun w' => w'.cell? ⟨b1, o1 + i, none⟩ = some (.int .u8 (x : Int)) ∧ w'.cell? ⟨b2, o2 + i, none⟩ = some (.int .u8 (y : Int)) ∧ w'.cell? ⟨w.heap.size, 2, none⟩ = some (.slice (some ⟨b1, o1, none⟩) na ca) ∧ w'.cell? ⟨w.heap.size + 1, 2, none⟩ = some (.slice (some ⟨b2, o2, none⟩) na cb)) (exact ⟨h1, h2, xa2, xb2⟩) (fail)
        go_wp2_with fail
        go_ret
        exact ⟨rfl, below_drewN cc 1⟩
    · obtain rfl : i = na := by omega
      have hE : R = decide (Wa = Wb) := by
        have hC : Ca = Cb := List.ext_getElem (by omega) fun j h1 h2 => by
          have := hj j (by omega)
          rwa [List.getElem?_eq_getElem h1, List.getElem?_eq_getElem h2] at this
        rw [← HR.out]
        by_cases h : Wa = Wb <;> simp [hC, h]
      obtain ⟨r, hr⟩ : ∃ r, decide (Wa = Wb) = r := ⟨_, rfl⟩
      rw [hr] at hE
      subst hE
      clear hj l1 l2
      have CW : Calls Tryz.prog 16 #[.slice Ba ma da, .slice Bb mb db] wr (GotV wr (.bool R)) := by rw [← hr]; exact rsame9_any (HWa.out.on hbl) (HWb.out.on hbl) hma
      clear hr HR
      go_wp2_with fail
      refine CW.mono ?_
      rintro e w9 ⟨rfl, b⟩
      replace cc := bK cc b
      go_wp2_with fail
      go_ret
      exact ⟨rfl, cc⟩

theorem rSame_N {w : World} {ka sa : Int} {Aa Ba : Option Addr} {na ca ma da : Nat} {kb sb : Int} {Ab Bb : Option Addr} {nb cb mb db : Nat} {Ca : List Nat} {Wa : List Int} (hCa : BR w Aa na ca Ca) (hWa : IR w Ba ma da Wa) (hna : na ≤ 9223372036854775807) (hma : ma ≤ 9223372036854775807) {Cb : List Nat} {Wb : List Int} (hCb : BR w Ab nb cb Cb) (hWb : IR w Bb mb db Wb) (hnb : nb ≤ 9223372036854775807) (hmb : mb ≤ 9223372036854775807) : Calls Tryz.prog 31 #[.agg #[.int .i64 ka, .int .i64 sa, .slice Aa na ca, .slice Ba ma da], .agg #[.int .i64 kb, .int .i64 sb, .slice Ab nb cb, .slice Bb mb db]] w (GotV w (.bool (decide (ka = kb ∧ sa = sb ∧ Ca = Cb ∧ Wa = Wb)))) := by
  by_cases a0 : ka = kb
  · by_cases a1 : sa = sb
    · by_cases a2 : na = nb
      · have e : decide (ka = kb ∧ sa = sb ∧ Ca = Cb ∧ Wa = Wb) = decide (Ca = Cb ∧ Wa = Wb) := by simp [a0, a1]
        rw [e]; exact rSame_eq a0 a1 a2 hCa hWa hna hma hCb hWb hnb hmb
      · rw [decide_eq_false (fun h => a2 (by rw [hCa.1, hCb.1, h.2.2.1]))]; exact rSame_n a0 a1 a2
    · rw [decide_eq_false (fun h => a1 h.2.1)]; exact rSame_s a0 a1
  · rw [decide_eq_false (fun h => a0 h.1)]; exact rSame_k a0

end Go.Proofs.YtpidpebgeblenaaGreat

/-
  The contracts of the landed block: Right, Load, Pack.
-/
namespace Go.Proofs.YtpidpebgeblenaaGreat
set_option maxRecDepth 100000
set_option maxHeartbeats 8000000
open Go.RowKit
set_option linter.unusedVariables false
set_option linter.unusedSimpArgs false

theorem bkRight_no {w : World} {k s : Int} {A B : Option Addr} {n c m d : Nat} {q : Int} (hq : IntKind.i64.wrap ((n : Int) + (m : Int)) = q) {C : List Nat} {W : List Int} (hC : BR w A n c C) (hW : IR w B m d W) (hn : n ≤ 9223372036854775807) (hm : m ≤ 9223372036854775807) (h : ¬ (0 ≤ k ∧ k ≤ 4)) :
    Calls Tryz.prog 38 #[.agg #[.int .i64 k, .int .i64 s, .slice A n c, .slice B m d]] w (GotV w (.bool false)) := by
  have CM := fun V => bkman_no V h
  clear h hC hW hq
  have cc := Below.refl w.heap.size w
  go_enter Tryz.func38, Tryz.ntmps38
  go_wp2_with fail
  generalize hv_ : w.alloc (.cells #[.int .i64 k, .int .i64 s, .slice A n c, .slice B m d] 43) = v1
  have bA : Below w.heap.size w v1 := by rw [← hv_]; exact ((Below.refl _ w).alloc (by simp) _)
  replace cc := bK cc bA
  clear bA
  have ka0 : v1.cell? ⟨w.heap.size, 0, none⟩ = some (.int .i64 k) := by simp [← hv_, go_sem]
  have ka1 : v1.cell? ⟨w.heap.size, 1, none⟩ = some (.int .i64 s) := by simp [← hv_, go_sem]
  have ka2 : v1.cell? ⟨w.heap.size, 2, none⟩ = some (.slice A n c) := by simp [← hv_, go_sem]
  have ka3 : v1.cell? ⟨w.heap.size, 3, none⟩ = some (.slice B m d) := by simp [← hv_, go_sem]
  have kal : w.heap.size < v1.heap.size := by simp [← hv_] <;> omega
  clear hv_
  go_wp2_with fail
  refine (CM _).mono ?_
  rintro e w2 ⟨rfl, b⟩
  rewrite [cR b kal] at ka0 ka1 ka2 ka3
  replace kal := lK b kal
  replace cc := bK cc b
  clear b
  go_wp2_with fail
  go_ret
  exact ⟨rfl, cc⟩

theorem bkRight_wb {w : World} {k s : Int} {A B : Option Addr} {n c m d : Nat} {q : Int} (hq : IntKind.i64.wrap ((n : Int) + (m : Int)) = q) {C : List Nat} {W : List Int} (hC : BR w A n c C) (hW : IR w B m d W) (hn : n ≤ 9223372036854775807) (hm : m ≤ 9223372036854775807) (hk : k = 4) (hb : 4096 < q) :
    Calls Tryz.prog 38 #[.agg #[.int .i64 k, .int .i64 s, .slice A n c, .slice B m d]] w (GotV w (.bool false)) := by
  have CL := fun V => bkLen_N V (k := k) (s := s) (A := A) (B := B) (c := c) (d := d) hn hm
  rw [hq] at CL
  have CM := fun V => bkman_w V hk
  have tq : decide (q ≤ 4096) = false := decide_eq_false (by omega)
  clear hq hk hb hC hW
  have cc := Below.refl w.heap.size w
  go_enter Tryz.func38, Tryz.ntmps38
  go_wp2_with fail
  generalize hv_ : w.alloc (.cells #[.int .i64 k, .int .i64 s, .slice A n c, .slice B m d] 43) = v1
  have bA : Below w.heap.size w v1 := by rw [← hv_]; exact ((Below.refl _ w).alloc (by simp) _)
  replace cc := bK cc bA
  clear bA
  have ka0 : v1.cell? ⟨w.heap.size, 0, none⟩ = some (.int .i64 k) := by simp [← hv_, go_sem]
  have ka1 : v1.cell? ⟨w.heap.size, 1, none⟩ = some (.int .i64 s) := by simp [← hv_, go_sem]
  have ka2 : v1.cell? ⟨w.heap.size, 2, none⟩ = some (.slice A n c) := by simp [← hv_, go_sem]
  have ka3 : v1.cell? ⟨w.heap.size, 3, none⟩ = some (.slice B m d) := by simp [← hv_, go_sem]
  have kal : w.heap.size < v1.heap.size := by simp [← hv_] <;> omega
  clear hv_
  go_wp2_with fail
  refine (CM _).mono ?_
  rintro e w2 ⟨rfl, b⟩
  rewrite [cR b kal] at ka0 ka1 ka2 ka3
  replace kal := lK b kal
  replace cc := bK cc b
  clear b
  go_wp2_with fail
  refine (CL _).mono ?_
  rintro e w3 ⟨rfl, b⟩
  rewrite [cR b kal] at ka0 ka1 ka2 ka3
  replace kal := lK b kal
  replace cc := bK cc b
  clear b
  go_wp2_with fail
  go_ret
  exact ⟨rfl, cc⟩

theorem bkRight_ws {w : World} {k s : Int} {A B : Option Addr} {n c m d : Nat} {q : Int} (hq : IntKind.i64.wrap ((n : Int) + (m : Int)) = q) {C : List Nat} {W : List Int} (hC : BR w A n c C) (hW : IR w B m d W) (hn : n ≤ 9223372036854775807) (hm : m ≤ 9223372036854775807) (hk : k = 4) (hb : q ≤ 4096) :
    Calls Tryz.prog 38 #[.agg #[.int .i64 k, .int .i64 s, .slice A n c, .slice B m d]] w (GotV w (.bool (decide ((∀ x ∈ W, x ≠ -9223372036854775808) ∧ s = 0 ∧ n = 0)))) := by
  have CL := fun V => bkLen_N V (k := k) (s := s) (A := A) (B := B) (c := c) (d := d) hn hm
  rw [hq] at CL
  have CM := fun V => bkman_w V hk
  have tq : decide (q ≤ 4096) = true := decide_eq_true (by omega)
  subst hk
  obtain ⟨r, hr⟩ : ∃ r, decide ((∀ x ∈ W, x ≠ -9223372036854775808) ∧ s = 0 ∧ n = 0) = r := ⟨_, rfl⟩
  rw [hr]
  have CR : ∀ {V : World}, IR V B m d W → Calls Tryz.prog 116 #[.agg #[], .agg #[.int .i64 4, .int .i64 s, .slice A n c, .slice B m d]] V (GotV V (.bool r)) := fun h => by have h2 := bkwright_N (k := 4) (s := s) (A := A) (n := n) (c := c) h hm; rw [hr] at h2; exact h2
  have hmt : ∀ V : World, (method 61 75 (.agg #[]) "ratchet/block.right").run Tryz.prog V = .ok (116, .agg #[]) V := fun _ => by kernel_rfl
  clear hr hq hb
  have cc := Below.refl w.heap.size w
  go_enter Tryz.func38, Tryz.ntmps38
  go_wp2_with fail
  generalize hv_ : w.alloc (.cells #[.int .i64 4, .int .i64 s, .slice A n c, .slice B m d] 43) = v1
  have bA : Below w.heap.size w v1 := by rw [← hv_]; exact ((Below.refl _ w).alloc (by simp) _)
  replace hC := hC.on bA
  replace hW := hW.on bA
  replace cc := bK cc bA
  clear bA
  have ka0 : v1.cell? ⟨w.heap.size, 0, none⟩ = some (.int .i64 4) := by simp [← hv_, go_sem]
  have ka1 : v1.cell? ⟨w.heap.size, 1, none⟩ = some (.int .i64 s) := by simp [← hv_, go_sem]
  have ka2 : v1.cell? ⟨w.heap.size, 2, none⟩ = some (.slice A n c) := by simp [← hv_, go_sem]
  have ka3 : v1.cell? ⟨w.heap.size, 3, none⟩ = some (.slice B m d) := by simp [← hv_, go_sem]
  have kal : w.heap.size < v1.heap.size := by simp [← hv_] <;> omega
  clear hv_
  go_wp2_with fail
  refine (CM _).mono ?_
  rintro e w2 ⟨rfl, b⟩
  replace hC := hC.on b
  replace hW := hW.on b
  rewrite [cR b kal] at ka0 ka1 ka2 ka3
  replace kal := lK b kal
  replace cc := bK cc b
  clear b
  go_wp2_with fail
  refine (CL _).mono ?_
  rintro e w3 ⟨rfl, b⟩
  replace hC := hC.on b
  replace hW := hW.on b
  rewrite [cR b kal] at ka0 ka1 ka2 ka3
  replace kal := lK b kal
  replace cc := bK cc b
  clear b
  go_wp2_with fail
  refine (CR hW).mono ?_
  rintro e w4 ⟨rfl, b⟩
  replace hC := hC.on b
  replace hW := hW.on b
  rewrite [cR b kal] at ka0 ka1 ka2 ka3
  replace kal := lK b kal
  replace cc := bK cc b
  clear b
  go_wp2_with fail
  go_ret
  exact ⟨rfl, cc⟩

theorem bkRight_cb {w : World} {k s : Int} {A B : Option Addr} {n c m d : Nat} {q : Int} (hq : IntKind.i64.wrap ((n : Int) + (m : Int)) = q) {C : List Nat} {W : List Int} (hC : BR w A n c C) (hW : IR w B m d W) (hn : n ≤ 9223372036854775807) (hm : m ≤ 9223372036854775807) (hk : Kind9 k) (hb : 4096 < q) :
    Calls Tryz.prog 38 #[.agg #[.int .i64 k, .int .i64 s, .slice A n c, .slice B m d]] w (GotV w (.bool false)) := by
  have CL := fun V => bkLen_N V (k := k) (s := s) (A := A) (B := B) (c := c) (d := d) hn hm
  rw [hq] at CL
  have CM := fun V => bkman_c V hk
  have tq : decide (q ≤ 4096) = false := decide_eq_false (by omega)
  clear hq hk hb hC hW
  have cc := Below.refl w.heap.size w
  go_enter Tryz.func38, Tryz.ntmps38
  go_wp2_with fail
  generalize hv_ : w.alloc (.cells #[.int .i64 k, .int .i64 s, .slice A n c, .slice B m d] 43) = v1
  have bA : Below w.heap.size w v1 := by rw [← hv_]; exact ((Below.refl _ w).alloc (by simp) _)
  replace cc := bK cc bA
  clear bA
  have ka0 : v1.cell? ⟨w.heap.size, 0, none⟩ = some (.int .i64 k) := by simp [← hv_, go_sem]
  have ka1 : v1.cell? ⟨w.heap.size, 1, none⟩ = some (.int .i64 s) := by simp [← hv_, go_sem]
  have ka2 : v1.cell? ⟨w.heap.size, 2, none⟩ = some (.slice A n c) := by simp [← hv_, go_sem]
  have ka3 : v1.cell? ⟨w.heap.size, 3, none⟩ = some (.slice B m d) := by simp [← hv_, go_sem]
  have kal : w.heap.size < v1.heap.size := by simp [← hv_] <;> omega
  clear hv_
  go_wp2_with fail
  refine (CM _).mono ?_
  rintro e w2 ⟨rfl, b⟩
  rewrite [cR b kal] at ka0 ka1 ka2 ka3
  replace kal := lK b kal
  replace cc := bK cc b
  clear b
  go_wp2_with fail
  refine (CL _).mono ?_
  rintro e w3 ⟨rfl, b⟩
  rewrite [cR b kal] at ka0 ka1 ka2 ka3
  replace kal := lK b kal
  replace cc := bK cc b
  clear b
  go_wp2_with fail
  go_ret
  exact ⟨rfl, cc⟩

theorem bkRight_cs {w : World} {k s : Int} {A B : Option Addr} {n c m d : Nat} {q : Int} (hq : IntKind.i64.wrap ((n : Int) + (m : Int)) = q) {C : List Nat} {W : List Int} (hC : BR w A n c C) (hW : IR w B m d W) (hn : n ≤ 9223372036854775807) (hm : m ≤ 9223372036854775807) (hk : Kind9 k) (hb : q ≤ 4096) :
    Calls Tryz.prog 38 #[.agg #[.int .i64 k, .int .i64 s, .slice A n c, .slice B m d]] w (GotV w (.bool (decide (m = 0 ∧ OkC k s C)))) := by
  have CL := fun V => bkLen_N V (k := k) (s := s) (A := A) (B := B) (c := c) (d := d) hn hm
  rw [hq] at CL
  have CM := fun V => bkman_c V hk
  have tq : decide (q ≤ 4096) = true := decide_eq_true (by omega)
  obtain ⟨r, hr⟩ : ∃ r, decide (m = 0 ∧ OkC k s C) = r := ⟨_, rfl⟩
  rw [hr]
  have CR : ∀ {V : World}, BR V A n c C → Calls Tryz.prog 121 #[.int .i64 k, .agg #[.int .i64 k, .int .i64 s, .slice A n c, .slice B m d]] V (GotV V (.bool r)) := fun h => by have h2 := bkcright_N (s := s) (B := B) (m := m) (d := d) hk h; rw [hr] at h2; exact h2
  have hmt : ∀ V : World, (method 61 76 (.int .i64 k) "ratchet/block.right").run Tryz.prog V = .ok (121, .int .i64 k) V := fun _ => by kernel_rfl
  clear hr hq hb hk
  have cc := Below.refl w.heap.size w
  go_enter Tryz.func38, Tryz.ntmps38
  go_wp2_with fail
  generalize hv_ : w.alloc (.cells #[.int .i64 k, .int .i64 s, .slice A n c, .slice B m d] 43) = v1
  have bA : Below w.heap.size w v1 := by rw [← hv_]; exact ((Below.refl _ w).alloc (by simp) _)
  replace hC := hC.on bA
  replace hW := hW.on bA
  replace cc := bK cc bA
  clear bA
  have ka0 : v1.cell? ⟨w.heap.size, 0, none⟩ = some (.int .i64 k) := by simp [← hv_, go_sem]
  have ka1 : v1.cell? ⟨w.heap.size, 1, none⟩ = some (.int .i64 s) := by simp [← hv_, go_sem]
  have ka2 : v1.cell? ⟨w.heap.size, 2, none⟩ = some (.slice A n c) := by simp [← hv_, go_sem]
  have ka3 : v1.cell? ⟨w.heap.size, 3, none⟩ = some (.slice B m d) := by simp [← hv_, go_sem]
  have kal : w.heap.size < v1.heap.size := by simp [← hv_] <;> omega
  clear hv_
  go_wp2_with fail
  refine (CM _).mono ?_
  rintro e w2 ⟨rfl, b⟩
  replace hC := hC.on b
  replace hW := hW.on b
  rewrite [cR b kal] at ka0 ka1 ka2 ka3
  replace kal := lK b kal
  replace cc := bK cc b
  clear b
  go_wp2_with fail
  refine (CL _).mono ?_
  rintro e w3 ⟨rfl, b⟩
  replace hC := hC.on b
  replace hW := hW.on b
  rewrite [cR b kal] at ka0 ka1 ka2 ka3
  replace kal := lK b kal
  replace cc := bK cc b
  clear b
  go_wp2_with fail
  refine (CR hC).mono ?_
  rintro e w4 ⟨rfl, b⟩
  replace hC := hC.on b
  replace hW := hW.on b
  rewrite [cR b kal] at ka0 ka1 ka2 ka3
  replace kal := lK b kal
  replace cc := bK cc b
  clear b
  go_wp2_with fail
  go_ret
  exact ⟨rfl, cc⟩

theorem bkRight_N {w : World} {k s : Int} {A B : Option Addr} {n c m d : Nat} {C : List Nat} {W : List Int} (hC : BR w A n c C) (hW : IR w B m d W) (hn : n ≤ 9223372036854775807) (hm : m ≤ 9223372036854775807) : Calls Tryz.prog 38 #[.agg #[.int .i64 k, .int .i64 s, .slice A n c, .slice B m d]] w (GotV w (.bool (decide (OkB k s C W)))) := by
  have hl1 := hC.1
  have hl2 := hW.1
  obtain ⟨q, hq⟩ : ∃ q, IntKind.i64.wrap ((n : Int) + (m : Int)) = q := ⟨_, rfl⟩
  have q1 : n = 0 → q = (m : Int) := fun e => by subst e; rw [← hq]; rw [IntWalk.i64_in _ (by omega)]; omega
  have q2 : m = 0 → q = (n : Int) := fun e => by subst e; rw [← hq]; rw [IntWalk.i64_in _ (by omega)]; omega
  by_cases h : 0 ≤ k ∧ k ≤ 4
  · rcases kind_or.1 h with hk | hk
    · have h4 : k ≠ 4 := by unfold Kind9 at hk; omega
      by_cases hb : 4096 < q
      · rw [decide_eq_false (fun e => by
          rcases e with ⟨_, e1, e2, _⟩ | e
          · have := q2 (by rw [hl2, e2]; rfl); omega
          · exact h4 e.1)]
        exact bkRight_cb hq hC hW hn hm hk hb
      · have e : decide (OkB k s C W) = decide (m = 0 ∧ OkC k s C) := decide_eq_decide.2 ⟨fun e => (by
          rcases e with ⟨_, e1, e2, e3⟩ | e
          · exact ⟨by rw [hl2, e2]; rfl, e3⟩
          · exact absurd e.1 h4), fun e => .inl ⟨hk, by have := q2 e.1; omega, List.eq_nil_of_length_eq_zero (by omega), e.2⟩⟩
        rw [e]; exact bkRight_cs hq hC hW hn hm hk (by omega)
    · by_cases hb : 4096 < q
      · rw [decide_eq_false (fun e => by
          rcases e with ⟨e, _⟩ | ⟨_, e1, _, _, e2⟩
          · unfold Kind9 at e; omega
          · have := q1 (by rw [hl1, e2]; rfl); omega)]
        exact bkRight_wb hq hC hW hn hm hk hb
      · have e : decide (OkB k s C W) = decide ((∀ x ∈ W, x ≠ -9223372036854775808) ∧ s = 0 ∧ n = 0) := decide_eq_decide.2 ⟨fun e => (by
          rcases e with ⟨e, _⟩ | ⟨_, e1, e2, e3, e4⟩
          · unfold Kind9 at e; omega
          · exact ⟨e2, e3, by rw [hl1, e4]; rfl⟩), fun e => .inr ⟨hk, by have := q1 e.2.2; omega, e.1, e.2.1, List.eq_nil_of_length_eq_zero (by omega)⟩⟩
        rw [e]; exact bkRight_ws hq hC hW hn hm hk (by omega)
  · rw [decide_eq_false (fun e => h (kind_or.2 (by rcases e with e | e; exact .inl e.1; exact .inr e.1)))]
    exact bkRight_no hq hC hW hn hm h

theorem bkLoad_w {w : World} {k s : Int} {A B : Option Addr} {n c m d : Nat} {W : List Int} (hk : k = 4) (hW : IR w B m d W) (hm : m ≤ 4096) :
    Calls Tryz.prog 32 #[.agg #[.int .i64 k, .int .i64 s, .slice A n c, .slice B m d]] w (GotI w W) := by
  have CM := fun V => bkman_w V hk
  subst hk
  have hmt : ∀ V : World, (method 61 75 (.agg #[]) "ratchet/block.load").run Tryz.prog V = .ok (114, .agg #[]) V := fun _ => by kernel_rfl
  have cc := Below.refl w.heap.size w
  go_enter Tryz.func32, Tryz.ntmps32
  go_wp2_with fail
  generalize hv_ : w.alloc (.cells #[.int .i64 4, .int .i64 s, .slice A n c, .slice B m d] 43) = v1
  have bA : Below w.heap.size w v1 := by rw [← hv_]; exact ((Below.refl _ w).alloc (by simp) _)
  replace hW := hW.on bA
  replace cc := bK cc bA
  clear bA
  have ka0 : v1.cell? ⟨w.heap.size, 0, none⟩ = some (.int .i64 4) := by simp [← hv_, go_sem]
  have ka1 : v1.cell? ⟨w.heap.size, 1, none⟩ = some (.int .i64 s) := by simp [← hv_, go_sem]
  have ka2 : v1.cell? ⟨w.heap.size, 2, none⟩ = some (.slice A n c) := by simp [← hv_, go_sem]
  have ka3 : v1.cell? ⟨w.heap.size, 3, none⟩ = some (.slice B m d) := by simp [← hv_, go_sem]
  have kal : w.heap.size < v1.heap.size := by simp [← hv_] <;> omega
  clear hv_
  go_wp2_with fail
  refine (CM _).mono ?_
  rintro e w2 ⟨rfl, b⟩
  replace hW := hW.on b
  rewrite [cR b kal] at ka0 ka1 ka2 ka3
  replace kal := lK b kal
  replace cc := bK cc b
  clear b
  go_wp2_with fail
  refine (bkwload_N hW hm).mono ?_
  rintro e w3 ⟨Al, nl, cl, rfl, hl, b⟩
  replace hW := hW.on b
  rewrite [cR b kal] at ka0 ka1 ka2 ka3
  replace kal := lK b kal
  replace cc := bK cc b
  clear b
  go_wp2_with fail
  go_ret
  exact ⟨_, _, _, rfl, hl, cc⟩

theorem bkLoad_c {w : World} {k s : Int} {A B : Option Addr} {n c m d : Nat} {C : List Nat} (hk : Kind9 k) (h0 : 0 ≤ s) (hs : I64 s) (hC : BR w A n c C) (hn : n ≤ 4096) :
    Calls Tryz.prog 32 #[.agg #[.int .i64 k, .int .i64 s, .slice A n c, .slice B m d]] w (GotI w (C.map (ld k s))) := by
  have CM := fun V => bkman_c V hk
  have CO := fun {V : World} (h : BR V A n c C) => bkcload_N (B := B) (m := m) (d := d) hk h0 hs h hn
  generalize C.map (ld k s) = R at *
  have hmt : ∀ V : World, (method 61 76 (.int .i64 k) "ratchet/block.load").run Tryz.prog V = .ok (119, .int .i64 k) V := fun _ => by kernel_rfl
  clear hk h0 hs
  have cc := Below.refl w.heap.size w
  go_enter Tryz.func32, Tryz.ntmps32
  go_wp2_with fail
  generalize hv_ : w.alloc (.cells #[.int .i64 k, .int .i64 s, .slice A n c, .slice B m d] 43) = v1
  have bA : Below w.heap.size w v1 := by rw [← hv_]; exact ((Below.refl _ w).alloc (by simp) _)
  replace hC := hC.on bA
  replace cc := bK cc bA
  clear bA
  have ka0 : v1.cell? ⟨w.heap.size, 0, none⟩ = some (.int .i64 k) := by simp [← hv_, go_sem]
  have ka1 : v1.cell? ⟨w.heap.size, 1, none⟩ = some (.int .i64 s) := by simp [← hv_, go_sem]
  have ka2 : v1.cell? ⟨w.heap.size, 2, none⟩ = some (.slice A n c) := by simp [← hv_, go_sem]
  have ka3 : v1.cell? ⟨w.heap.size, 3, none⟩ = some (.slice B m d) := by simp [← hv_, go_sem]
  have kal : w.heap.size < v1.heap.size := by simp [← hv_] <;> omega
  clear hv_
  go_wp2_with fail
  refine (CM _).mono ?_
  rintro e w2 ⟨rfl, b⟩
  replace hC := hC.on b
  rewrite [cR b kal] at ka0 ka1 ka2 ka3
  replace kal := lK b kal
  replace cc := bK cc b
  clear b
  go_wp2_with fail
  refine (CO hC).mono ?_
  rintro e w3 ⟨Al, nl, cl, rfl, hl, b⟩
  replace hC := hC.on b
  rewrite [cR b kal] at ka0 ka1 ka2 ka3
  replace kal := lK b kal
  replace cc := bK cc b
  clear b
  go_wp2_with fail
  go_ret
  exact ⟨_, _, _, rfl, hl, cc⟩

theorem bkLoad_N {w : World} {k s : Int} {A B : Option Addr} {n c m d : Nat} {C : List Nat} {W : List Int} (hC : BR w A n c C) (hW : IR w B m d W) (ho : OkB k s C W) (hs : I64 s) : Calls Tryz.prog 32 #[.agg #[.int .i64 k, .int .i64 s, .slice A n c, .slice B m d]] w (GotI w (ldB k s C W)) := by
  have hl1 := hC.1
  have hl2 := hW.1
  unfold ldB
  rcases ho with ⟨hk, h1, _, h2⟩ | ⟨hk, h1, _⟩
  · rw [if_neg (show k ≠ 4 by unfold Kind9 at hk; omega)]
    exact bkLoad_c hk (by rcases h2 with e | e; have := e.1; omega; have := e.1; omega) hs hC (by omega)
  · rw [if_pos hk]
    exact bkLoad_w hk hW (by omega)

theorem tkC_ok {k x : Int} (hk : Kind9 k) : tkC k x = true ↔ (x ≠ -9223372036854775808 ∧ (k = 1 ∨ k = 3 → 0 ≤ x)) := by
  unfold tkC
  rw [decide_eq_true_eq, sig9_iff hk]
  constructor
  · intro h
    refine ⟨by omega, fun e => ?_⟩
    rcases h with h | h
    · exact h
    · exact absurd e h.2
  · intro h
    by_cases h0 : 0 ≤ x
    · exact .inl h0
    · exact .inr ⟨h.1, fun e => h0 (h.2 e)⟩
theorem tkW_ok {x : Int} : tkW x = true ↔ x ≠ -9223372036854775808 := decide_eq_true_iff
theorem row_i64 {L : List Int} (hi : ∀ x ∈ L, I64 x) (hm : ∀ x ∈ L, x ≠ -9223372036854775808) : ∀ j : Nat, I64 (L[j]?.getD 0) ∧ L[j]?.getD 0 ≠ -9223372036854775808 := by
  intro j
  rcases Nat.lt_or_ge j L.length with h | h
  · exact ⟨hi _ (mem_at h), hm _ (mem_at h)⟩
  · rw [List.getElem?_eq_none h]; exact ⟨i64_z, by show (0 : Int) ≠ _; omega⟩
end Go.Proofs.YtpidpebgeblenaaGreat

/-
  The contracts of the fourteenth reference: Few, Cost.
-/
namespace Go.Proofs.YtpidpebgeblenaaGreat
set_option maxRecDepth 100000
set_option maxHeartbeats 8000000
open Go.RowKit
set_option linter.unusedVariables false
set_option linter.unusedSimpArgs false

/-- How many numbers the first blocks have, as 64 bits tell it; and what they cost. -/
def fs (L : List Bk) : Nat → Int
  | 0 => 0
  | i + 1 => IntKind.i64.wrap (fs L i + IntKind.i64.wrap (((L[i]?.getD bk0).2.2.1.length : Int) + ((L[i]?.getD bk0).2.2.2.length : Int)))
def fc (L : List Bk) : Nat → Int
  | 0 => 0
  | i + 1 => if (L[i]?.getD bk0).1 = 4 then IntKind.i64.wrap (fc L i + IntKind.i64.wrap (8 * ((L[i]?.getD bk0).2.2.2.length : Int))) else IntKind.i64.wrap (IntKind.i64.wrap (fc L i + ((L[i]?.getD bk0).2.2.1.length : Int)) + 8)

theorem rFew14_N {w : World} {kk ks km ko lg : Int} {A : Option Addr} {n c : Nat} {L : List Bk} (hA : KR w A n c L) (hn : n ≤ 9223372036854775807) {most : Int} :
    Calls Tryz.prog 6 #[.agg #[.int .i64 kk, .int .i64 ks, .int .i64 km, .int .i64 ko, .int .i64 lg, .slice A n c], .int .i64 most] w (GotV w (.bool (decide (fs L n ≤ most) && decide ((n : Int) ≤ most)))) := by
  have HN := Lib.hid hn
  have HLN := Lib.hid hA.1
  obtain ⟨S, eS⟩ : ∃ S, fs L = S := ⟨_, rfl⟩
  rw [eS]
  clear hn
  have cc := Below.refl w.heap.size w
  go_enter Tryz.func6, Tryz.ntmps6
  go_upto_region 1 with fail
  generalize hv_ : w.alloc (.cells #[.int .i64 kk, .int .i64 ks, .int .i64 km, .int .i64 ko, .int .i64 lg, .slice A n c] 26) = v1
  have bA : Below w.heap.size w v1 := by rw [← hv_]; exact ((Below.refl _ w).alloc (by simp) _)
  replace hA := hA.on bA
  replace cc := bK cc bA
  clear bA
  obtain ⟨pa0, pa1, pa2, pa3, pa4, pa5⟩ : Cs6 v1 w.heap.size (.int .i64 kk) (.int .i64 ks) (.int .i64 km) (.int .i64 ko) (.int .i64 lg) (.slice A n c) := by simp [Cs6, ← hv_, go_sem]
  have pal : w.heap.size < v1.heap.size := by simp [← hv_] <;> omega
  clear hv_
  have PA5 := Lib.hid pa5
  have PAL := Lib.hid pal
  have HAV := Lib.hid hA
  have CCV := Lib.hid cc
  clear pa0 pa1 pa2 pa3 pa4 pa5 pal hA cc
  go_wp2_with fail
  go_loopw [5, 6] (fun nv iv wr => ∃ i : Nat, i ≤ n ∧ iv = .int .i64 (i : Int) ∧ nv = .int .i64 (S i) ∧ Below v1.heap.size v1 wr) (fun _ iv _ => n - (intOf iv).toNat)
  case atStart => exact ⟨0, by omega, rfl, by rw [← eS]; rfl, Below.refl _ _⟩
  case round =>
    obtain ⟨i, hi, rfl, rfl, hbl⟩ := hrel
    have pa5 := (hbl.cell (p := ⟨w.heap.size, 5, none⟩) PAL.out).trans PA5.out
    have cc := CCV.out.trans (hbl.mono CCV.out.size)
    by_cases hlt : i < n
    · obtain ⟨bb, off, rfl, hb⟩ := HAV.out.some (by omega)
      obtain ⟨A1, n1, c1, B1, m1, d1, h0, h1, h2, h3, hC, hW, hn1, hm1, hs1, hz1⟩ := kr_at (HAV.out.on hbl) hlt
      have hS : S (i + 1) = IntKind.i64.wrap (S i + IntKind.i64.wrap ((n1 : Int) + (m1 : Int))) := by rw [← eS, hC.1, hW.1]; rfl
      obtain ⟨z1, e1⟩ : ∃ z, (L[i]?.getD bk0).1 = z := ⟨_, rfl⟩
      obtain ⟨z2, e2⟩ : ∃ z, (L[i]?.getD bk0).2.1 = z := ⟨_, rfl⟩
      rw [e1] at h0
      rw [e2] at h1
      have CL := fun W : World => rLen_N W (k := z1) (s := z2) (A := A1) (B := B1) (n := n1) (c := c1) (m := m1) (d := d1)
      obtain ⟨q, hq⟩ : ∃ q, IntKind.i64.wrap ((n1 : Int) + (m1 : Int)) = q := ⟨_, rfl⟩
      rw [hq] at CL hS
      obtain ⟨p, hp⟩ : ∃ p, IntKind.i64.wrap (S i + q) = p := ⟨_, rfl⟩
      rw [hp] at hS
      have HS := Lib.hid hS
      have k3 : IntKind.i64.wrap ((i : Int) + 1) = ((i + 1 : Nat) : Int) := by rw [IntWalk.i64_in _ (by have := HN.out; omega)]; omega
      have jl : (i : Int) < (n : Int) := by omega
      clear e1 e2 hC hW hn1 hm1 hs1 hz1 hq hS
      generalize S i = Si at *
      go_wp2_with fail
      refine (CL _).mono ?_
      rintro e w9 ⟨rfl, b⟩
      replace hbl := bK hbl b
      go_wp2_with fail
      go_roundw
      case rel => exact ⟨i + 1, by omega, by go_num, by rw [HS.out], hbl⟩
      case measure => simp [intOf] <;> omega
    · obtain rfl : i = n := by omega
      generalize S i = Si at *
      obtain ⟨r2, er2⟩ : ∃ r, decide ((i : Int) ≤ most) = r := ⟨_, rfl⟩
      by_cases hq : Si ≤ most
      · have t0 : decide (Si ≤ most) = true := decide_eq_true hq
        have HE : Hid ((decide (Si ≤ most) && decide ((i : Int) ≤ most)) = r2) := Lib.hid (by rw [t0, er2, Bool.true_and])
        clear hq
        go_wp2_with fail
        go_ret
        exact ⟨by rw [HE.out]; rfl, cc⟩
      · have t0 : decide (Si ≤ most) = false := decide_eq_false hq
        have HE : Hid ((decide (Si ≤ most) && decide ((i : Int) ≤ most)) = false) := Lib.hid (by rw [t0, Bool.false_and])
        clear hq
        go_wp2_with fail
        go_ret
        exact ⟨by rw [HE.out]; rfl, cc⟩

theorem rCost14_N {w : World} {kk ks km ko lg : Int} {A : Option Addr} {n c : Nat} {L : List Bk} (hA : KR w A n c L) (hn : n ≤ 9223372036854775807) :
    Calls Tryz.prog 15 #[.agg #[.int .i64 kk, .int .i64 ks, .int .i64 km, .int .i64 ko, .int .i64 lg, .slice A n c]] w (GotV w (.int .i64 (fc L n))) := by
  have HN := Lib.hid hn
  have HLN := Lib.hid hA.1
  obtain ⟨S, eS⟩ : ∃ S, fc L = S := ⟨_, rfl⟩
  rw [eS]
  clear hn
  have cc := Below.refl w.heap.size w
  go_enter Tryz.func15, Tryz.ntmps15
  go_upto_region 1 with fail
  generalize hv_ : w.alloc (.cells #[.int .i64 kk, .int .i64 ks, .int .i64 km, .int .i64 ko, .int .i64 lg, .slice A n c] 26) = v1
  have bA : Below w.heap.size w v1 := by rw [← hv_]; exact ((Below.refl _ w).alloc (by simp) _)
  replace hA := hA.on bA
  replace cc := bK cc bA
  clear bA
  obtain ⟨pa0, pa1, pa2, pa3, pa4, pa5⟩ : Cs6 v1 w.heap.size (.int .i64 kk) (.int .i64 ks) (.int .i64 km) (.int .i64 ko) (.int .i64 lg) (.slice A n c) := by simp [Cs6, ← hv_, go_sem]
  have pal : w.heap.size < v1.heap.size := by simp [← hv_] <;> omega
  clear hv_
  have PA5 := Lib.hid pa5
  have PAL := Lib.hid pal
  have HAV := Lib.hid hA
  have CCV := Lib.hid cc
  clear pa0 pa1 pa2 pa3 pa4 pa5 pal hA cc
  go_wp2_with fail
  go_loopw [3, 4] (fun nv iv wr => ∃ i : Nat, i ≤ n ∧ iv = .int .i64 (i : Int) ∧ nv = .int .i64 (S i) ∧ Below v1.heap.size v1 wr) (fun _ iv _ => n - (intOf iv).toNat)
  case atStart => exact ⟨0, by omega, rfl, by rw [← eS]; rfl, Below.refl _ _⟩
  case round =>
    obtain ⟨i, hi, rfl, rfl, hbl⟩ := hrel
    have pa5 := (hbl.cell (p := ⟨w.heap.size, 5, none⟩) PAL.out).trans PA5.out
    have cc := CCV.out.trans (hbl.mono CCV.out.size)
    by_cases hlt : i < n
    · obtain ⟨bb, off, rfl, hb⟩ := HAV.out.some (by omega)
      obtain ⟨A1, n1, c1, B1, m1, d1, h0, h1, h2, h3, hC, hW, hn1, hm1, hs1, hz1⟩ := kr_at (HAV.out.on hbl) hlt
      obtain ⟨z1, e1⟩ : ∃ z, (L[i]?.getD bk0).1 = z := ⟨_, rfl⟩
      have hS : S (i + 1) = if z1 = 4 then IntKind.i64.wrap (S i + IntKind.i64.wrap (8 * (m1 : Int))) else IntKind.i64.wrap (IntKind.i64.wrap (S i + (n1 : Int)) + 8) := by rw [← eS, hC.1, hW.1, ← e1]; rfl
      rw [e1] at h0
      have k3 : IntKind.i64.wrap ((i : Int) + 1) = ((i + 1 : Nat) : Int) := by rw [IntWalk.i64_in _ (by have := HN.out; omega)]; omega
      have jl : (i : Int) < (n : Int) := by omega
      generalize S i = Si at *
      by_cases h4 : z1 = 4
      · rw [if_pos h4] at hS
        subst h4
        obtain ⟨q, hq⟩ : ∃ q, IntKind.i64.wrap (8 * (m1 : Int)) = q := ⟨_, rfl⟩
        rw [hq] at hS
        have hq2 : IntKind.i64.wrap ((m1 : Int) * 8) = q := by rw [Int.mul_comm]; exact hq
        obtain ⟨p, hp⟩ : ∃ p, IntKind.i64.wrap (Si + q) = p := ⟨_, rfl⟩
        rw [hp] at hS
        have HS := Lib.hid hS
        clear hC hW hn1 hm1 hs1 hz1 hS e1 h1 h2
        go_wp2_with fail
        go_roundw
        case rel => exact ⟨i + 1, by omega, by go_num, by rw [HS.out], hbl⟩
        case measure => simp [intOf] <;> omega
      · rw [if_neg h4] at hS
        have t4 : (z1 == 4) = false := beq_eq_false_iff_ne.2 h4
        obtain ⟨q, hq⟩ : ∃ q, IntKind.i64.wrap (Si + (n1 : Int)) = q := ⟨_, rfl⟩
        rw [hq] at hS
        obtain ⟨p, hp⟩ : ∃ p, IntKind.i64.wrap (q + 8) = p := ⟨_, rfl⟩
        rw [hp] at hS
        have HS := Lib.hid hS
        clear hC hW hn1 hm1 hs1 hz1 hS e1 h1 h3 h4
        go_wp2_with fail
        go_roundw
        case rel => exact ⟨i + 1, by omega, by go_num, by rw [HS.out], hbl⟩
        case measure => simp [intOf] <;> omega
    · obtain rfl : i = n := by omega
      go_wp2_with fail
      go_ret
      exact ⟨rfl, cc⟩

end Go.Proofs.YtpidpebgeblenaaGreat

/-
  The contracts of the fourteenth reference: May, wide.
-/
namespace Go.Proofs.YtpidpebgeblenaaGreat
set_option maxRecDepth 100000
set_option maxHeartbeats 8000000
open Go.RowKit
set_option linter.unusedVariables false
set_option linter.unusedSimpArgs false

/-- Is a Keep right? Must a block be wide? -/
def OkK (kk ks km ko : Int) : Prop := (0 ≤ kk ∧ kk ≤ 3) ∧ (1 ≤ ks ∧ ks ≤ 4096) ∧ 0 ≤ km ∧ 0 ≤ ko
instance (kk ks km ko : Int) : Decidable (OkK kk ks km ko) := by unfold OkK; infer_instance
def Wd (km ko lg g : Int) : Prop := lg < km ∨ (0 < ko ∧ ko < g)
instance (km ko lg g : Int) : Decidable (Wd km ko lg g) := by unfold Wd; infer_instance
def OkX (x : Bk) : Prop := OkB x.1 x.2.1 x.2.2.1 x.2.2.2
instance (x : Bk) : Decidable (OkX x) := by unfold OkX; infer_instance

theorem rMay14_0 {w : World} {kk ks km ko : Int} (q0 : ¬ 0 ≤ kk) :
    Calls Tryz.prog 10 #[.agg #[.int .i64 kk, .int .i64 ks, .int .i64 km, .int .i64 ko]] w (GotV w (.bool false)) := by
  have t0 : decide (0 ≤ kk) = false := decide_eq_false (by omega)
  clear q0
  have cc := Below.refl w.heap.size w
  go_enter Tryz.func10, Tryz.ntmps10
  go_upto_region 1 with fail
  generalize hv_ : w.alloc (.cells #[.int .i64 kk, .int .i64 ks, .int .i64 km, .int .i64 ko] 23) = v1
  have bA : Below w.heap.size w v1 := by rw [← hv_]; exact ((Below.refl _ w).alloc (by simp) _)
  replace cc := bK cc bA
  clear bA
  have pa0 : v1.cell? ⟨w.heap.size, 0, none⟩ = some (.int .i64 kk) := by simp [← hv_, go_sem]
  have pa1 : v1.cell? ⟨w.heap.size, 1, none⟩ = some (.int .i64 ks) := by simp [← hv_, go_sem]
  have pa2 : v1.cell? ⟨w.heap.size, 2, none⟩ = some (.int .i64 km) := by simp [← hv_, go_sem]
  have pa3 : v1.cell? ⟨w.heap.size, 3, none⟩ = some (.int .i64 ko) := by simp [← hv_, go_sem]
  have pal : w.heap.size < v1.heap.size := by simp [← hv_] <;> omega
  clear hv_
  go_wp2_with fail
  go_ret
  exact ⟨rfl, cc⟩

theorem rMay14_1 {w : World} {kk ks km ko : Int} (q0 : 0 ≤ kk) (q1 : ¬ kk ≤ 3) :
    Calls Tryz.prog 10 #[.agg #[.int .i64 kk, .int .i64 ks, .int .i64 km, .int .i64 ko]] w (GotV w (.bool false)) := by
  have t0 : decide (0 ≤ kk) = true := decide_eq_true (by omega)
  have t1 : decide (kk ≤ 3) = false := decide_eq_false (by omega)
  clear q0 q1
  have cc := Below.refl w.heap.size w
  go_enter Tryz.func10, Tryz.ntmps10
  go_upto_region 1 with fail
  generalize hv_ : w.alloc (.cells #[.int .i64 kk, .int .i64 ks, .int .i64 km, .int .i64 ko] 23) = v1
  have bA : Below w.heap.size w v1 := by rw [← hv_]; exact ((Below.refl _ w).alloc (by simp) _)
  replace cc := bK cc bA
  clear bA
  have pa0 : v1.cell? ⟨w.heap.size, 0, none⟩ = some (.int .i64 kk) := by simp [← hv_, go_sem]
  have pa1 : v1.cell? ⟨w.heap.size, 1, none⟩ = some (.int .i64 ks) := by simp [← hv_, go_sem]
  have pa2 : v1.cell? ⟨w.heap.size, 2, none⟩ = some (.int .i64 km) := by simp [← hv_, go_sem]
  have pa3 : v1.cell? ⟨w.heap.size, 3, none⟩ = some (.int .i64 ko) := by simp [← hv_, go_sem]
  have pal : w.heap.size < v1.heap.size := by simp [← hv_] <;> omega
  clear hv_
  go_wp2_with fail
  go_ret
  exact ⟨rfl, cc⟩

theorem rMay14_2 {w : World} {kk ks km ko : Int} (q0 : 0 ≤ kk) (q1 : kk ≤ 3) (q2 : ¬ 1 ≤ ks) :
    Calls Tryz.prog 10 #[.agg #[.int .i64 kk, .int .i64 ks, .int .i64 km, .int .i64 ko]] w (GotV w (.bool false)) := by
  have t0 : decide (0 ≤ kk) = true := decide_eq_true (by omega)
  have t1 : decide (kk ≤ 3) = true := decide_eq_true (by omega)
  have t2 : decide (1 ≤ ks) = false := decide_eq_false (by omega)
  clear q0 q1 q2
  have cc := Below.refl w.heap.size w
  go_enter Tryz.func10, Tryz.ntmps10
  go_upto_region 1 with fail
  generalize hv_ : w.alloc (.cells #[.int .i64 kk, .int .i64 ks, .int .i64 km, .int .i64 ko] 23) = v1
  have bA : Below w.heap.size w v1 := by rw [← hv_]; exact ((Below.refl _ w).alloc (by simp) _)
  replace cc := bK cc bA
  clear bA
  have pa0 : v1.cell? ⟨w.heap.size, 0, none⟩ = some (.int .i64 kk) := by simp [← hv_, go_sem]
  have pa1 : v1.cell? ⟨w.heap.size, 1, none⟩ = some (.int .i64 ks) := by simp [← hv_, go_sem]
  have pa2 : v1.cell? ⟨w.heap.size, 2, none⟩ = some (.int .i64 km) := by simp [← hv_, go_sem]
  have pa3 : v1.cell? ⟨w.heap.size, 3, none⟩ = some (.int .i64 ko) := by simp [← hv_, go_sem]
  have pal : w.heap.size < v1.heap.size := by simp [← hv_] <;> omega
  clear hv_
  go_wp2_with fail
  go_ret
  exact ⟨rfl, cc⟩

theorem rMay14_3 {w : World} {kk ks km ko : Int} (q0 : 0 ≤ kk) (q1 : kk ≤ 3) (q2 : 1 ≤ ks) (q3 : ¬ ks ≤ 4096) :
    Calls Tryz.prog 10 #[.agg #[.int .i64 kk, .int .i64 ks, .int .i64 km, .int .i64 ko]] w (GotV w (.bool false)) := by
  have t0 : decide (0 ≤ kk) = true := decide_eq_true (by omega)
  have t1 : decide (kk ≤ 3) = true := decide_eq_true (by omega)
  have t2 : decide (1 ≤ ks) = true := decide_eq_true (by omega)
  have t3 : decide (ks ≤ 4096) = false := decide_eq_false (by omega)
  clear q0 q1 q2 q3
  have cc := Below.refl w.heap.size w
  go_enter Tryz.func10, Tryz.ntmps10
  go_upto_region 1 with fail
  generalize hv_ : w.alloc (.cells #[.int .i64 kk, .int .i64 ks, .int .i64 km, .int .i64 ko] 23) = v1
  have bA : Below w.heap.size w v1 := by rw [← hv_]; exact ((Below.refl _ w).alloc (by simp) _)
  replace cc := bK cc bA
  clear bA
  have pa0 : v1.cell? ⟨w.heap.size, 0, none⟩ = some (.int .i64 kk) := by simp [← hv_, go_sem]
  have pa1 : v1.cell? ⟨w.heap.size, 1, none⟩ = some (.int .i64 ks) := by simp [← hv_, go_sem]
  have pa2 : v1.cell? ⟨w.heap.size, 2, none⟩ = some (.int .i64 km) := by simp [← hv_, go_sem]
  have pa3 : v1.cell? ⟨w.heap.size, 3, none⟩ = some (.int .i64 ko) := by simp [← hv_, go_sem]
  have pal : w.heap.size < v1.heap.size := by simp [← hv_] <;> omega
  clear hv_
  go_wp2_with fail
  go_ret
  exact ⟨rfl, cc⟩

theorem rMay14_4 {w : World} {kk ks km ko : Int} (q0 : 0 ≤ kk) (q1 : kk ≤ 3) (q2 : 1 ≤ ks) (q3 : ks ≤ 4096) (q4 : ¬ 0 ≤ km) :
    Calls Tryz.prog 10 #[.agg #[.int .i64 kk, .int .i64 ks, .int .i64 km, .int .i64 ko]] w (GotV w (.bool false)) := by
  have t0 : decide (0 ≤ kk) = true := decide_eq_true (by omega)
  have t1 : decide (kk ≤ 3) = true := decide_eq_true (by omega)
  have t2 : decide (1 ≤ ks) = true := decide_eq_true (by omega)
  have t3 : decide (ks ≤ 4096) = true := decide_eq_true (by omega)
  have t4 : decide (0 ≤ km) = false := decide_eq_false (by omega)
  clear q0 q1 q2 q3 q4
  have cc := Below.refl w.heap.size w
  go_enter Tryz.func10, Tryz.ntmps10
  go_upto_region 1 with fail
  generalize hv_ : w.alloc (.cells #[.int .i64 kk, .int .i64 ks, .int .i64 km, .int .i64 ko] 23) = v1
  have bA : Below w.heap.size w v1 := by rw [← hv_]; exact ((Below.refl _ w).alloc (by simp) _)
  replace cc := bK cc bA
  clear bA
  have pa0 : v1.cell? ⟨w.heap.size, 0, none⟩ = some (.int .i64 kk) := by simp [← hv_, go_sem]
  have pa1 : v1.cell? ⟨w.heap.size, 1, none⟩ = some (.int .i64 ks) := by simp [← hv_, go_sem]
  have pa2 : v1.cell? ⟨w.heap.size, 2, none⟩ = some (.int .i64 km) := by simp [← hv_, go_sem]
  have pa3 : v1.cell? ⟨w.heap.size, 3, none⟩ = some (.int .i64 ko) := by simp [← hv_, go_sem]
  have pal : w.heap.size < v1.heap.size := by simp [← hv_] <;> omega
  clear hv_
  go_wp2_with fail
  go_ret
  exact ⟨rfl, cc⟩

theorem rMay14_5 {w : World} {kk ks km ko : Int} (q0 : 0 ≤ kk) (q1 : kk ≤ 3) (q2 : 1 ≤ ks) (q3 : ks ≤ 4096) (q4 : 0 ≤ km) (q5 : ¬ 0 ≤ ko) :
    Calls Tryz.prog 10 #[.agg #[.int .i64 kk, .int .i64 ks, .int .i64 km, .int .i64 ko]] w (GotV w (.bool false)) := by
  have t0 : decide (0 ≤ kk) = true := decide_eq_true (by omega)
  have t1 : decide (kk ≤ 3) = true := decide_eq_true (by omega)
  have t2 : decide (1 ≤ ks) = true := decide_eq_true (by omega)
  have t3 : decide (ks ≤ 4096) = true := decide_eq_true (by omega)
  have t4 : decide (0 ≤ km) = true := decide_eq_true (by omega)
  have t5 : decide (0 ≤ ko) = false := decide_eq_false (by omega)
  clear q0 q1 q2 q3 q4 q5
  have cc := Below.refl w.heap.size w
  go_enter Tryz.func10, Tryz.ntmps10
  go_upto_region 1 with fail
  generalize hv_ : w.alloc (.cells #[.int .i64 kk, .int .i64 ks, .int .i64 km, .int .i64 ko] 23) = v1
  have bA : Below w.heap.size w v1 := by rw [← hv_]; exact ((Below.refl _ w).alloc (by simp) _)
  replace cc := bK cc bA
  clear bA
  have pa0 : v1.cell? ⟨w.heap.size, 0, none⟩ = some (.int .i64 kk) := by simp [← hv_, go_sem]
  have pa1 : v1.cell? ⟨w.heap.size, 1, none⟩ = some (.int .i64 ks) := by simp [← hv_, go_sem]
  have pa2 : v1.cell? ⟨w.heap.size, 2, none⟩ = some (.int .i64 km) := by simp [← hv_, go_sem]
  have pa3 : v1.cell? ⟨w.heap.size, 3, none⟩ = some (.int .i64 ko) := by simp [← hv_, go_sem]
  have pal : w.heap.size < v1.heap.size := by simp [← hv_] <;> omega
  clear hv_
  go_wp2_with fail
  go_ret
  exact ⟨rfl, cc⟩

theorem rMay14_6 {w : World} {kk ks km ko : Int} (q0 : 0 ≤ kk) (q1 : kk ≤ 3) (q2 : 1 ≤ ks) (q3 : ks ≤ 4096) (q4 : 0 ≤ km) (q5 : 0 ≤ ko) :
    Calls Tryz.prog 10 #[.agg #[.int .i64 kk, .int .i64 ks, .int .i64 km, .int .i64 ko]] w (GotV w (.bool true)) := by
  have t0 : decide (0 ≤ kk) = true := decide_eq_true (by omega)
  have t1 : decide (kk ≤ 3) = true := decide_eq_true (by omega)
  have t2 : decide (1 ≤ ks) = true := decide_eq_true (by omega)
  have t3 : decide (ks ≤ 4096) = true := decide_eq_true (by omega)
  have t4 : decide (0 ≤ km) = true := decide_eq_true (by omega)
  have t5 : decide (0 ≤ ko) = true := decide_eq_true (by omega)
  clear q0 q1 q2 q3 q4 q5
  have cc := Below.refl w.heap.size w
  go_enter Tryz.func10, Tryz.ntmps10
  go_upto_region 1 with fail
  generalize hv_ : w.alloc (.cells #[.int .i64 kk, .int .i64 ks, .int .i64 km, .int .i64 ko] 23) = v1
  have bA : Below w.heap.size w v1 := by rw [← hv_]; exact ((Below.refl _ w).alloc (by simp) _)
  replace cc := bK cc bA
  clear bA
  have pa0 : v1.cell? ⟨w.heap.size, 0, none⟩ = some (.int .i64 kk) := by simp [← hv_, go_sem]
  have pa1 : v1.cell? ⟨w.heap.size, 1, none⟩ = some (.int .i64 ks) := by simp [← hv_, go_sem]
  have pa2 : v1.cell? ⟨w.heap.size, 2, none⟩ = some (.int .i64 km) := by simp [← hv_, go_sem]
  have pa3 : v1.cell? ⟨w.heap.size, 3, none⟩ = some (.int .i64 ko) := by simp [← hv_, go_sem]
  have pal : w.heap.size < v1.heap.size := by simp [← hv_] <;> omega
  clear hv_
  go_wp2_with fail
  go_ret
  exact ⟨rfl, cc⟩

theorem rMay14_N (w : World) {kk ks km ko : Int} : Calls Tryz.prog 10 #[.agg #[.int .i64 kk, .int .i64 ks, .int .i64 km, .int .i64 ko]] w (GotV w (.bool (decide (OkK kk ks km ko)))) := by
  by_cases q0 : 0 ≤ kk
  rotate_left
  · rw [decide_eq_false (fun h => by unfold OkK at h; omega)]; exact rMay14_0 q0
  by_cases q1 : kk ≤ 3
  rotate_left
  · rw [decide_eq_false (fun h => by unfold OkK at h; omega)]; exact rMay14_1 q0 q1
  by_cases q2 : 1 ≤ ks
  rotate_left
  · rw [decide_eq_false (fun h => by unfold OkK at h; omega)]; exact rMay14_2 q0 q1 q2
  by_cases q3 : ks ≤ 4096
  rotate_left
  · rw [decide_eq_false (fun h => by unfold OkK at h; omega)]; exact rMay14_3 q0 q1 q2 q3
  by_cases q4 : 0 ≤ km
  rotate_left
  · rw [decide_eq_false (fun h => by unfold OkK at h; omega)]; exact rMay14_4 q0 q1 q2 q3 q4
  by_cases q5 : 0 ≤ ko
  rotate_left
  · rw [decide_eq_false (fun h => by unfold OkK at h; omega)]; exact rMay14_5 q0 q1 q2 q3 q4 q5
  rw [decide_eq_true (show OkK kk ks km ko from ⟨⟨q0, q1⟩, ⟨q2, q3⟩, q4, q5⟩)]
  exact rMay14_6 q0 q1 q2 q3 q4 q5

theorem rwide14_a {w : World} {kk ks km ko lg g : Int} (q0 : lg < km) :
    Calls Tryz.prog 24 #[.agg #[.int .i64 kk, .int .i64 ks, .int .i64 km, .int .i64 ko], .int .i64 lg, .int .i64 g] w (GotV w (.bool true)) := by
  have t0 : decide (lg < km) = true := decide_eq_true (by omega)
  clear q0
  have cc := Below.refl w.heap.size w
  go_enter Tryz.func24, Tryz.ntmps24
  go_upto_region 1 with fail
  generalize hv_ : w.alloc (.cells #[.int .i64 kk, .int .i64 ks, .int .i64 km, .int .i64 ko] 23) = v1
  have bA : Below w.heap.size w v1 := by rw [← hv_]; exact ((Below.refl _ w).alloc (by simp) _)
  replace cc := bK cc bA
  clear bA
  have pa0 : v1.cell? ⟨w.heap.size, 0, none⟩ = some (.int .i64 kk) := by simp [← hv_, go_sem]
  have pa1 : v1.cell? ⟨w.heap.size, 1, none⟩ = some (.int .i64 ks) := by simp [← hv_, go_sem]
  have pa2 : v1.cell? ⟨w.heap.size, 2, none⟩ = some (.int .i64 km) := by simp [← hv_, go_sem]
  have pa3 : v1.cell? ⟨w.heap.size, 3, none⟩ = some (.int .i64 ko) := by simp [← hv_, go_sem]
  have pal : w.heap.size < v1.heap.size := by simp [← hv_] <;> omega
  clear hv_
  go_wp2_with fail
  go_ret
  exact ⟨rfl, cc⟩

theorem rwide14_b {w : World} {kk ks km ko lg g : Int} (q0 : ¬ lg < km) (q1 : ¬ 0 < ko) :
    Calls Tryz.prog 24 #[.agg #[.int .i64 kk, .int .i64 ks, .int .i64 km, .int .i64 ko], .int .i64 lg, .int .i64 g] w (GotV w (.bool false)) := by
  have t0 : decide (lg < km) = false := decide_eq_false (by omega)
  have t1 : decide (0 < ko) = false := decide_eq_false (by omega)
  clear q0 q1
  have cc := Below.refl w.heap.size w
  go_enter Tryz.func24, Tryz.ntmps24
  go_upto_region 1 with fail
  generalize hv_ : w.alloc (.cells #[.int .i64 kk, .int .i64 ks, .int .i64 km, .int .i64 ko] 23) = v1
  have bA : Below w.heap.size w v1 := by rw [← hv_]; exact ((Below.refl _ w).alloc (by simp) _)
  replace cc := bK cc bA
  clear bA
  have pa0 : v1.cell? ⟨w.heap.size, 0, none⟩ = some (.int .i64 kk) := by simp [← hv_, go_sem]
  have pa1 : v1.cell? ⟨w.heap.size, 1, none⟩ = some (.int .i64 ks) := by simp [← hv_, go_sem]
  have pa2 : v1.cell? ⟨w.heap.size, 2, none⟩ = some (.int .i64 km) := by simp [← hv_, go_sem]
  have pa3 : v1.cell? ⟨w.heap.size, 3, none⟩ = some (.int .i64 ko) := by simp [← hv_, go_sem]
  have pal : w.heap.size < v1.heap.size := by simp [← hv_] <;> omega
  clear hv_
  go_wp2_with fail
  go_ret
  exact ⟨rfl, cc⟩

theorem rwide14_c {w : World} {kk ks km ko lg g : Int} (q0 : ¬ lg < km) (q1 : 0 < ko) (q2 : ¬ ko < g) :
    Calls Tryz.prog 24 #[.agg #[.int .i64 kk, .int .i64 ks, .int .i64 km, .int .i64 ko], .int .i64 lg, .int .i64 g] w (GotV w (.bool false)) := by
  have t0 : decide (lg < km) = false := decide_eq_false (by omega)
  have t1 : decide (0 < ko) = true := decide_eq_true (by omega)
  have t2 : decide (ko < g) = false := decide_eq_false (by omega)
  clear q0 q1 q2
  have cc := Below.refl w.heap.size w
  go_enter Tryz.func24, Tryz.ntmps24
  go_upto_region 1 with fail
  generalize hv_ : w.alloc (.cells #[.int .i64 kk, .int .i64 ks, .int .i64 km, .int .i64 ko] 23) = v1
  have bA : Below w.heap.size w v1 := by rw [← hv_]; exact ((Below.refl _ w).alloc (by simp) _)
  replace cc := bK cc bA
  clear bA
  have pa0 : v1.cell? ⟨w.heap.size, 0, none⟩ = some (.int .i64 kk) := by simp [← hv_, go_sem]
  have pa1 : v1.cell? ⟨w.heap.size, 1, none⟩ = some (.int .i64 ks) := by simp [← hv_, go_sem]
  have pa2 : v1.cell? ⟨w.heap.size, 2, none⟩ = some (.int .i64 km) := by simp [← hv_, go_sem]
  have pa3 : v1.cell? ⟨w.heap.size, 3, none⟩ = some (.int .i64 ko) := by simp [← hv_, go_sem]
  have pal : w.heap.size < v1.heap.size := by simp [← hv_] <;> omega
  clear hv_
  go_wp2_with fail
  go_ret
  exact ⟨rfl, cc⟩

theorem rwide14_d {w : World} {kk ks km ko lg g : Int} (q0 : ¬ lg < km) (q1 : 0 < ko) (q2 : ko < g) :
    Calls Tryz.prog 24 #[.agg #[.int .i64 kk, .int .i64 ks, .int .i64 km, .int .i64 ko], .int .i64 lg, .int .i64 g] w (GotV w (.bool true)) := by
  have t0 : decide (lg < km) = false := decide_eq_false (by omega)
  have t1 : decide (0 < ko) = true := decide_eq_true (by omega)
  have t2 : decide (ko < g) = true := decide_eq_true (by omega)
  clear q0 q1 q2
  have cc := Below.refl w.heap.size w
  go_enter Tryz.func24, Tryz.ntmps24
  go_upto_region 1 with fail
  generalize hv_ : w.alloc (.cells #[.int .i64 kk, .int .i64 ks, .int .i64 km, .int .i64 ko] 23) = v1
  have bA : Below w.heap.size w v1 := by rw [← hv_]; exact ((Below.refl _ w).alloc (by simp) _)
  replace cc := bK cc bA
  clear bA
  have pa0 : v1.cell? ⟨w.heap.size, 0, none⟩ = some (.int .i64 kk) := by simp [← hv_, go_sem]
  have pa1 : v1.cell? ⟨w.heap.size, 1, none⟩ = some (.int .i64 ks) := by simp [← hv_, go_sem]
  have pa2 : v1.cell? ⟨w.heap.size, 2, none⟩ = some (.int .i64 km) := by simp [← hv_, go_sem]
  have pa3 : v1.cell? ⟨w.heap.size, 3, none⟩ = some (.int .i64 ko) := by simp [← hv_, go_sem]
  have pal : w.heap.size < v1.heap.size := by simp [← hv_] <;> omega
  clear hv_
  go_wp2_with fail
  go_ret
  exact ⟨rfl, cc⟩

theorem rwide14_N (w : World) {kk ks km ko lg g : Int} : Calls Tryz.prog 24 #[.agg #[.int .i64 kk, .int .i64 ks, .int .i64 km, .int .i64 ko], .int .i64 lg, .int .i64 g] w (GotV w (.bool (decide (Wd km ko lg g)))) := by
  by_cases q0 : lg < km
  · rw [decide_eq_true (show Wd km ko lg g from .inl q0)]; exact rwide14_a q0
  by_cases q1 : 0 < ko
  · by_cases q2 : ko < g
    · rw [decide_eq_true (show Wd km ko lg g from .inr ⟨q1, q2⟩)]; exact rwide14_d q0 q1 q2
    · rw [decide_eq_false (fun h => by unfold Wd at h; omega)]; exact rwide14_c q0 q1 q2
  · rw [decide_eq_false (fun h => by unfold Wd at h; omega)]; exact rwide14_b q0 q1

end Go.Proofs.YtpidpebgeblenaaGreat

/-
  The contracts of the fourteenth reference: Load.
-/
namespace Go.Proofs.YtpidpebgeblenaaGreat
set_option maxRecDepth 100000
open Go.RowKit
set_option linter.unusedVariables false
set_option linter.unusedSimpArgs false

/-- What the first blocks are loaded as. -/
def ldS (L : List Bk) : Nat → List Int
  | 0 => []
  | i + 1 => ldS L i ++ ldB (L[i]?.getD bk0).1 (L[i]?.getD bk0).2.1 (L[i]?.getD bk0).2.2.1 (L[i]?.getD bk0).2.2.2
theorem ldB_len {k s : Int} {C : List Nat} {W : List Int} (h : OkB k s C W) : (ldB k s C W).length = C.length + W.length ∧ C.length + W.length ≤ 4096 := by
  unfold ldB
  rcases h with ⟨hk, h1, h2, _⟩ | ⟨hk, h1, _, _, h2⟩
  · rw [if_neg (by unfold Kind9 at hk; omega), h2, List.length_map]; subst h2; simp at h1 ⊢; exact h1
  · rw [if_pos hk, h2]; subst h2; simp at h1 ⊢; exact h1
theorem ldS_len {L : List Bk} (h : ∀ j, j < L.length → OkX (L[j]?.getD bk0)) : ∀ i, i ≤ L.length → (ldS L i).length ≤ 4096 * i
  | 0, _ => by simp [ldS]
  | i + 1, hi => by
    have ih := ldS_len h i (by omega)
    have h1 := ldB_len (h i (by omega))
    unfold ldS
    rw [List.length_append]; omega
theorem rLoad14_N {w : World} {k s : Int} {A B : Option Addr} {n c m d : Nat} {C : List Nat} {W : List Int} (hC : BR w A n c C) (hW : IR w B m d W) (ho : OkB k s C W) (hs : I64 s) : Calls Tryz.prog 33 #[.agg #[.int .i64 k, .int .i64 s, .slice A n c, .slice B m d]] w (GotI w (ldB k s C W)) := by
  unfold ldB
  rcases ho with ⟨hk, h1, h2, h3⟩ | ⟨hk, h1, _, h3, h2⟩
  · have h0 : 0 ≤ s := by rcases h3 with h | h; rw [h.1]; exact Int.le_refl _; exact Int.le_of_lt h.1
    rw [if_neg (by unfold Kind9 at hk; omega)]
    exact rLoad_c hk h0 hs hC (by have := hC.1; omega)
  · rw [if_pos hk]
    rcases Nat.eq_zero_or_pos m with e | e
    · exact rLoad_none hk hW e (by omega)
    · exact rLoad_some hk hW e (by have := hW.1; omega)
theorem ir_news {w W : World} {b off n c : Nat} {l : List Int} (h : IR w (some ⟨b, off, none⟩) n c l) (hb : Below w.heap.size w W) : ∀ j u, (l.map encI)[j]? = some u → W.cell? ((⟨b, off, none⟩ : Addr).add j) = some u := by
  intro j u e
  rw [List.getElem?_map] at e
  rcases hj : l[j]? with _ | z
  · rw [hj] at e; cases e
  · rw [hj] at e; injection e with e
    have hlt : j < l.length := (List.getElem?_eq_some_iff.1 hj).1
    have h1 := (h.on hb).cell (j := j) (by rw [h.1]; exact hlt)
    rw [hj] at h1
    rw [← e, addr_add]
    exact h1

set_option maxHeartbeats 8000000 in
theorem rLoadS_N {w : World} {kk ks km ko lg : Int} {A : Option Addr} {n c : Nat} {L : List Bk} (hA : KR w A n c L) (hn : n ≤ 5000) (hok : ∀ j, j < n → OkX (L[j]?.getD bk0)) :
    Calls Tryz.prog 18 #[.agg #[.int .i64 kk, .int .i64 ks, .int .i64 km, .int .i64 ko, .int .i64 lg, .slice A n c]] w (GotI w (ldS L n)) := by
  obtain ⟨i0, hi, hz0, hz1, hz2⟩ := info_parts infoI
  have HOK := Lib.hid hok
  have HLS := Lib.hid (ldS_len (by rw [← hA.1]; exact hok))
  have HN := Lib.hid hn
  have HLN := Lib.hid hA.1
  obtain ⟨S, eS⟩ : ∃ S, ldS L = S := ⟨_, rfl⟩
  rw [eS] at HLS ⊢
  have HES := Lib.hid eS
  clear hn hok eS
  have cc := Below.refl w.heap.size w
  go_enter Tryz.func18, Tryz.ntmps18
  go_upto_region 1 with fail
  generalize hv_ : w.alloc (.cells #[.int .i64 kk, .int .i64 ks, .int .i64 km, .int .i64 ko, .int .i64 lg, .slice A n c] 26) = v1
  have bA : Below w.heap.size w v1 := by rw [← hv_]; exact ((Below.refl _ w).alloc (by simp) _)
  replace hA := hA.on bA
  replace cc := bK cc bA
  clear bA
  obtain ⟨pa0, pa1, pa2, pa3, pa4, pa5⟩ : Cs6 v1 w.heap.size (.int .i64 kk) (.int .i64 ks) (.int .i64 km) (.int .i64 ko) (.int .i64 lg) (.slice A n c) := by simp [Cs6, ← hv_, go_sem]
  have pal : w.heap.size < v1.heap.size := by simp [← hv_] <;> omega
  clear hv_
  have PA5 := Lib.hid pa5
  have PAL := Lib.hid pal
  have HAV := Lib.hid hA
  have CCV := Lib.hid cc
  obtain ⟨t, ht⟩ : ∃ t, v1.heap.size = t := ⟨_, rfl⟩
  have HT := Lib.hid ht
  have hown : (v1.alloc (.cells #[] 2)).ownsRow t 2 1 (.slice (some ⟨v1.heap.size, 0, none⟩) 0 0) 0 ([] : List Value) := World.ownsRow_lit v1 #[] 0 (by omega) (by unfold maxLen; omega) rfl
  have HO0 := Lib.hid hown
  clear pa0 pa1 pa2 pa3 pa4 pa5 pal hA cc ht hown
  go_wp2_with fail
  go_loopw [3, 4] (fun ov iv wr => ∃ i : Nat, i ≤ n ∧ iv = .int .i64 (i : Int) ∧ Grown t v1 wr ov (S i)) (fun _ iv _ => n - (intOf iv).toNat)
  case atStart => exact ⟨0, by omega, rfl, v1.heap.size, 0, 0, rfl, by rw [← HES.out]; exact HO0.out, (Below.refl t v1).alloc (by have := HT.out; omega) _, by simp; have := HT.out; omega⟩
  case round =>
    obtain ⟨i, hi_, rfl, g, cap, N, rfl, hO, hbl, hts⟩ := hrel
    have hbV : Below v1.heap.size v1 wr := by rw [HT.out]; exact hbl
    have pa5 := (hbV.cell (p := ⟨w.heap.size, 5, none⟩) PAL.out).trans PA5.out
    have cc := CCV.out.trans (hbV.mono CCV.out.size)
    have hNl := own_len hO
    by_cases hlt : i < n
    · obtain ⟨bb, off, rfl, hb⟩ := HAV.out.some (by omega)
      obtain ⟨A1, n1, c1, B1, m1, d1, h0, h1, h2, h3, hC, hW, hn1, hm1, hs1, hz1_⟩ := kr_at (HAV.out.on hbV) hlt
      have hok1 := HOK.out i hlt
      have hS : S (i + 1) = S i ++ ldB (L[i]?.getD bk0).1 (L[i]?.getD bk0).2.1 (L[i]?.getD bk0).2.2.1 (L[i]?.getD bk0).2.2.2 := by rw [← HES.out]; rfl
      have CL := rLoad14_N hC hW hok1 hs1
      have hl1 := (ldB_len hok1)
      have hNb : N ≤ 4096 * i := by rw [hNl]; exact HLS.out i (by rw [← HLN.out]; omega)
      obtain ⟨z1, e1⟩ : ∃ z, (L[i]?.getD bk0).1 = z := ⟨_, rfl⟩
      obtain ⟨z2, e2⟩ : ∃ z, (L[i]?.getD bk0).2.1 = z := ⟨_, rfl⟩
      rw [e1] at h0 CL hS hl1
      rw [e2] at h1 CL hS hl1
      obtain ⟨Y, eY⟩ : ∃ Y, ldB z1 z2 (L[i]?.getD bk0).2.2.1 (L[i]?.getD bk0).2.2.2 = Y := ⟨_, rfl⟩
      rw [eY] at CL hS hl1
      have hYl : Y.length ≤ 4096 := by omega
      have HS := Lib.hid hS
      have k3 : IntKind.i64.wrap ((i : Int) + 1) = ((i + 1 : Nat) : Int) := by rw [IntWalk.i64_in _ (by have := HN.out; omega)]; omega
      have jl : (i : Int) < (n : Int) := by omega
      have hgt := (hO.lt g rfl).1
      have hN2 : N + Y.length ≤ 100000000 := by have := HN.out; omega
      have HO := Lib.hid hO
      have HBL := Lib.hid hbl
      have HNL := Lib.hid hNl
      have hNc : N ≤ cap := (IR.of_own hO).2.1
      clear e1 e2 hC hW hn1 hm1 hs1 hz1_ hok1 hl1 hS eY hNb hO hbl hNl
      generalize S i = Si at *
      go_wp2_with fail
      refine CL.mono ?_
      rintro e w9 ⟨Ay, ny, cy, rfl, hy, b⟩
      have hnyl : ny = Y.length := hy.1
      have hb9 : Below t wr w9 := b.mono hts
      have hO9 := ownsRow_below HO.out b
      have h19 := HBL.out.trans (b.mono hts)
      have hts9 : t ≤ w9.heap.size := Nat.le_trans hts b.size
      rcases Nat.eq_zero_or_pos ny with h0y | h0y
      · have hY0 : Y = [] := List.eq_nil_of_length_eq_zero (by omega)
        subst h0y
        have HG : Hid (Grown t v1 w9 (.slice (some ⟨g, 0, none⟩) N cap) (S (i + 1))) := Lib.hid ⟨g, cap, N, rfl, by rw [HS.out, hY0, List.append_nil]; exact hO9, h19, hts9⟩
        clear hO9 hy hY0 hnyl
        go_wp2_with (at_builtin; refine wpList_append_zero _ rfl _ _ 34 rfl 2 i0 Tryz.underlying34 hi _ _ _ _ _ rfl rfl hNc ?_)
        go_roundw
        case rel => exact ⟨i + 1, by omega, by go_num, HG.out⟩
        case measure => simp [intOf] <;> omega
      · obtain ⟨b3, o3, rfl, hb3⟩ := hy.some h0y
        have HNW := Lib.hid (ir_news hy (Below.refl _ _))
        have HL : Hid ((Y.map encI).length = ny * 1) := Lib.hid (by rw [List.length_map]; omega)
        have HO9 := Lib.hid hO9
        have hny2 : N + ny ≤ 100000000 := by omega
        clear hO9 hy hnyl hN2 hYl
        go_wp2_with (at_builtin; refine wpList_append_lies _ rfl _ _ 34 rfl t 2 i0 (.int .i64 0) 1 8 Tryz.underlying34 hi hz0 hz1 hz2 rfl (by decide) _ N (Si.map encI) rfl HO9.out ⟨b3, o3, none⟩ ny cy (Y.map encI) rfl HL.out HNW.out (fun u hu => by obtain ⟨x, _, rfl⟩ := List.mem_map.1 hu; rfl) (by omega) (by unfold maxLen; omega) (by omega) (by omega) _ rfl ?_; intro g4 cap4 w4 hown4 hgrow4 hat4 hlt4)
        have b4 : Below t v1 w4 := h19.grown hgrow4 hts9 (fun q e => by injection (show some g = some q from e) with e1; omega)
        rw [← List.map_append] at hown4
        have hts4 : t ≤ w4.heap.size := Nat.le_trans hts9 hgrow4.size
        go_roundw
        case rel => exact ⟨i + 1, by omega, by go_num, g4, cap4, _, rfl, by rw [HS.out]; exact hown4, b4, hts4⟩
        case measure => simp [intOf] <;> omega
    · obtain rfl : i = n := by omega
      have hG := IR.of_own hO
      go_wp2_with fail
      go_ret
      exact ⟨_, _, _, rfl, hG, cc⟩

end Go.Proofs.YtpidpebgeblenaaGreat
