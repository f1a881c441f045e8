/-
  The contracts of the eleventh reference: Few, Len; Same of rows.
-/
import Derived.Test.YtpephogadljncaaA6
import Derived.Test.YtpephogadljncaaA7
namespace Go.Proofs.Ytpephogadljncaa
set_option maxRecDepth 100000
set_option maxHeartbeats 8000000
open Go.RowKit
set_option linter.unusedVariables false
set_option linter.unusedSimpArgs false



theorem rsame9_len (w : World) {A B : Option Addr} {n c m d : Nat} (h : n ≠ m) :
    Calls Try.prog 14 #[.slice A n c, .slice B m d] w (GotV w (.bool false)) := by
  have e1 : ((n : Int) == (m : Int)) = false := beq_eq_false_iff_ne.2 (by omega)
  have e2 : ((n : Int) != (m : Int)) = true := by simp; omega
  have e3 : (n == m) = false := beq_eq_false_iff_ne.2 h
  have e4 : (n != m) = true := by simp; omega
  clear h
  have cc := Below.refl w.heap.size w
  go_enter Try.func14, Try.ntmps14
  go_wp2_with fail
  go_wp2_with fail
  go_ret
  exact ⟨rfl, cc⟩

theorem rsame9_eq {w : World} {A B : Option Addr} {n c d : Nat} {L K : List Int} (hA : IR w A n c L) (hB : IR w B n d K) (hn : n ≤ 9223372036854775807) :
    Calls Try.prog 14 #[.slice A n c, .slice B n d] w (GotV w (.bool (decide (L = K)))) := by
  have hl : n = L.length := hA.1
  have hl2 : n = K.length := hB.1
  obtain ⟨r, hr⟩ : ∃ r, decide (L = K) = r := ⟨_, rfl⟩
  rw [hr]
  have cc := Below.refl w.heap.size w
  go_enter Try.func14, Try.ntmps14
  go_wp2_with fail
  go_wp2_with fail
  go_loopw [5] (fun iv wr => ∃ i : Nat, i ≤ n ∧ iv = .int .i64 (i : Int) ∧ (∀ j, j < i → L[j]?.getD 0 = K[j]?.getD 0) ∧ Below w.heap.size w wr) (fun iv _ => n - (intOf iv).toNat)
  case atStart => exact ⟨0, by omega, rfl, fun j h => absurd h (by omega), Below.refl _ _⟩
  case round =>
    obtain ⟨i, hi, rfl, hj, hbl⟩ := hrel
    by_cases hlt : i < n
    · obtain ⟨b1, o1, rfl, hb1, hc1⟩ := (hA.on hbl).2.2 (by omega)
      obtain ⟨b2, o2, rfl, hb2, hc2⟩ := (hB.on hbl).2.2 (by omega)
      have h1 := hc1 i hlt
      have h2 := hc2 i hlt
      have k3 : IntKind.i64.wrap ((i : Int) + 1) = ((i + 1 : Nat) : Int) := by rw [IntWalk.i64_in _ (by omega)]; omega
      clear hc1 hc2
      obtain ⟨x, hx⟩ : ∃ x, L[i]?.getD 0 = x := ⟨_, rfl⟩
      obtain ⟨y, hy⟩ : ∃ y, K[i]?.getD 0 = y := ⟨_, rfl⟩
      rw [hx] at h1
      rw [hy] at h2
      by_cases hxy : x = y
      · have t1 : (x == y) = true := beq_iff_eq.2 hxy
        have t2 : (x != y) = false := by simp; exact hxy
        have HJ : Hid (∀ j, j < i + 1 → L[j]?.getD 0 = K[j]?.getD 0) := Lib.hid (fun j h => by
          rcases Nat.lt_or_ge j i with e | e
          · exact hj j e
          · have e2 : j = i := by omega
            rw [e2, hx, hy]; exact hxy)
        clear hj hx hy hl hl2 hr hxy
        go_wp2_with fail
        go_region_held3 (fun w' => w'.cell? ⟨b1, o1 + i, none⟩ = some (.int .i64 x) ∧ w'.cell? ⟨b2, o2 + i, none⟩ = some (.int .i64 y)) (exact ⟨h1, h2⟩) (fail)
        go_wp2_with fail
        go_roundw
        case rel => exact ⟨i + 1, by omega, rfl, HJ.out, below_drewN hbl 1⟩
        case measure => simp [intOf] <;> omega
      · have t1 : (x == y) = false := beq_eq_false_iff_ne.2 hxy
        have t2 : (x != y) = true := by simp; exact hxy
        have hF : r = false := by rw [← hr]; exact decide_eq_false (fun h => hxy (by rw [← hx, ← hy, h]))
        subst hF
        clear hj hx hy hl hl2 hr hxy
        go_wp2_with fail
        go_region_held3 (fun w' => w'.cell? ⟨b1, o1 + i, none⟩ = some (.int .i64 x) ∧ w'.cell? ⟨b2, o2 + i, none⟩ = some (.int .i64 y)) (exact ⟨h1, h2⟩) (fail)
        go_wp2_with fail
        go_ret
        exact ⟨rfl, below_drewN hbl 1⟩
    · obtain rfl : i = n := by omega
      have hT : r = true := by
        rw [← hr]; refine decide_eq_true (List.ext_getElem (by omega) fun j h1 h2 => ?_)
        have := hj j (by omega)
        rwa [List.getElem?_eq_getElem h1, List.getElem?_eq_getElem h2] at this
      subst hT
      clear hj hl hl2 hr
      go_wp2_with fail
      go_ret
      exact ⟨rfl, hbl⟩

theorem rsame9_any {w : World} {A B : Option Addr} {n c m d : Nat} {L K : List Int} (hA : IR w A n c L) (hB : IR w B m d K) (hn : n ≤ 9223372036854775807) : Calls Try.prog 14 #[.slice A n c, .slice B m d] w (GotV w (.bool (decide (L = K)))) := by
  by_cases h : n = m
  · subst h; exact rsame9_eq hA hB hn
  · rw [decide_eq_false (fun e => h (by rw [hA.1, hB.1, e]))]; exact rsame9_len w h

end Go.Proofs.Ytpephogadljncaa
