/-
  Several texts in one: J11c, C11, J11d.
-/
import Derived.Test.YtlmcpgahjfepjaaA6
import Derived.Test.YtlmcpgahjfepjaaA5

/-
  The contracts of the landed block: Len, Same.
-/
namespace Go.Proofs.Ytlmcpgahjfepjaa
set_option maxRecDepth 100000
open Go.RowKit
set_option linter.unusedVariables false
set_option linter.unusedSimpArgs false

set_option maxRecDepth 100000 in
set_option maxHeartbeats 8000000 in
theorem bkLen_N (w : World) {k s : Int} {A B : Option Addr} {n c m d : Nat} (hn : n ≤ 9223372036854775807) (hm : m ≤ 9223372036854775807) :
    Calls Try.prog 23 #[.agg #[.int .i64 k, .int .i64 s, .slice A n c, .slice B m d]] w (GotV w (.int .i64 (IntKind.i64.wrap ((n : Int) + (m : Int))))) := by
  obtain ⟨q, hq⟩ : ∃ q, IntKind.i64.wrap ((n : Int) + (m : Int)) = q := ⟨_, rfl⟩
  rw [hq]
  have cc := Below.refl w.heap.size w
  go_enter Try.func23, Try.ntmps23
  go_wp2_with fail
  have bA : Below w.heap.size w (w.alloc (.cells #[.int .i64 k, .int .i64 s, .slice A n c, .slice B m d] 26)) := ((Below.refl _ w).alloc (by simp) _)
  replace cc := cc.trans (bA.mono cc.size)
  clear bA
  have ka0 : (w.alloc (.cells #[.int .i64 k, .int .i64 s, .slice A n c, .slice B m d] 26)).cell? ⟨w.heap.size, 0, none⟩ = some (.int .i64 k) := by simp [go_sem]
  have ka1 : (w.alloc (.cells #[.int .i64 k, .int .i64 s, .slice A n c, .slice B m d] 26)).cell? ⟨w.heap.size, 1, none⟩ = some (.int .i64 s) := by simp [go_sem]
  have ka2 : (w.alloc (.cells #[.int .i64 k, .int .i64 s, .slice A n c, .slice B m d] 26)).cell? ⟨w.heap.size, 2, none⟩ = some (.slice A n c) := by simp [go_sem]
  have ka3 : (w.alloc (.cells #[.int .i64 k, .int .i64 s, .slice A n c, .slice B m d] 26)).cell? ⟨w.heap.size, 3, none⟩ = some (.slice B m d) := by simp [go_sem]
  have kal : w.heap.size < (w.alloc (.cells #[.int .i64 k, .int .i64 s, .slice A n c, .slice B m d] 26)).heap.size := by simp <;> omega
  generalize w.alloc (.cells #[.int .i64 k, .int .i64 s, .slice A n c, .slice B m d] 26) = v1 at *
  go_wp2_with fail
  go_ret
  exact ⟨rfl, cc⟩

set_option maxRecDepth 100000 in
set_option maxHeartbeats 8000000 in
theorem bkieq_len (w : World) {A B : Option Addr} {n c m d : Nat} (h : n ≠ m) :
    Calls Try.prog 38 #[.slice A n c, .slice B m d] w (GotV w (.bool false)) := by
  have e1 : ((n : Int) == (m : Int)) = false := beq_eq_false_iff_ne.2 (by omega)
  have e2 : ((n : Int) != (m : Int)) = true := by simp; omega
  have e3 : (n == m) = false := beq_eq_false_iff_ne.2 h
  have e4 : (n != m) = true := by simp; omega
  clear h
  have cc := Below.refl w.heap.size w
  go_enter Try.func38, Try.ntmps38
  go_wp2_with fail
  go_wp2_with fail
  go_ret
  exact ⟨rfl, cc⟩

set_option maxRecDepth 100000 in
set_option maxHeartbeats 8000000 in
theorem bkieq_eq {w : World} {A B : Option Addr} {n c d : Nat} {L K : List Int} (hA : IR w A n c L) (hB : IR w B n d K) (hn : n ≤ 9223372036854775807) :
    Calls Try.prog 38 #[.slice A n c, .slice B n d] w (GotV w (.bool (decide (L = K)))) := by
  have HL : Hid (n = L.length) := Lib.hid hA.1
  have HL2 : Hid (n = K.length) := Lib.hid hB.1
  obtain ⟨r, hr⟩ : ∃ r, decide (L = K) = r := ⟨_, rfl⟩
  rw [hr]
  have HR := Lib.hid hr
  clear hr
  have cc := Below.refl w.heap.size w
  go_enter Try.func38, Try.ntmps38
  go_wp2_with fail
  go_wp2_with fail
  go_loopw [13] (fun iv wr => ∃ i : Nat, i ≤ n ∧ iv = .int .i64 (i : Int) ∧ (∀ j, j < i → L[j]?.getD 0 = K[j]?.getD 0) ∧ Below w.heap.size w wr) (fun iv _ => n - (intOf iv).toNat)
  case atStart => exact ⟨0, by omega, rfl, fun j h => absurd h (by omega), Below.refl _ _⟩
  case round =>
    obtain ⟨i, hi, rfl, hj, hbl⟩ := hrel
    by_cases hlt : i < n
    · obtain ⟨b1, o1, rfl, hb1, hc1⟩ := (hA.on hbl).2.2 (by omega)
      obtain ⟨b2, o2, rfl, hb2, hc2⟩ := (hB.on hbl).2.2 (by omega)
      have h1 := hc1 i hlt
      have h2 := hc2 i hlt
      have k3 : IntKind.i64.wrap ((i : Int) + 1) = ((i + 1 : Nat) : Int) := by rw [IntWalk.i64_in _ (by omega)]; omega
      clear hc1 hc2
      obtain ⟨x, hx⟩ : ∃ x, L[i]?.getD 0 = x := ⟨_, rfl⟩
      obtain ⟨y, hy⟩ : ∃ y, K[i]?.getD 0 = y := ⟨_, rfl⟩
      rw [hx] at h1
      rw [hy] at h2
      by_cases hxy : x = y
      · have t1 : (x == y) = true := beq_iff_eq.2 hxy
        have t2 : (x != y) = false := by simp; exact hxy
        have HJ : Hid (∀ j, j < i + 1 → L[j]?.getD 0 = K[j]?.getD 0) := Lib.hid (fun j h => by
          rcases Nat.lt_or_ge j i with e | e
          · exact hj j e
          · have e2 : j = i := by omega
            rw [e2, hx, hy]; exact hxy)
        clear hj hx hy hxy
        go_wp2_with fail
        go_region_held3 (fun w' => w'.cell? ⟨b1, o1 + i, none⟩ = some (.int .i64 x) ∧ w'.cell? ⟨b2, o2 + i, none⟩ = some (.int .i64 y)) (exact ⟨h1, h2⟩) (fail)
        go_wp2_with fail
        go_roundw
        case rel => exact ⟨i + 1, by omega, rfl, HJ.out, below_drewN hbl 1⟩
        case measure => simp [intOf] <;> omega
      · have t1 : (x == y) = false := beq_eq_false_iff_ne.2 hxy
        have t2 : (x != y) = true := by simp; exact hxy
        have hF : r = false := by rw [← HR.out]; exact decide_eq_false (fun h => hxy (by rw [← hx, ← hy, h]))
        subst hF
        clear hj hx hy hxy
        go_wp2_with fail
        go_region_held3 (fun w' => w'.cell? ⟨b1, o1 + i, none⟩ = some (.int .i64 x) ∧ w'.cell? ⟨b2, o2 + i, none⟩ = some (.int .i64 y)) (exact ⟨h1, h2⟩) (fail)
        go_wp2_with fail
        go_ret
        exact ⟨rfl, below_drewN hbl 1⟩
    · obtain rfl : i = n := by omega
      have hT : r = true := by
        have hl := HL.out
        have hl2 := HL2.out
        rw [← HR.out]; refine decide_eq_true (List.ext_getElem (by omega) fun j h1 h2 => ?_)
        have := hj j (by omega)
        rwa [List.getElem?_eq_getElem h1, List.getElem?_eq_getElem h2] at this
      subst hT
      clear hj
      go_wp2_with fail
      go_ret
      exact ⟨rfl, hbl⟩

theorem bkieq_N {w : World} {A B : Option Addr} {n c m d : Nat} {L K : List Int} (hA : IR w A n c L) (hB : IR w B m d K) (hn : n ≤ 9223372036854775807) : Calls Try.prog 38 #[.slice A n c, .slice B m d] w (GotV w (.bool (decide (L = K)))) := by
  by_cases h : n = m
  · subst h; exact bkieq_eq hA hB hn
  · rw [decide_eq_false (fun e => h (by rw [hA.1, hB.1, e]))]; exact bkieq_len w h

set_option maxRecDepth 100000 in
set_option maxHeartbeats 8000000 in
theorem bkSame_k {w : World} {ka sa : Int} {Aa Ba : Option Addr} {na ca ma da : Nat} {kb sb : Int} {Ab Bb : Option Addr} {nb cb mb db : Nat} (h : ka ≠ kb) :
    Calls Try.prog 25 #[.agg #[.int .i64 ka, .int .i64 sa, .slice Aa na ca, .slice Ba ma da], .agg #[.int .i64 kb, .int .i64 sb, .slice Ab nb cb, .slice Bb mb db]] w (GotV w (.bool false)) := by
  have t0 : (ka == kb) = false := beq_eq_false_iff_ne.2 h
  clear h
  have cc := Below.refl w.heap.size w
  go_enter Try.func25, Try.ntmps25
  go_wp2_with fail
  have bA : Below w.heap.size w ((w.alloc (.cells #[.int .i64 ka, .int .i64 sa, .slice Aa na ca, .slice Ba ma da] 26)).alloc (.cells #[.int .i64 kb, .int .i64 sb, .slice Ab nb cb, .slice Bb mb db] 26)) := (((Below.refl _ w).alloc (by simp) _).alloc (by simp) _)
  replace cc := cc.trans (bA.mono cc.size)
  clear bA
  have xa0 : ((w.alloc (.cells #[.int .i64 ka, .int .i64 sa, .slice Aa na ca, .slice Ba ma da] 26)).alloc (.cells #[.int .i64 kb, .int .i64 sb, .slice Ab nb cb, .slice Bb mb db] 26)).cell? ⟨w.heap.size, 0, none⟩ = some (.int .i64 ka) := by simp [go_sem]
  have xa1 : ((w.alloc (.cells #[.int .i64 ka, .int .i64 sa, .slice Aa na ca, .slice Ba ma da] 26)).alloc (.cells #[.int .i64 kb, .int .i64 sb, .slice Ab nb cb, .slice Bb mb db] 26)).cell? ⟨w.heap.size, 1, none⟩ = some (.int .i64 sa) := by simp [go_sem]
  have xa2 : ((w.alloc (.cells #[.int .i64 ka, .int .i64 sa, .slice Aa na ca, .slice Ba ma da] 26)).alloc (.cells #[.int .i64 kb, .int .i64 sb, .slice Ab nb cb, .slice Bb mb db] 26)).cell? ⟨w.heap.size, 2, none⟩ = some (.slice Aa na ca) := by simp [go_sem]
  have xa3 : ((w.alloc (.cells #[.int .i64 ka, .int .i64 sa, .slice Aa na ca, .slice Ba ma da] 26)).alloc (.cells #[.int .i64 kb, .int .i64 sb, .slice Ab nb cb, .slice Bb mb db] 26)).cell? ⟨w.heap.size, 3, none⟩ = some (.slice Ba ma da) := by simp [go_sem]
  have xal : w.heap.size < ((w.alloc (.cells #[.int .i64 ka, .int .i64 sa, .slice Aa na ca, .slice Ba ma da] 26)).alloc (.cells #[.int .i64 kb, .int .i64 sb, .slice Ab nb cb, .slice Bb mb db] 26)).heap.size := by simp <;> omega
  have xb0 : ((w.alloc (.cells #[.int .i64 ka, .int .i64 sa, .slice Aa na ca, .slice Ba ma da] 26)).alloc (.cells #[.int .i64 kb, .int .i64 sb, .slice Ab nb cb, .slice Bb mb db] 26)).cell? ⟨w.heap.size + 1, 0, none⟩ = some (.int .i64 kb) := by simp [go_sem]
  have xb1 : ((w.alloc (.cells #[.int .i64 ka, .int .i64 sa, .slice Aa na ca, .slice Ba ma da] 26)).alloc (.cells #[.int .i64 kb, .int .i64 sb, .slice Ab nb cb, .slice Bb mb db] 26)).cell? ⟨w.heap.size + 1, 1, none⟩ = some (.int .i64 sb) := by simp [go_sem]
  have xb2 : ((w.alloc (.cells #[.int .i64 ka, .int .i64 sa, .slice Aa na ca, .slice Ba ma da] 26)).alloc (.cells #[.int .i64 kb, .int .i64 sb, .slice Ab nb cb, .slice Bb mb db] 26)).cell? ⟨w.heap.size + 1, 2, none⟩ = some (.slice Ab nb cb) := by simp [go_sem]
  have xb3 : ((w.alloc (.cells #[.int .i64 ka, .int .i64 sa, .slice Aa na ca, .slice Ba ma da] 26)).alloc (.cells #[.int .i64 kb, .int .i64 sb, .slice Ab nb cb, .slice Bb mb db] 26)).cell? ⟨w.heap.size + 1, 3, none⟩ = some (.slice Bb mb db) := by simp [go_sem]
  have xbl : w.heap.size + 1 < ((w.alloc (.cells #[.int .i64 ka, .int .i64 sa, .slice Aa na ca, .slice Ba ma da] 26)).alloc (.cells #[.int .i64 kb, .int .i64 sb, .slice Ab nb cb, .slice Bb mb db] 26)).heap.size := by simp <;> omega
  generalize (w.alloc (.cells #[.int .i64 ka, .int .i64 sa, .slice Aa na ca, .slice Ba ma da] 26)).alloc (.cells #[.int .i64 kb, .int .i64 sb, .slice Ab nb cb, .slice Bb mb db] 26) = v1 at *
  go_wp2_with fail
  go_ret
  exact ⟨rfl, cc⟩

set_option maxRecDepth 100000 in
set_option maxHeartbeats 8000000 in
theorem bkSame_s {w : World} {ka sa : Int} {Aa Ba : Option Addr} {na ca ma da : Nat} {kb sb : Int} {Ab Bb : Option Addr} {nb cb mb db : Nat} (h : ka = kb) (h2 : sa ≠ sb) :
    Calls Try.prog 25 #[.agg #[.int .i64 ka, .int .i64 sa, .slice Aa na ca, .slice Ba ma da], .agg #[.int .i64 kb, .int .i64 sb, .slice Ab nb cb, .slice Bb mb db]] w (GotV w (.bool false)) := by
  have tk : (ka == kb) = true := beq_iff_eq.2 h
  clear h
  have t0 : (sa == sb) = false := beq_eq_false_iff_ne.2 h2
  clear h2
  have cc := Below.refl w.heap.size w
  go_enter Try.func25, Try.ntmps25
  go_wp2_with fail
  have bA : Below w.heap.size w ((w.alloc (.cells #[.int .i64 ka, .int .i64 sa, .slice Aa na ca, .slice Ba ma da] 26)).alloc (.cells #[.int .i64 kb, .int .i64 sb, .slice Ab nb cb, .slice Bb mb db] 26)) := (((Below.refl _ w).alloc (by simp) _).alloc (by simp) _)
  replace cc := cc.trans (bA.mono cc.size)
  clear bA
  have xa0 : ((w.alloc (.cells #[.int .i64 ka, .int .i64 sa, .slice Aa na ca, .slice Ba ma da] 26)).alloc (.cells #[.int .i64 kb, .int .i64 sb, .slice Ab nb cb, .slice Bb mb db] 26)).cell? ⟨w.heap.size, 0, none⟩ = some (.int .i64 ka) := by simp [go_sem]
  have xa1 : ((w.alloc (.cells #[.int .i64 ka, .int .i64 sa, .slice Aa na ca, .slice Ba ma da] 26)).alloc (.cells #[.int .i64 kb, .int .i64 sb, .slice Ab nb cb, .slice Bb mb db] 26)).cell? ⟨w.heap.size, 1, none⟩ = some (.int .i64 sa) := by simp [go_sem]
  have xa2 : ((w.alloc (.cells #[.int .i64 ka, .int .i64 sa, .slice Aa na ca, .slice Ba ma da] 26)).alloc (.cells #[.int .i64 kb, .int .i64 sb, .slice Ab nb cb, .slice Bb mb db] 26)).cell? ⟨w.heap.size, 2, none⟩ = some (.slice Aa na ca) := by simp [go_sem]
  have xa3 : ((w.alloc (.cells #[.int .i64 ka, .int .i64 sa, .slice Aa na ca, .slice Ba ma da] 26)).alloc (.cells #[.int .i64 kb, .int .i64 sb, .slice Ab nb cb, .slice Bb mb db] 26)).cell? ⟨w.heap.size, 3, none⟩ = some (.slice Ba ma da) := by simp [go_sem]
  have xal : w.heap.size < ((w.alloc (.cells #[.int .i64 ka, .int .i64 sa, .slice Aa na ca, .slice Ba ma da] 26)).alloc (.cells #[.int .i64 kb, .int .i64 sb, .slice Ab nb cb, .slice Bb mb db] 26)).heap.size := by simp <;> omega
  have xb0 : ((w.alloc (.cells #[.int .i64 ka, .int .i64 sa, .slice Aa na ca, .slice Ba ma da] 26)).alloc (.cells #[.int .i64 kb, .int .i64 sb, .slice Ab nb cb, .slice Bb mb db] 26)).cell? ⟨w.heap.size + 1, 0, none⟩ = some (.int .i64 kb) := by simp [go_sem]
  have xb1 : ((w.alloc (.cells #[.int .i64 ka, .int .i64 sa, .slice Aa na ca, .slice Ba ma da] 26)).alloc (.cells #[.int .i64 kb, .int .i64 sb, .slice Ab nb cb, .slice Bb mb db] 26)).cell? ⟨w.heap.size + 1, 1, none⟩ = some (.int .i64 sb) := by simp [go_sem]
  have xb2 : ((w.alloc (.cells #[.int .i64 ka, .int .i64 sa, .slice Aa na ca, .slice Ba ma da] 26)).alloc (.cells #[.int .i64 kb, .int .i64 sb, .slice Ab nb cb, .slice Bb mb db] 26)).cell? ⟨w.heap.size + 1, 2, none⟩ = some (.slice Ab nb cb) := by simp [go_sem]
  have xb3 : ((w.alloc (.cells #[.int .i64 ka, .int .i64 sa, .slice Aa na ca, .slice Ba ma da] 26)).alloc (.cells #[.int .i64 kb, .int .i64 sb, .slice Ab nb cb, .slice Bb mb db] 26)).cell? ⟨w.heap.size + 1, 3, none⟩ = some (.slice Bb mb db) := by simp [go_sem]
  have xbl : w.heap.size + 1 < ((w.alloc (.cells #[.int .i64 ka, .int .i64 sa, .slice Aa na ca, .slice Ba ma da] 26)).alloc (.cells #[.int .i64 kb, .int .i64 sb, .slice Ab nb cb, .slice Bb mb db] 26)).heap.size := by simp <;> omega
  generalize (w.alloc (.cells #[.int .i64 ka, .int .i64 sa, .slice Aa na ca, .slice Ba ma da] 26)).alloc (.cells #[.int .i64 kb, .int .i64 sb, .slice Ab nb cb, .slice Bb mb db] 26) = v1 at *
  go_wp2_with fail
  go_ret
  exact ⟨rfl, cc⟩

set_option maxRecDepth 100000 in
set_option maxHeartbeats 8000000 in
theorem bkSame_c {w : World} {ka sa : Int} {Aa Ba : Option Addr} {na ca ma da : Nat} {kb sb : Int} {Ab Bb : Option Addr} {nb cb mb db : Nat} (h : ka = kb) (h2 : sa = sb) {Ca : List Nat} {Wa : List Int} (hCa : BR w Aa na ca Ca) (hWa : IR w Ba ma da Wa) (hna : na ≤ 9223372036854775807) (hma : ma ≤ 9223372036854775807) {Cb : List Nat} {Wb : List Int} (hCb : BR w Ab nb cb Cb) (hWb : IR w Bb mb db Wb) (hnb : nb ≤ 9223372036854775807) (hmb : mb ≤ 9223372036854775807) :
    Calls Try.prog 25 #[.agg #[.int .i64 ka, .int .i64 sa, .slice Aa na ca, .slice Ba ma da], .agg #[.int .i64 kb, .int .i64 sb, .slice Ab nb cb, .slice Bb mb db]] w (GotV w (.bool (decide (Ca = Cb ∧ Wa = Wb)))) := by
  subst h
  subst h2
  obtain ⟨r, hr⟩ : ∃ r, decide (Ca = Cb ∧ Wa = Wb) = r := ⟨_, rfl⟩
  rw [hr]
  have hr2 : r = (decide (Ca = Cb) && decide (Wa = Wb)) := by rw [← hr]; simp
  clear hr
  have CC : ∀ {W : World}, BR W Aa na ca Ca → BR W Ab nb cb Cb → Calls Try.prog 37 #[.slice Aa na ca, .slice Ab nb cb] W (GotV W (.bool (decide (Ca = Cb)))) := fun a b => bkbeq_N a b
  have CW : ∀ {W : World}, IR W Ba ma da Wa → IR W Bb mb db Wb → Calls Try.prog 38 #[.slice Ba ma da, .slice Bb mb db] W (GotV W (.bool (decide (Wa = Wb)))) := fun a b => bkieq_N a b hma
  generalize decide (Ca = Cb) = p at *
  generalize decide (Wa = Wb) = q at *
  have cc := Below.refl w.heap.size w
  go_enter Try.func25, Try.ntmps25
  go_wp2_with fail
  have bA : Below w.heap.size w ((w.alloc (.cells #[.int .i64 ka, .int .i64 sa, .slice Aa na ca, .slice Ba ma da] 26)).alloc (.cells #[.int .i64 ka, .int .i64 sa, .slice Ab nb cb, .slice Bb mb db] 26)) := (((Below.refl _ w).alloc (by simp) _).alloc (by simp) _)
  replace hCa := hCa.on bA
  replace hCb := hCb.on bA
  replace hWa := hWa.on bA
  replace hWb := hWb.on bA
  replace cc := cc.trans (bA.mono cc.size)
  clear bA
  have xa0 : ((w.alloc (.cells #[.int .i64 ka, .int .i64 sa, .slice Aa na ca, .slice Ba ma da] 26)).alloc (.cells #[.int .i64 ka, .int .i64 sa, .slice Ab nb cb, .slice Bb mb db] 26)).cell? ⟨w.heap.size, 0, none⟩ = some (.int .i64 ka) := by simp [go_sem]
  have xa1 : ((w.alloc (.cells #[.int .i64 ka, .int .i64 sa, .slice Aa na ca, .slice Ba ma da] 26)).alloc (.cells #[.int .i64 ka, .int .i64 sa, .slice Ab nb cb, .slice Bb mb db] 26)).cell? ⟨w.heap.size, 1, none⟩ = some (.int .i64 sa) := by simp [go_sem]
  have xa2 : ((w.alloc (.cells #[.int .i64 ka, .int .i64 sa, .slice Aa na ca, .slice Ba ma da] 26)).alloc (.cells #[.int .i64 ka, .int .i64 sa, .slice Ab nb cb, .slice Bb mb db] 26)).cell? ⟨w.heap.size, 2, none⟩ = some (.slice Aa na ca) := by simp [go_sem]
  have xa3 : ((w.alloc (.cells #[.int .i64 ka, .int .i64 sa, .slice Aa na ca, .slice Ba ma da] 26)).alloc (.cells #[.int .i64 ka, .int .i64 sa, .slice Ab nb cb, .slice Bb mb db] 26)).cell? ⟨w.heap.size, 3, none⟩ = some (.slice Ba ma da) := by simp [go_sem]
  have xal : w.heap.size < ((w.alloc (.cells #[.int .i64 ka, .int .i64 sa, .slice Aa na ca, .slice Ba ma da] 26)).alloc (.cells #[.int .i64 ka, .int .i64 sa, .slice Ab nb cb, .slice Bb mb db] 26)).heap.size := by simp <;> omega
  have xb0 : ((w.alloc (.cells #[.int .i64 ka, .int .i64 sa, .slice Aa na ca, .slice Ba ma da] 26)).alloc (.cells #[.int .i64 ka, .int .i64 sa, .slice Ab nb cb, .slice Bb mb db] 26)).cell? ⟨w.heap.size + 1, 0, none⟩ = some (.int .i64 ka) := by simp [go_sem]
  have xb1 : ((w.alloc (.cells #[.int .i64 ka, .int .i64 sa, .slice Aa na ca, .slice Ba ma da] 26)).alloc (.cells #[.int .i64 ka, .int .i64 sa, .slice Ab nb cb, .slice Bb mb db] 26)).cell? ⟨w.heap.size + 1, 1, none⟩ = some (.int .i64 sa) := by simp [go_sem]
  have xb2 : ((w.alloc (.cells #[.int .i64 ka, .int .i64 sa, .slice Aa na ca, .slice Ba ma da] 26)).alloc (.cells #[.int .i64 ka, .int .i64 sa, .slice Ab nb cb, .slice Bb mb db] 26)).cell? ⟨w.heap.size + 1, 2, none⟩ = some (.slice Ab nb cb) := by simp [go_sem]
  have xb3 : ((w.alloc (.cells #[.int .i64 ka, .int .i64 sa, .slice Aa na ca, .slice Ba ma da] 26)).alloc (.cells #[.int .i64 ka, .int .i64 sa, .slice Ab nb cb, .slice Bb mb db] 26)).cell? ⟨w.heap.size + 1, 3, none⟩ = some (.slice Bb mb db) := by simp [go_sem]
  have xbl : w.heap.size + 1 < ((w.alloc (.cells #[.int .i64 ka, .int .i64 sa, .slice Aa na ca, .slice Ba ma da] 26)).alloc (.cells #[.int .i64 ka, .int .i64 sa, .slice Ab nb cb, .slice Bb mb db] 26)).heap.size := by simp <;> omega
  generalize (w.alloc (.cells #[.int .i64 ka, .int .i64 sa, .slice Aa na ca, .slice Ba ma da] 26)).alloc (.cells #[.int .i64 ka, .int .i64 sa, .slice Ab nb cb, .slice Bb mb db] 26) = v1 at *
  go_wp2_with fail
  refine (CC hCa hCb).mono ?_
  rintro e w2 ⟨rfl, b⟩
  replace hCa := hCa.on b
  replace hCb := hCb.on b
  replace hWa := hWa.on b
  replace hWb := hWb.on b
  replace xa0 := (b.cell (p := ⟨w.heap.size, 0, none⟩) xal).trans xa0
  replace xa1 := (b.cell (p := ⟨w.heap.size, 1, none⟩) xal).trans xa1
  replace xa2 := (b.cell (p := ⟨w.heap.size, 2, none⟩) xal).trans xa2
  replace xa3 := (b.cell (p := ⟨w.heap.size, 3, none⟩) xal).trans xa3
  replace xal := Nat.lt_of_lt_of_le xal b.size
  replace xb0 := (b.cell (p := ⟨w.heap.size + 1, 0, none⟩) xbl).trans xb0
  replace xb1 := (b.cell (p := ⟨w.heap.size + 1, 1, none⟩) xbl).trans xb1
  replace xb2 := (b.cell (p := ⟨w.heap.size + 1, 2, none⟩) xbl).trans xb2
  replace xb3 := (b.cell (p := ⟨w.heap.size + 1, 3, none⟩) xbl).trans xb3
  replace xbl := Nat.lt_of_lt_of_le xbl b.size
  replace cc := cc.trans (b.mono cc.size)
  clear b
  cases p
  · obtain rfl : r = false := by rw [hr2]; rfl
    clear hr2
    go_wp2_with fail
    go_ret
    exact ⟨rfl, cc⟩
  · obtain rfl : r = q := by rw [hr2, Bool.true_and]
    clear hr2
    go_wp2_with fail
    refine (CW hWa hWb).mono ?_
    rintro e w3 ⟨rfl, b⟩
    replace hCa := hCa.on b
    replace hCb := hCb.on b
    replace hWa := hWa.on b
    replace hWb := hWb.on b
    replace xa0 := (b.cell (p := ⟨w.heap.size, 0, none⟩) xal).trans xa0
    replace xa1 := (b.cell (p := ⟨w.heap.size, 1, none⟩) xal).trans xa1
    replace xa2 := (b.cell (p := ⟨w.heap.size, 2, none⟩) xal).trans xa2
    replace xa3 := (b.cell (p := ⟨w.heap.size, 3, none⟩) xal).trans xa3
    replace xal := Nat.lt_of_lt_of_le xal b.size
    replace xb0 := (b.cell (p := ⟨w.heap.size + 1, 0, none⟩) xbl).trans xb0
    replace xb1 := (b.cell (p := ⟨w.heap.size + 1, 1, none⟩) xbl).trans xb1
    replace xb2 := (b.cell (p := ⟨w.heap.size + 1, 2, none⟩) xbl).trans xb2
    replace xb3 := (b.cell (p := ⟨w.heap.size + 1, 3, none⟩) xbl).trans xb3
    replace xbl := Nat.lt_of_lt_of_le xbl b.size
    replace cc := cc.trans (b.mono cc.size)
    clear b
    go_wp2_with fail
    go_ret
    exact ⟨rfl, cc⟩

theorem bkSame_N {w : World} {ka sa : Int} {Aa Ba : Option Addr} {na ca ma da : Nat} {kb sb : Int} {Ab Bb : Option Addr} {nb cb mb db : Nat} {Ca : List Nat} {Wa : List Int} (hCa : BR w Aa na ca Ca) (hWa : IR w Ba ma da Wa) (hna : na ≤ 9223372036854775807) (hma : ma ≤ 9223372036854775807) {Cb : List Nat} {Wb : List Int} (hCb : BR w Ab nb cb Cb) (hWb : IR w Bb mb db Wb) (hnb : nb ≤ 9223372036854775807) (hmb : mb ≤ 9223372036854775807) : Calls Try.prog 25 #[.agg #[.int .i64 ka, .int .i64 sa, .slice Aa na ca, .slice Ba ma da], .agg #[.int .i64 kb, .int .i64 sb, .slice Ab nb cb, .slice Bb mb db]] w (GotV w (.bool (decide (ka = kb ∧ sa = sb ∧ Ca = Cb ∧ Wa = Wb)))) := by
  by_cases a0 : ka = kb
  · by_cases a1 : sa = sb
    · have e : decide (ka = kb ∧ sa = sb ∧ Ca = Cb ∧ Wa = Wb) = decide (Ca = Cb ∧ Wa = Wb) := decide_eq_decide.2 ⟨fun h => h.2.2, fun h => ⟨a0, a1, h⟩⟩
      rw [e]; exact bkSame_c a0 a1 hCa hWa hna hma hCb hWb hnb hmb
    · rw [decide_eq_false (fun h => a1 h.2.1)]; exact bkSame_s a0 a1
  · rw [decide_eq_false (fun h => a0 h.1)]; exact bkSame_k a0

end Go.Proofs.Ytlmcpgahjfepjaa

/-
  The contracts of the eleventh reference: codes.
-/
namespace Go.Proofs.Ytlmcpgahjfepjaa
set_option maxRecDepth 100000
open Go.RowKit
set_option linter.unusedVariables false
set_option linter.unusedSimpArgs false

theorem i64_z : I64 0 := by unfold I64; omega
theorem i64_o : I64 1 := by unfold I64; omega
theorem i64_n : I64 (-1) := by unfold I64; omega
theorem shr_z {k : Int} (h : Kind9 k) : Shr k 0 1 := ⟨h, by omega, by omega, by omega, .inl (by omega)⟩
theorem shr_o {k : Int} (h : Kind9 k) : Shr k 1 1 := ⟨h, by omega, by omega, by omega, .inl (by omega)⟩

set_option maxRecDepth 100000 in
set_option maxHeartbeats 8000000 in
theorem rcodes_t {w : World} {k s : Int} {A B : Option Addr} {n c m d : Nat} {C : List Nat} (h : Kind9 k) (hs : Shr k (-1) 1) (hC : BR w A n c C) (hn : n ≤ 9223372036854775807) :
    Calls Try.prog 36 #[.agg #[.int .i64 k, .int .i64 s, .slice A n c, .slice B m d]] w (GotV w (.bool (if s = 0 then C.all (fun c => c == near10 k 0 1) else decide (0 < s) && C.any (endP (near10 k 1 1) (near10 k (-1) 1) true)))) := by
  have C1 := fun W => rNear_yes W i64_z i64_o (shr_z h)
  have C2 := fun W => rNear_yes W i64_o i64_o (shr_o h)
  have C3 := fun W => rNear_yes W i64_n i64_o hs
  have b1 := near10_le k 0 1
  have b2 := near10_le k 1 1
  have b3 := near10_le k (-1) 1
  clear hs h
  generalize near10 k 0 1 = nought at *
  generalize near10 k 1 1 = top at *
  generalize near10 k (-1) 1 = low at *
  obtain ⟨P, hP⟩ : ∃ P, endP top low true = P := ⟨_, rfl⟩
  obtain ⟨Q, hQ⟩ : ∃ Q : Nat → Bool, (fun c => c == nought) = Q := ⟨_, rfl⟩
  rw [hP, hQ]
  have HP := Lib.hid hP
  have HQ := Lib.hid hQ
  obtain ⟨R, hR⟩ : ∃ R, (if s = 0 then C.all Q else decide (0 < s) && C.any P) = R := ⟨_, rfl⟩
  rw [hR]
  have HR := Lib.hid hR
  clear hP hQ hR
  have cc := Below.refl w.heap.size w
  go_enter Try.func36, Try.ntmps36
  go_wp2_with fail
  have bA : Below w.heap.size w (w.alloc (.cells #[.int .i64 k, .int .i64 s, .slice A n c, .slice B m d] 26)) := ((Below.refl _ w).alloc (by simp) _)
  replace cc := cc.trans (bA.mono cc.size)
  clear bA
  have ka0 : (w.alloc (.cells #[.int .i64 k, .int .i64 s, .slice A n c, .slice B m d] 26)).cell? ⟨w.heap.size, 0, none⟩ = some (.int .i64 k) := by simp [go_sem]
  have ka1 : (w.alloc (.cells #[.int .i64 k, .int .i64 s, .slice A n c, .slice B m d] 26)).cell? ⟨w.heap.size, 1, none⟩ = some (.int .i64 s) := by simp [go_sem]
  have ka2 : (w.alloc (.cells #[.int .i64 k, .int .i64 s, .slice A n c, .slice B m d] 26)).cell? ⟨w.heap.size, 2, none⟩ = some (.slice A n c) := by simp [go_sem]
  have ka3 : (w.alloc (.cells #[.int .i64 k, .int .i64 s, .slice A n c, .slice B m d] 26)).cell? ⟨w.heap.size, 3, none⟩ = some (.slice B m d) := by simp [go_sem]
  have kal : w.heap.size < (w.alloc (.cells #[.int .i64 k, .int .i64 s, .slice A n c, .slice B m d] 26)).heap.size := by simp <;> omega
  generalize w.alloc (.cells #[.int .i64 k, .int .i64 s, .slice A n c, .slice B m d] 26) = v1 at *
  go_wp2_with fail
  refine (C1 _).mono ?_
  rintro e w2 ⟨rfl, b⟩
  replace ka0 := (b.cell (p := ⟨w.heap.size, 0, none⟩) kal).trans ka0
  replace ka1 := (b.cell (p := ⟨w.heap.size, 1, none⟩) kal).trans ka1
  replace ka2 := (b.cell (p := ⟨w.heap.size, 2, none⟩) kal).trans ka2
  replace ka3 := (b.cell (p := ⟨w.heap.size, 3, none⟩) kal).trans ka3
  replace kal := Nat.lt_of_lt_of_le kal b.size
  replace cc := cc.trans (b.mono cc.size)
  clear b
  go_wp2_with fail
  refine (C2 _).mono ?_
  rintro e w3 ⟨rfl, b⟩
  replace ka0 := (b.cell (p := ⟨w.heap.size, 0, none⟩) kal).trans ka0
  replace ka1 := (b.cell (p := ⟨w.heap.size, 1, none⟩) kal).trans ka1
  replace ka2 := (b.cell (p := ⟨w.heap.size, 2, none⟩) kal).trans ka2
  replace ka3 := (b.cell (p := ⟨w.heap.size, 3, none⟩) kal).trans ka3
  replace kal := Nat.lt_of_lt_of_le kal b.size
  replace cc := cc.trans (b.mono cc.size)
  clear b
  go_wp2_with fail
  refine (C3 _).mono ?_
  rintro e w4 ⟨rfl, b⟩
  replace ka0 := (b.cell (p := ⟨w.heap.size, 0, none⟩) kal).trans ka0
  replace ka1 := (b.cell (p := ⟨w.heap.size, 1, none⟩) kal).trans ka1
  replace ka2 := (b.cell (p := ⟨w.heap.size, 2, none⟩) kal).trans ka2
  replace ka3 := (b.cell (p := ⟨w.heap.size, 3, none⟩) kal).trans ka3
  replace kal := Nat.lt_of_lt_of_le kal b.size
  replace cc := cc.trans (b.mono cc.size)
  clear b
  have KA2 := Lib.hid ka2
  have KA1 := Lib.hid ka1
  have KAL := Lib.hid kal
  have CCV := Lib.hid cc
  have HCV : Hid (BR w4 A n c C) := Lib.hid (hC.on cc)
  clear ka0 ka1 ka2 ka3 kal cc hC
  go_wp2_with fail
  go_loopw [9, 10, 11] (fun sv av iv wr => ∃ i : Nat, i ≤ n ∧ iv = .int .i64 (i : Int) ∧ sv = .bool (anyK P C i) ∧ av = .bool (allK Q C i) ∧ Below w4.heap.size w4 wr) (fun _ _ iv _ => n - (intOf iv).toNat)
  case atStart => exact ⟨0, by omega, rfl, by rw [anyK_zero], by rw [allK_zero], Below.refl _ _⟩
  case round =>
    obtain ⟨i, hi, rfl, rfl, rfl, hbl⟩ := hrel
    have ka1 := (hbl.cell (p := ⟨w.heap.size, 1, none⟩) KAL.out).trans KA1.out
    have ka2 := (hbl.cell (p := ⟨w.heap.size, 2, none⟩) KAL.out).trans KA2.out
    by_cases hlt : i < n
    · obtain ⟨bb, off, rfl, hb, hcell⟩ := (HCV.out.on hbl).2.2.2 (by omega)
      have h1 := hcell i hlt
      have hc6 := HCV.out.at hlt
      have hl := HCV.out.1
      have hs1 := anyK_succ P (d := 0) (i := i) (by omega : i < C.length)
      have ha1 := allK_succ Q (d := 0) (i := i) (by omega : i < C.length)
      have k3 : IntKind.i64.wrap ((i : Int) + 1) = ((i + 1 : Nat) : Int) := by rw [IntWalk.i64_in _ (by omega)]; omega
      obtain ⟨x, hx⟩ : ∃ x, C[i]?.getD 0 = x := ⟨_, rfl⟩
      rw [hx] at h1 hc6 hs1 ha1
      rw [← HP.out] at hs1
      rw [← HQ.out] at ha1
      rw [HP.out] at hs1
      rw [HQ.out] at ha1
      have hPx : P x = (x == top || (true && x == low)) := by rw [← HP.out]; rfl
      have hQx : Q x = (x == nought) := by rw [← HQ.out]
      have x6 : (x : Int) < 256 := by omega
      rw [hPx] at hs1
      rw [hQx] at ha1
      clear hcell hPx hQx hl hx
      obtain ⟨so, hso⟩ : ∃ so, anyK P C i = so := ⟨_, rfl⟩
      obtain ⟨al, hal⟩ : ∃ al, allK Q C i = al := ⟨_, rfl⟩
      rw [hso] at hs1 ⊢
      rw [hal] at ha1 ⊢
      obtain ⟨r1, hr1⟩ : ∃ r, anyK P C (i + 1) = r := ⟨_, rfl⟩
      obtain ⟨r2, hr2⟩ : ∃ r, allK Q C (i + 1) = r := ⟨_, rfl⟩
      rw [hr1] at hs1
      rw [hr2] at ha1
      have HR1 := Lib.hid hr1
      have HR2 := Lib.hid hr2
      clear hso hal hr1 hr2
      have hS : (so = true ∧ r1 = true) ∨ (so = false ∧ r1 = true ∧ (x == top) = true ∧ ((x : Int) == (top : Int)) = true) ∨ (so = false ∧ (x == top) = false ∧ ((x : Int) == (top : Int)) = false ∧ ((r1 = true ∧ (x == low) = true ∧ ((x : Int) == (low : Int)) = true) ∨ (r1 = false ∧ (x == low) = false ∧ ((x : Int) == (low : Int)) = false))) := by
        rw [hs1]
        by_cases e1 : x = top <;> by_cases e2 : x = low <;> cases so <;> simp [e1, e2] <;> omega
      have hA : (al = false ∧ r2 = false) ∨ (al = true ∧ r2 = true ∧ (x == nought) = true ∧ ((x : Int) == (nought : Int)) = true) ∨ (al = true ∧ r2 = false ∧ (x == nought) = false ∧ ((x : Int) == (nought : Int)) = false) := by
        rw [ha1]
        by_cases e1 : x = nought <;> cases al <;> simp [e1] <;> omega
      clear hs1 ha1
      rcases hS with ⟨rfl, rfl⟩ | ⟨rfl, rfl, s1, s2⟩ | ⟨rfl, s1, s2, ⟨rfl, s3, s4⟩ | ⟨rfl, s3, s4⟩⟩ <;> rcases hA with ⟨rfl, rfl⟩ | ⟨rfl, rfl, a1, a2⟩ | ⟨rfl, rfl, a1, a2⟩
      all_goals
        go_wp2_with fail
        go_roundw
        case rel => exact ⟨i + 1, by omega, rfl, by rw [HR1.out], by rw [HR2.out], hbl⟩
        case measure => simp [intOf] <;> omega
    · obtain rfl : i = n := by omega
      have cc := CCV.out.trans (hbl.mono CCV.out.size)
      have hl := HCV.out.1
      have g1 := anyK_end P C
      have g2 := allK_end Q C
      rw [← hl] at g1 g2
      have hR := HR.out
      rw [← g1, ← g2] at hR
      clear g1 g2 hl
      generalize anyK P C i = so at *
      generalize allK Q C i = al at *
      by_cases z : s = 0
      · subst z
        rw [if_pos rfl] at hR
        subst hR
        go_wp2_with fail
        go_ret
        exact ⟨rfl, cc⟩
      · rw [if_neg z] at hR
        have z1 : (s == 0) = false := beq_eq_false_iff_ne.2 z
        by_cases p : 0 < s
        · have p1 : decide (0 < s) = true := decide_eq_true p
          rw [p1, Bool.true_and] at hR
          subst hR
          go_wp2_with fail
          go_ret
          exact ⟨rfl, cc⟩
        · have p1 : decide (0 < s) = false := decide_eq_false p
          rw [p1, Bool.false_and] at hR
          subst hR
          go_wp2_with fail
          go_ret
          exact ⟨rfl, cc⟩

set_option maxRecDepth 100000 in
set_option maxHeartbeats 8000000 in
theorem rcodes_f {w : World} {k s : Int} {A B : Option Addr} {n c m d : Nat} {C : List Nat} (h : Kind9 k) (hs : ¬ Shr k (-1) 1) (hC : BR w A n c C) (hn : n ≤ 9223372036854775807) :
    Calls Try.prog 36 #[.agg #[.int .i64 k, .int .i64 s, .slice A n c, .slice B m d]] w (GotV w (.bool (if s = 0 then C.all (fun c => c == near10 k 0 1) else decide (0 < s) && C.any (endP (near10 k 1 1) (near10 k (-1) 1) false)))) := by
  have C1 := fun W => rNear_yes W i64_z i64_o (shr_z h)
  have C2 := fun W => rNear_yes W i64_o i64_o (shr_o h)
  have C3 := fun W => rNear_no W i64_n i64_o hs
  have b1 := near10_le k 0 1
  have b2 := near10_le k 1 1
  have b3 := near10_le k (-1) 1
  clear hs h
  generalize near10 k 0 1 = nought at *
  generalize near10 k 1 1 = top at *
  generalize near10 k (-1) 1 = low at *
  obtain ⟨P, hP⟩ : ∃ P, endP top low false = P := ⟨_, rfl⟩
  obtain ⟨Q, hQ⟩ : ∃ Q : Nat → Bool, (fun c => c == nought) = Q := ⟨_, rfl⟩
  rw [hP, hQ]
  have HP := Lib.hid hP
  have HQ := Lib.hid hQ
  obtain ⟨R, hR⟩ : ∃ R, (if s = 0 then C.all Q else decide (0 < s) && C.any P) = R := ⟨_, rfl⟩
  rw [hR]
  have HR := Lib.hid hR
  clear hP hQ hR
  have cc := Below.refl w.heap.size w
  go_enter Try.func36, Try.ntmps36
  go_wp2_with fail
  have bA : Below w.heap.size w (w.alloc (.cells #[.int .i64 k, .int .i64 s, .slice A n c, .slice B m d] 26)) := ((Below.refl _ w).alloc (by simp) _)
  replace cc := cc.trans (bA.mono cc.size)
  clear bA
  have ka0 : (w.alloc (.cells #[.int .i64 k, .int .i64 s, .slice A n c, .slice B m d] 26)).cell? ⟨w.heap.size, 0, none⟩ = some (.int .i64 k) := by simp [go_sem]
  have ka1 : (w.alloc (.cells #[.int .i64 k, .int .i64 s, .slice A n c, .slice B m d] 26)).cell? ⟨w.heap.size, 1, none⟩ = some (.int .i64 s) := by simp [go_sem]
  have ka2 : (w.alloc (.cells #[.int .i64 k, .int .i64 s, .slice A n c, .slice B m d] 26)).cell? ⟨w.heap.size, 2, none⟩ = some (.slice A n c) := by simp [go_sem]
  have ka3 : (w.alloc (.cells #[.int .i64 k, .int .i64 s, .slice A n c, .slice B m d] 26)).cell? ⟨w.heap.size, 3, none⟩ = some (.slice B m d) := by simp [go_sem]
  have kal : w.heap.size < (w.alloc (.cells #[.int .i64 k, .int .i64 s, .slice A n c, .slice B m d] 26)).heap.size := by simp <;> omega
  generalize w.alloc (.cells #[.int .i64 k, .int .i64 s, .slice A n c, .slice B m d] 26) = v1 at *
  go_wp2_with fail
  refine (C1 _).mono ?_
  rintro e w2 ⟨rfl, b⟩
  replace ka0 := (b.cell (p := ⟨w.heap.size, 0, none⟩) kal).trans ka0
  replace ka1 := (b.cell (p := ⟨w.heap.size, 1, none⟩) kal).trans ka1
  replace ka2 := (b.cell (p := ⟨w.heap.size, 2, none⟩) kal).trans ka2
  replace ka3 := (b.cell (p := ⟨w.heap.size, 3, none⟩) kal).trans ka3
  replace kal := Nat.lt_of_lt_of_le kal b.size
  replace cc := cc.trans (b.mono cc.size)
  clear b
  go_wp2_with fail
  refine (C2 _).mono ?_
  rintro e w3 ⟨rfl, b⟩
  replace ka0 := (b.cell (p := ⟨w.heap.size, 0, none⟩) kal).trans ka0
  replace ka1 := (b.cell (p := ⟨w.heap.size, 1, none⟩) kal).trans ka1
  replace ka2 := (b.cell (p := ⟨w.heap.size, 2, none⟩) kal).trans ka2
  replace ka3 := (b.cell (p := ⟨w.heap.size, 3, none⟩) kal).trans ka3
  replace kal := Nat.lt_of_lt_of_le kal b.size
  replace cc := cc.trans (b.mono cc.size)
  clear b
  go_wp2_with fail
  refine (C3 _).mono ?_
  rintro e w4 ⟨rfl, b⟩
  replace ka0 := (b.cell (p := ⟨w.heap.size, 0, none⟩) kal).trans ka0
  replace ka1 := (b.cell (p := ⟨w.heap.size, 1, none⟩) kal).trans ka1
  replace ka2 := (b.cell (p := ⟨w.heap.size, 2, none⟩) kal).trans ka2
  replace ka3 := (b.cell (p := ⟨w.heap.size, 3, none⟩) kal).trans ka3
  replace kal := Nat.lt_of_lt_of_le kal b.size
  replace cc := cc.trans (b.mono cc.size)
  clear b
  have KA2 := Lib.hid ka2
  have KA1 := Lib.hid ka1
  have KAL := Lib.hid kal
  have CCV := Lib.hid cc
  have HCV : Hid (BR w4 A n c C) := Lib.hid (hC.on cc)
  clear ka0 ka1 ka2 ka3 kal cc hC
  go_wp2_with fail
  go_loopw [9, 10, 11] (fun sv av iv wr => ∃ i : Nat, i ≤ n ∧ iv = .int .i64 (i : Int) ∧ sv = .bool (anyK P C i) ∧ av = .bool (allK Q C i) ∧ Below w4.heap.size w4 wr) (fun _ _ iv _ => n - (intOf iv).toNat)
  case atStart => exact ⟨0, by omega, rfl, by rw [anyK_zero], by rw [allK_zero], Below.refl _ _⟩
  case round =>
    obtain ⟨i, hi, rfl, rfl, rfl, hbl⟩ := hrel
    have ka1 := (hbl.cell (p := ⟨w.heap.size, 1, none⟩) KAL.out).trans KA1.out
    have ka2 := (hbl.cell (p := ⟨w.heap.size, 2, none⟩) KAL.out).trans KA2.out
    by_cases hlt : i < n
    · obtain ⟨bb, off, rfl, hb, hcell⟩ := (HCV.out.on hbl).2.2.2 (by omega)
      have h1 := hcell i hlt
      have hc6 := HCV.out.at hlt
      have hl := HCV.out.1
      have hs1 := anyK_succ P (d := 0) (i := i) (by omega : i < C.length)
      have ha1 := allK_succ Q (d := 0) (i := i) (by omega : i < C.length)
      have k3 : IntKind.i64.wrap ((i : Int) + 1) = ((i + 1 : Nat) : Int) := by rw [IntWalk.i64_in _ (by omega)]; omega
      obtain ⟨x, hx⟩ : ∃ x, C[i]?.getD 0 = x := ⟨_, rfl⟩
      rw [hx] at h1 hc6 hs1 ha1
      rw [← HP.out] at hs1
      rw [← HQ.out] at ha1
      rw [HP.out] at hs1
      rw [HQ.out] at ha1
      have hPx : P x = (x == top || (false && x == low)) := by rw [← HP.out]; rfl
      have hQx : Q x = (x == nought) := by rw [← HQ.out]
      have x6 : (x : Int) < 256 := by omega
      rw [hPx] at hs1
      rw [hQx] at ha1
      clear hcell hPx hQx hl hx
      obtain ⟨so, hso⟩ : ∃ so, anyK P C i = so := ⟨_, rfl⟩
      obtain ⟨al, hal⟩ : ∃ al, allK Q C i = al := ⟨_, rfl⟩
      rw [hso] at hs1 ⊢
      rw [hal] at ha1 ⊢
      obtain ⟨r1, hr1⟩ : ∃ r, anyK P C (i + 1) = r := ⟨_, rfl⟩
      obtain ⟨r2, hr2⟩ : ∃ r, allK Q C (i + 1) = r := ⟨_, rfl⟩
      rw [hr1] at hs1
      rw [hr2] at ha1
      have HR1 := Lib.hid hr1
      have HR2 := Lib.hid hr2
      clear hso hal hr1 hr2
      have hS : (so = true ∧ r1 = true) ∨ (so = false ∧ r1 = true ∧ (x == top) = true ∧ ((x : Int) == (top : Int)) = true) ∨ (so = false ∧ (x == top) = false ∧ ((x : Int) == (top : Int)) = false ∧ r1 = false) := by
        rw [hs1]
        by_cases e1 : x = top <;> cases so <;> simp [e1] <;> omega
      have hA : (al = false ∧ r2 = false) ∨ (al = true ∧ r2 = true ∧ (x == nought) = true ∧ ((x : Int) == (nought : Int)) = true) ∨ (al = true ∧ r2 = false ∧ (x == nought) = false ∧ ((x : Int) == (nought : Int)) = false) := by
        rw [ha1]
        by_cases e1 : x = nought <;> cases al <;> simp [e1] <;> omega
      clear hs1 ha1
      rcases hS with ⟨rfl, rfl⟩ | ⟨rfl, rfl, s1, s2⟩ | ⟨rfl, s1, s2, rfl⟩ <;> rcases hA with ⟨rfl, rfl⟩ | ⟨rfl, rfl, a1, a2⟩ | ⟨rfl, rfl, a1, a2⟩
      all_goals
        go_wp2_with fail
        go_roundw
        case rel => exact ⟨i + 1, by omega, rfl, by rw [HR1.out], by rw [HR2.out], hbl⟩
        case measure => simp [intOf] <;> omega
    · obtain rfl : i = n := by omega
      have cc := CCV.out.trans (hbl.mono CCV.out.size)
      have hl := HCV.out.1
      have g1 := anyK_end P C
      have g2 := allK_end Q C
      rw [← hl] at g1 g2
      have hR := HR.out
      rw [← g1, ← g2] at hR
      clear g1 g2 hl
      generalize anyK P C i = so at *
      generalize allK Q C i = al at *
      by_cases z : s = 0
      · subst z
        rw [if_pos rfl] at hR
        subst hR
        go_wp2_with fail
        go_ret
        exact ⟨rfl, cc⟩
      · rw [if_neg z] at hR
        have z1 : (s == 0) = false := beq_eq_false_iff_ne.2 z
        by_cases p : 0 < s
        · have p1 : decide (0 < s) = true := decide_eq_true p
          rw [p1, Bool.true_and] at hR
          subst hR
          go_wp2_with fail
          go_ret
          exact ⟨rfl, cc⟩
        · have p1 : decide (0 < s) = false := decide_eq_false p
          rw [p1, Bool.false_and] at hR
          subst hR
          go_wp2_with fail
          go_ret
          exact ⟨rfl, cc⟩

theorem rcodes_N {w : World} {k s : Int} {A B : Option Addr} {n c m d : Nat} {C : List Nat} (h : Kind9 k) (hC : BR w A n c C) (hn : n ≤ 9223372036854775807) : Calls Try.prog 36 #[.agg #[.int .i64 k, .int .i64 s, .slice A n c, .slice B m d]] w (GotV w (.bool (decide (OkC k s C)))) := by
  by_cases hs : Shr k (-1) 1
  · rw [okC_eq (sg := true) (decide_eq_true hs).symm]; exact rcodes_t h hs hC hn
  · rw [okC_eq (sg := false) (decide_eq_false hs).symm]; exact rcodes_f h hs hC hn

end Go.Proofs.Ytlmcpgahjfepjaa

/-
  The contracts of the landed block: right, of either manner.
-/
namespace Go.Proofs.Ytlmcpgahjfepjaa
set_option maxRecDepth 100000
open Go.RowKit
set_option linter.unusedVariables false
set_option linter.unusedSimpArgs false

set_option maxRecDepth 100000 in
set_option maxHeartbeats 8000000 in
theorem bkwright_N {w : World} {k s : Int} {A B : Option Addr} {n c m d : Nat} {W : List Int} (hW : IR w B m d W) (hm : m ≤ 9223372036854775807) :
    Calls Try.prog 69 #[.agg #[], .agg #[.int .i64 k, .int .i64 s, .slice A n c, .slice B m d]] w (GotV w (.bool (decide ((∀ x ∈ W, x ≠ -9223372036854775808) ∧ s = 0 ∧ n = 0)))) := by
  obtain ⟨r, hr⟩ : ∃ r, decide ((∀ x ∈ W, x ≠ -9223372036854775808) ∧ s = 0 ∧ n = 0) = r := ⟨_, rfl⟩
  rw [hr]
  have HR := Lib.hid hr
  clear hr
  have CT := fun (V : World) (x : Int) => bktkw_N V (x := x)
  have cc := Below.refl w.heap.size w
  go_enter Try.func69, Try.ntmps69
  go_wp2_with fail
  have bA : Below w.heap.size w ((w.alloc (.cells #[] 68)).alloc (.cells #[.int .i64 k, .int .i64 s, .slice A n c, .slice B m d] 26)) := (((Below.refl _ w).alloc (by simp) _).alloc (by simp) _)
  replace hW := hW.on bA
  replace cc := cc.trans (bA.mono cc.size)
  clear bA
  have kal : w.heap.size < ((w.alloc (.cells #[] 68)).alloc (.cells #[.int .i64 k, .int .i64 s, .slice A n c, .slice B m d] 26)).heap.size := by simp <;> omega
  have xa0 : ((w.alloc (.cells #[] 68)).alloc (.cells #[.int .i64 k, .int .i64 s, .slice A n c, .slice B m d] 26)).cell? ⟨w.heap.size + 1, 0, none⟩ = some (.int .i64 k) := by simp [go_sem]
  have xa1 : ((w.alloc (.cells #[] 68)).alloc (.cells #[.int .i64 k, .int .i64 s, .slice A n c, .slice B m d] 26)).cell? ⟨w.heap.size + 1, 1, none⟩ = some (.int .i64 s) := by simp [go_sem]
  have xa2 : ((w.alloc (.cells #[] 68)).alloc (.cells #[.int .i64 k, .int .i64 s, .slice A n c, .slice B m d] 26)).cell? ⟨w.heap.size + 1, 2, none⟩ = some (.slice A n c) := by simp [go_sem]
  have xa3 : ((w.alloc (.cells #[] 68)).alloc (.cells #[.int .i64 k, .int .i64 s, .slice A n c, .slice B m d] 26)).cell? ⟨w.heap.size + 1, 3, none⟩ = some (.slice B m d) := by simp [go_sem]
  have xal : w.heap.size + 1 < ((w.alloc (.cells #[] 68)).alloc (.cells #[.int .i64 k, .int .i64 s, .slice A n c, .slice B m d] 26)).heap.size := by simp <;> omega
  generalize (w.alloc (.cells #[] 68)).alloc (.cells #[.int .i64 k, .int .i64 s, .slice A n c, .slice B m d] 26) = v1 at *
  have XA3 := Lib.hid xa3
  have XA2 := Lib.hid xa2
  have XA1 := Lib.hid xa1
  have XAL := Lib.hid xal
  have CCV := Lib.hid cc
  have HWV := Lib.hid hW
  clear xa0 xa1 xa2 xal cc hW
  go_wp2_with fail
  go_loopw [10] (fun iv wr => ∃ i : Nat, i ≤ m ∧ iv = .int .i64 (i : Int) ∧ (∀ j, j < i → W[j]?.getD 0 ≠ -9223372036854775808) ∧ Below v1.heap.size v1 wr) (fun iv _ => m - (intOf iv).toNat)
  case atStart => exact ⟨0, by omega, rfl, fun j h => absurd h (by omega), Below.refl _ _⟩
  case round =>
    clear xa3
    obtain ⟨i, hi, rfl, hj, hbl⟩ := hrel
    have xal := XAL.out
    have xa1 := (hbl.cell (p := ⟨w.heap.size + 1, 1, none⟩) xal).trans XA1.out
    have xa2 := (hbl.cell (p := ⟨w.heap.size + 1, 2, none⟩) xal).trans XA2.out
    have xa3 := (hbl.cell (p := ⟨w.heap.size + 1, 3, none⟩) xal).trans XA3.out
    replace xal := Nat.lt_of_lt_of_le xal hbl.size
    have cc := CCV.out.trans (hbl.mono CCV.out.size)
    have hW := HWV.out.on hbl
    by_cases hlt : i < m
    · obtain ⟨bb, off, rfl, hb, hcell⟩ := hW.2.2 (by omega)
      have h1 := hcell i hlt
      have k3 : IntKind.i64.wrap ((i : Int) + 1) = ((i + 1 : Nat) : Int) := by rw [IntWalk.i64_in _ (by omega)]; omega
      have hl := hW.1
      obtain ⟨x, hx⟩ : ∃ x, W[i]?.getD 0 = x := ⟨_, rfl⟩
      rw [hx] at h1
      have CTx := fun V => CT V x
      by_cases hxy : x = -9223372036854775808
      · have hT : tkW x = false := decide_eq_false (fun e => e hxy)
        rw [hT] at CTx
        have hF : r = false := by
          rw [← HR.out]; refine decide_eq_false (fun h => ?_)
          have hm : W[i]?.getD 0 ∈ W := mem_at (by omega)
          exact h.1 _ hm (by rw [hx]; exact hxy)
        subst hF
        clear hj hx hl hW hcell CT hT hxy
        go_wp2_with fail
        refine (CTx _).mono ?_
        rintro e w2 ⟨rfl, b⟩
        replace cc := cc.trans (b.mono cc.size)
        clear b
        go_wp2_with fail
        go_ret
        exact ⟨rfl, cc⟩
      · have hT : tkW x = true := decide_eq_true hxy
        rw [hT] at CTx
        have HJ : Hid (∀ j, j < i + 1 → W[j]?.getD 0 ≠ -9223372036854775808) := Lib.hid (fun j h => by
          rcases Nat.lt_or_ge j i with e | e
          · exact hj j e
          · have e2 : j = i := by omega
            rw [e2, hx]; exact hxy)
        clear hj hx hl hW hcell CT hT hxy
        go_wp2_with fail
        refine (CTx _).mono ?_
        rintro e w2 ⟨rfl, b⟩
        replace hbl := hbl.trans (b.mono hbl.size)
        clear b
        go_wp2_with fail
        go_roundw
        case rel => exact ⟨i + 1, by omega, rfl, HJ.out, hbl⟩
        case measure => simp [intOf] <;> omega
    · obtain rfl : i = m := by omega
      have hl := hW.1
      have hR : r = (decide (s = 0) && decide (n = 0)) := by
        rw [← HR.out, Bool.eq_iff_iff, decide_eq_true_eq, Bool.and_eq_true, decide_eq_true_eq, decide_eq_true_eq]
        refine ⟨fun h => h.2, fun h => ⟨fun x hx => ?_, h⟩⟩
        obtain ⟨j, hj2, rfl⟩ := at_mem 0 hx
        exact hj j (by omega)
      clear hj hl hW
      by_cases h0 : s = 0
      · subst h0
        by_cases h2 : n = 0
        · subst h2
          obtain rfl : r = true := by rw [hR]; rfl
          clear hR
          go_wp2_with fail
          go_ret
          exact ⟨rfl, cc⟩
        · have t2 : (n == 0) = false := beq_eq_false_iff_ne.2 h2
          have t3 : ((n : Int) == 0) = false := beq_eq_false_iff_ne.2 (by omega)
          obtain rfl : r = false := by rw [hR, decide_eq_false h2]; rfl
          clear hR h2
          go_wp2_with fail
          go_ret
          exact ⟨rfl, cc⟩
      · have t2 : (s == 0) = false := beq_eq_false_iff_ne.2 h0
        obtain rfl : r = false := by rw [hR, decide_eq_false h0]; rfl
        clear hR h0
        go_wp2_with fail
        go_ret
        exact ⟨rfl, cc⟩

set_option maxRecDepth 100000 in
set_option maxHeartbeats 8000000 in
theorem bkcright_neg {w : World} {k s : Int} {A B : Option Addr} {n c m d : Nat} {C : List Nat} (hk : Kind9 k) (hC : BR w A n c C) (h : s < 0) :
    Calls Try.prog 74 #[.int .i64 k, .agg #[.int .i64 k, .int .i64 s, .slice A n c, .slice B m d]] w (GotV w (.bool false)) := by
  have t0 : decide (s < 0) = true := decide_eq_true h
  clear hC
  have cc := Below.refl w.heap.size w
  go_enter Try.func74, Try.ntmps74
  go_wp2_with fail
  have bA : Below w.heap.size w (w.alloc (.cells #[.int .i64 k, .int .i64 s, .slice A n c, .slice B m d] 26)) := ((Below.refl _ w).alloc (by simp) _)
  replace cc := cc.trans (bA.mono cc.size)
  clear bA
  have ka0 : (w.alloc (.cells #[.int .i64 k, .int .i64 s, .slice A n c, .slice B m d] 26)).cell? ⟨w.heap.size, 0, none⟩ = some (.int .i64 k) := by simp [go_sem]
  have ka1 : (w.alloc (.cells #[.int .i64 k, .int .i64 s, .slice A n c, .slice B m d] 26)).cell? ⟨w.heap.size, 1, none⟩ = some (.int .i64 s) := by simp [go_sem]
  have ka2 : (w.alloc (.cells #[.int .i64 k, .int .i64 s, .slice A n c, .slice B m d] 26)).cell? ⟨w.heap.size, 2, none⟩ = some (.slice A n c) := by simp [go_sem]
  have ka3 : (w.alloc (.cells #[.int .i64 k, .int .i64 s, .slice A n c, .slice B m d] 26)).cell? ⟨w.heap.size, 3, none⟩ = some (.slice B m d) := by simp [go_sem]
  have kal : w.heap.size < (w.alloc (.cells #[.int .i64 k, .int .i64 s, .slice A n c, .slice B m d] 26)).heap.size := by simp <;> omega
  generalize w.alloc (.cells #[.int .i64 k, .int .i64 s, .slice A n c, .slice B m d] 26) = v1 at *
  go_wp2_with fail
  go_ret
  exact ⟨rfl, cc⟩

set_option maxRecDepth 100000 in
set_option maxHeartbeats 8000000 in
theorem bkcright_wide {w : World} {k s : Int} {A B : Option Addr} {n c m d : Nat} {C : List Nat} (hk : Kind9 k) (hC : BR w A n c C) (h : 0 ≤ s) (h2 : 0 < m) :
    Calls Try.prog 74 #[.int .i64 k, .agg #[.int .i64 k, .int .i64 s, .slice A n c, .slice B m d]] w (GotV w (.bool false)) := by
  have t0 : decide (s < 0) = false := decide_eq_false (by omega)
  have t1 : decide (0 < m) = true := decide_eq_true h2
  have t2 : decide ((0 : Int) < (m : Int)) = true := decide_eq_true (by omega)
  clear hC
  have cc := Below.refl w.heap.size w
  go_enter Try.func74, Try.ntmps74
  go_wp2_with fail
  have bA : Below w.heap.size w (w.alloc (.cells #[.int .i64 k, .int .i64 s, .slice A n c, .slice B m d] 26)) := ((Below.refl _ w).alloc (by simp) _)
  replace cc := cc.trans (bA.mono cc.size)
  clear bA
  have ka0 : (w.alloc (.cells #[.int .i64 k, .int .i64 s, .slice A n c, .slice B m d] 26)).cell? ⟨w.heap.size, 0, none⟩ = some (.int .i64 k) := by simp [go_sem]
  have ka1 : (w.alloc (.cells #[.int .i64 k, .int .i64 s, .slice A n c, .slice B m d] 26)).cell? ⟨w.heap.size, 1, none⟩ = some (.int .i64 s) := by simp [go_sem]
  have ka2 : (w.alloc (.cells #[.int .i64 k, .int .i64 s, .slice A n c, .slice B m d] 26)).cell? ⟨w.heap.size, 2, none⟩ = some (.slice A n c) := by simp [go_sem]
  have ka3 : (w.alloc (.cells #[.int .i64 k, .int .i64 s, .slice A n c, .slice B m d] 26)).cell? ⟨w.heap.size, 3, none⟩ = some (.slice B m d) := by simp [go_sem]
  have kal : w.heap.size < (w.alloc (.cells #[.int .i64 k, .int .i64 s, .slice A n c, .slice B m d] 26)).heap.size := by simp <;> omega
  generalize w.alloc (.cells #[.int .i64 k, .int .i64 s, .slice A n c, .slice B m d] 26) = v1 at *
  go_wp2_with fail
  go_ret
  exact ⟨rfl, cc⟩

set_option maxRecDepth 100000 in
set_option maxHeartbeats 8000000 in
theorem bkcright_z {w : World} {k s : Int} {A B : Option Addr} {n c m d : Nat} {C : List Nat} (hk : Kind9 k) (hC : BR w A n c C) (h : s = 0) (h2 : m = 0) :
    Calls Try.prog 74 #[.int .i64 k, .agg #[.int .i64 k, .int .i64 s, .slice A n c, .slice B m d]] w (GotV w (.bool (decide (∀ x ∈ C, x = near10 k 0 1)))) := by
  subst h
  subst h2
  have CN := fun V => bknear_N V i64_z i64_o (shr_z hk)
  have y6 : ((near10 k 0 1 : Nat) : Int) < 256 := by have := near10_le k 0 1; omega
  obtain ⟨r, hr⟩ : ∃ r, decide (∀ x ∈ C, x = near10 k 0 1) = r := ⟨_, rfl⟩
  rw [hr]
  have hl := hC.1
  have hz := ctB_le C (near10 k 0 1)
  have hq := ctB_all (C := C) (c := near10 k 0 1) hC.2.2.1 (by omega)
  have CT : ∀ {V : World} {g d : Nat}, BR V A n c C → V.cell? ⟨g, 0, none⟩ = some (.int .u8 ((near10 k 0 1 : Nat) : Int)) → Calls Try.prog 80 #[.slice A n c, .slice (some ⟨g, 0, none⟩) 1 d] V (GotV V (.int .i64 ((ctB C (near10 k 0 1) : Nat) : Int))) := fun h h2 => bcount_N h h2 y6
  generalize near10 k 0 1 = y at *
  generalize ctB C y = z at *
  have t4 : ((z : Int) == (n : Int)) = r := by rw [← hr, Bool.eq_iff_iff, beq_iff_eq, decide_eq_true_eq, ← hq]; omega
  have t5 : (z == n) = r := by rw [← t4, Bool.eq_iff_iff, beq_iff_eq, beq_iff_eq]; omega
  clear hr hq hl hz hk
  have cc := Below.refl w.heap.size w
  go_enter Try.func74, Try.ntmps74
  go_wp2_with fail
  have bA : Below w.heap.size w (w.alloc (.cells #[.int .i64 k, .int .i64 0, .slice A n c, .slice B 0 d] 26)) := ((Below.refl _ w).alloc (by simp) _)
  replace hC := hC.on bA
  replace cc := cc.trans (bA.mono cc.size)
  clear bA
  have ka0 : (w.alloc (.cells #[.int .i64 k, .int .i64 0, .slice A n c, .slice B 0 d] 26)).cell? ⟨w.heap.size, 0, none⟩ = some (.int .i64 k) := by simp [go_sem]
  have ka1 : (w.alloc (.cells #[.int .i64 k, .int .i64 0, .slice A n c, .slice B 0 d] 26)).cell? ⟨w.heap.size, 1, none⟩ = some (.int .i64 0) := by simp [go_sem]
  have ka2 : (w.alloc (.cells #[.int .i64 k, .int .i64 0, .slice A n c, .slice B 0 d] 26)).cell? ⟨w.heap.size, 2, none⟩ = some (.slice A n c) := by simp [go_sem]
  have ka3 : (w.alloc (.cells #[.int .i64 k, .int .i64 0, .slice A n c, .slice B 0 d] 26)).cell? ⟨w.heap.size, 3, none⟩ = some (.slice B 0 d) := by simp [go_sem]
  have kal : w.heap.size < (w.alloc (.cells #[.int .i64 k, .int .i64 0, .slice A n c, .slice B 0 d] 26)).heap.size := by simp <;> omega
  generalize w.alloc (.cells #[.int .i64 k, .int .i64 0, .slice A n c, .slice B 0 d] 26) = v1 at *
  go_wp2_with fail
  have bD : Below v1.heap.size v1 v1.drew := below_drewN (Below.refl _ v1) 1
  replace hC := hC.on bD
  replace ka0 := (bD.cell (p := ⟨w.heap.size, 0, none⟩) kal).trans ka0
  replace ka1 := (bD.cell (p := ⟨w.heap.size, 1, none⟩) kal).trans ka1
  replace ka2 := (bD.cell (p := ⟨w.heap.size, 2, none⟩) kal).trans ka2
  replace ka3 := (bD.cell (p := ⟨w.heap.size, 3, none⟩) kal).trans ka3
  replace kal := Nat.lt_of_lt_of_le kal bD.size
  replace cc := cc.trans (bD.mono cc.size)
  clear bD
  refine wp_region_held_drew (S := fun w' => w'.cell? ⟨w.heap.size, 0, none⟩ = some (.int .i64 k) ∧ w'.cell? ⟨w.heap.size, 1, none⟩ = some (.int .i64 0) ∧ w'.cell? ⟨w.heap.size, 2, none⟩ = some (.slice A n c) ∧ w'.cell? ⟨w.heap.size, 3, none⟩ = some (.slice B 0 d)) (by kernel_rfl) ?_ (fun hHeld => ?_)
  · exact ⟨ka0, ka1, ka2, ka3⟩
  refine wpAnyH_take (i := 0) (v := ?_) rfl (by kernel_rfl) (by kernel_rfl) (by kernel_rfl) (fun _ _ _ h => h) (Or.inl ⟨by rfl, ?_⟩) hHeld ?_
  rotate_left
  · (intro w hSw; (try dsimp only at hSw); go_simp; (try with_reducible rfl))
  try simp only [Act.put, List.getElem_toArray, List.getElem_cons_zero, List.getElem_cons_succ, List.setIfInBounds_toArray, List.set_cons_zero, List.set_cons_succ]
  refine wpAnyH_take (i := 1) (v := ?_) rfl (by kernel_rfl) (by kernel_rfl) (by kernel_rfl) (fun _ _ _ h => h) (Or.inl ⟨by rfl, ?_⟩) hHeld ?_
  rotate_left
  · (intro w hSw; (try dsimp only at hSw); go_simp; (try with_reducible rfl))
  try simp only [Act.put, List.getElem_toArray, List.getElem_cons_zero, List.getElem_cons_succ, List.setIfInBounds_toArray, List.set_cons_zero, List.set_cons_succ]
  refine wpAnyH_take (i := 2) (v := ?_) rfl (by kernel_rfl) (by kernel_rfl) (by kernel_rfl) (fun _ _ _ h => h) (Or.inl ⟨by rfl, ?_⟩) hHeld ?_
  rotate_left
  · (intro w hSw; (try dsimp only at hSw); go_simp; (try with_reducible rfl))
  try simp only [Act.put, List.getElem_toArray, List.getElem_cons_zero, List.getElem_cons_succ, List.setIfInBounds_toArray, List.set_cons_zero, List.set_cons_succ]
  refine wpAnyH_take (i := 6) (v := ?_) rfl (by kernel_rfl) (by kernel_rfl) (by kernel_rfl) (fun _ _ _ h => h) (Or.inl ⟨by rfl, ?_⟩) hHeld ?_
  rotate_left
  · (intro w hSw; (try dsimp only at hSw); go_simp; (try with_reducible rfl))
  try simp only [Act.put, List.getElem_toArray, List.getElem_cons_zero, List.getElem_cons_succ, List.setIfInBounds_toArray, List.set_cons_zero, List.set_cons_succ]
  refine wpAnyH_take (i := 7) (v := ?_) rfl (by kernel_rfl) (by kernel_rfl) (by kernel_rfl) (fun _ _ _ h => h) (Or.inl ⟨by rfl, ?_⟩) hHeld ?_
  rotate_left
  · (intro w hSw; (try dsimp only at hSw); go_simp; (try with_reducible rfl))
  try simp only [Act.put, List.getElem_toArray, List.getElem_cons_zero, List.getElem_cons_succ, List.setIfInBounds_toArray, List.set_cons_zero, List.set_cons_succ]
  refine wpAnyH_take (i := 8) (v := ?_) rfl (by kernel_rfl) (by kernel_rfl) (by kernel_rfl) (fun _ _ _ h => h) (Or.inl ⟨by rfl, ?_⟩) hHeld ?_
  rotate_left
  · (intro w hSw; (try dsimp only at hSw); go_simp; (try with_reducible rfl))
  try simp only [Act.put, List.getElem_toArray, List.getElem_cons_zero, List.getElem_cons_succ, List.setIfInBounds_toArray, List.set_cons_zero, List.set_cons_succ]
  refine wpAnyH_ready (rs := [3]) (by kernel_rfl) (by simp) ?_
  refine AllReadyH.cons rfl (fun K hK => ?_) AllReadyH.nil
  (try simp only [List.getElem_toArray, List.getElem_cons_zero, List.getElem_cons_succ])
  rw [if_pos (by rfl)]
  go_simp
  go_at_call 79
  refine (CN _).mono ?_
  rintro e w2 ⟨rfl, b⟩
  replace hC := hC.on b
  replace ka0 := (b.cell (p := ⟨w.heap.size, 0, none⟩) kal).trans ka0
  replace ka1 := (b.cell (p := ⟨w.heap.size, 1, none⟩) kal).trans ka1
  replace ka2 := (b.cell (p := ⟨w.heap.size, 2, none⟩) kal).trans ka2
  replace ka3 := (b.cell (p := ⟨w.heap.size, 3, none⟩) kal).trans ka3
  replace kal := Nat.lt_of_lt_of_le kal b.size
  replace cc := cc.trans (b.mono cc.size)
  clear b
  refine hK.out _ _ ?_ (fun hHeld => ?_)
  · exact ⟨ka0, ka1, ka2, ka3⟩
  clear hK K
  try simp only [Act.put, List.getElem_toArray, List.getElem_cons_zero, List.getElem_cons_succ, List.setIfInBounds_toArray, List.set_cons_zero, List.set_cons_succ]
  refine wpAnyH_ready (rs := [4]) (by kernel_rfl) (by simp) ?_
  refine AllReadyH.cons rfl (fun K hK => ?_) AllReadyH.nil
  (try simp only [List.getElem_toArray, List.getElem_cons_zero, List.getElem_cons_succ])
  rw [if_pos (by rfl)]
  go_simp
  have bA := below_one w2 (.cells #[.int .u8 (y : Int)] 5)
  replace hC := hC.on bA
  replace ka0 := (bA.cell (p := ⟨w.heap.size, 0, none⟩) kal).trans ka0
  replace ka1 := (bA.cell (p := ⟨w.heap.size, 1, none⟩) kal).trans ka1
  replace ka2 := (bA.cell (p := ⟨w.heap.size, 2, none⟩) kal).trans ka2
  replace ka3 := (bA.cell (p := ⟨w.heap.size, 3, none⟩) kal).trans ka3
  replace kal := Nat.lt_of_lt_of_le kal bA.size
  replace cc := cc.trans (bA.mono cc.size)
  clear bA
  have ra0 : (w2.alloc (.cells #[.int .u8 (y : Int)] 5)).cell? ⟨w2.heap.size, 0, none⟩ = some (.int .u8 (y : Int)) := by simp [go_sem]
  have ral : w2.heap.size < (w2.alloc (.cells #[.int .u8 (y : Int)] 5)).heap.size := by simp
  generalize w2.alloc (.cells #[.int .u8 (y : Int)] 5) = v3 at *
  refine hK.out _ _ ?_ (fun hHeld => ?_)
  · exact ⟨ka0, ka1, ka2, ka3⟩
  clear hK K
  try simp only [Act.put, List.getElem_toArray, List.getElem_cons_zero, List.getElem_cons_succ, List.setIfInBounds_toArray, List.set_cons_zero, List.set_cons_succ]
  refine wpAnyH_ready (rs := [5]) (by kernel_rfl) (by simp) ?_
  refine AllReadyH.cons rfl (fun K hK => ?_) AllReadyH.nil
  (try simp only [List.getElem_toArray, List.getElem_cons_zero, List.getElem_cons_succ])
  rw [if_pos (by rfl)]
  go_simp
  go_at_call 80
  refine (CT hC ra0).mono ?_
  rintro e w4 ⟨rfl, b⟩
  replace hC := hC.on b
  replace ka0 := (b.cell (p := ⟨w.heap.size, 0, none⟩) kal).trans ka0
  replace ka1 := (b.cell (p := ⟨w.heap.size, 1, none⟩) kal).trans ka1
  replace ka2 := (b.cell (p := ⟨w.heap.size, 2, none⟩) kal).trans ka2
  replace ka3 := (b.cell (p := ⟨w.heap.size, 3, none⟩) kal).trans ka3
  replace kal := Nat.lt_of_lt_of_le kal b.size
  replace ra0 := (b.cell (p := ⟨w2.heap.size, 0, none⟩) ral).trans ra0
  replace ral := Nat.lt_of_lt_of_le ral b.size
  replace cc := cc.trans (b.mono cc.size)
  clear b
  refine hK.out _ _ ?_ (fun hHeld => ?_)
  · exact ⟨ka0, ka1, ka2, ka3⟩
  clear hK K
  try simp only [Act.put, List.getElem_toArray, List.getElem_cons_zero, List.getElem_cons_succ, List.setIfInBounds_toArray, List.set_cons_zero, List.set_cons_succ]
  refine wpAnyH_take (i := 9) (v := ?_) rfl (by kernel_rfl) (by kernel_rfl) (by kernel_rfl) (fun _ _ _ h => h) (Or.inl ⟨by rfl, ?_⟩) hHeld ?_
  rotate_left
  · (intro w hSw; (try dsimp only at hSw); go_simp; (try with_reducible rfl))
  try simp only [Act.put, List.getElem_toArray, List.getElem_cons_zero, List.getElem_cons_succ, List.setIfInBounds_toArray, List.set_cons_zero, List.set_cons_succ]
  refine wpAnyH_take (i := 10) (v := ?_) rfl (by kernel_rfl) (by kernel_rfl) (by kernel_rfl) (fun _ _ _ h => h) (Or.inl ⟨by rfl, ?_⟩) hHeld ?_
  rotate_left
  · (intro w hSw; (try dsimp only at hSw); go_simp; (try with_reducible rfl))
  try simp only [Act.put, List.getElem_toArray, List.getElem_cons_zero, List.getElem_cons_succ, List.setIfInBounds_toArray, List.set_cons_zero, List.set_cons_succ]
  refine wpAnyH_done (by kernel_rfl) ?_ _
  clear hHeld
  go_wp2_with fail
  go_ret
  exact ⟨rfl, cc⟩

set_option maxRecDepth 100000 in
set_option maxHeartbeats 8000000 in
theorem bkcright_u {w : World} {k s : Int} {A B : Option Addr} {n c m d : Nat} {C : List Nat} (hk : Kind9 k) (hC : BR w A n c C) (h : 0 < s) (h2 : m = 0) (hs : sig9 k = false) :
    Calls Try.prog 74 #[.int .i64 k, .agg #[.int .i64 k, .int .i64 s, .slice A n c, .slice B m d]] w (GotV w (.bool (decide (near10 k 1 1 ∈ C)))) := by
  subst h2
  have t0 : decide (s < 0) = false := decide_eq_false (by omega)
  have t1 : (s == 0) = false := beq_eq_false_iff_ne.2 (by omega)
  have CS := fun V => bsig_N V k
  rw [hs] at CS
  have y6 : ((near10 k 1 1 : Nat) : Int) < 256 := by have := near10_le k 1 1; omega
  have CN := fun V => bknear_N V i64_o i64_o (shr_o hk)
  have hi1 := ixB_mem (C := C) (c := near10 k 1 1) hC.2.2.1 (by omega)
  have CI : ∀ {V : World}, BR V A n c C → Calls Try.prog 82 #[.slice A n c, .int .u8 ((near10 k 1 1 : Nat) : Int)] V (GotV V (.int .i64 (ixB C (near10 k 1 1)))) := fun h => bindex_N h _ y6
  generalize near10 k 1 1 = y at *
  generalize ixB C y = z at *
  obtain ⟨r, hr⟩ : ∃ r, decide (0 ≤ z) = r := ⟨_, rfl⟩
  have hr2 : decide (y ∈ C) = r := by rw [← hr]; exact decide_eq_decide.2 hi1.symm
  rw [hr2]
  clear hi1 hr2 hk hs h
  have cc := Below.refl w.heap.size w
  go_enter Try.func74, Try.ntmps74
  go_wp2_with fail
  have bA : Below w.heap.size w (w.alloc (.cells #[.int .i64 k, .int .i64 s, .slice A n c, .slice B 0 d] 26)) := ((Below.refl _ w).alloc (by simp) _)
  replace hC := hC.on bA
  replace cc := cc.trans (bA.mono cc.size)
  clear bA
  have ka0 : (w.alloc (.cells #[.int .i64 k, .int .i64 s, .slice A n c, .slice B 0 d] 26)).cell? ⟨w.heap.size, 0, none⟩ = some (.int .i64 k) := by simp [go_sem]
  have ka1 : (w.alloc (.cells #[.int .i64 k, .int .i64 s, .slice A n c, .slice B 0 d] 26)).cell? ⟨w.heap.size, 1, none⟩ = some (.int .i64 s) := by simp [go_sem]
  have ka2 : (w.alloc (.cells #[.int .i64 k, .int .i64 s, .slice A n c, .slice B 0 d] 26)).cell? ⟨w.heap.size, 2, none⟩ = some (.slice A n c) := by simp [go_sem]
  have ka3 : (w.alloc (.cells #[.int .i64 k, .int .i64 s, .slice A n c, .slice B 0 d] 26)).cell? ⟨w.heap.size, 3, none⟩ = some (.slice B 0 d) := by simp [go_sem]
  have kal : w.heap.size < (w.alloc (.cells #[.int .i64 k, .int .i64 s, .slice A n c, .slice B 0 d] 26)).heap.size := by simp <;> omega
  generalize w.alloc (.cells #[.int .i64 k, .int .i64 s, .slice A n c, .slice B 0 d] 26) = v1 at *
  go_wp2_with fail
  have bD : Below v1.heap.size v1 v1.drew := below_drewN (Below.refl _ v1) 1
  replace hC := hC.on bD
  replace ka0 := (bD.cell (p := ⟨w.heap.size, 0, none⟩) kal).trans ka0
  replace ka1 := (bD.cell (p := ⟨w.heap.size, 1, none⟩) kal).trans ka1
  replace ka2 := (bD.cell (p := ⟨w.heap.size, 2, none⟩) kal).trans ka2
  replace ka3 := (bD.cell (p := ⟨w.heap.size, 3, none⟩) kal).trans ka3
  replace kal := Nat.lt_of_lt_of_le kal bD.size
  replace cc := cc.trans (bD.mono cc.size)
  clear bD
  refine wp_region_held_drew (S := fun w' => w'.cell? ⟨w.heap.size, 0, none⟩ = some (.int .i64 k) ∧ w'.cell? ⟨w.heap.size, 1, none⟩ = some (.int .i64 s) ∧ w'.cell? ⟨w.heap.size, 2, none⟩ = some (.slice A n c) ∧ w'.cell? ⟨w.heap.size, 3, none⟩ = some (.slice B 0 d)) (by kernel_rfl) ?_ (fun hHeld => ?_)
  · exact ⟨ka0, ka1, ka2, ka3⟩
  refine wpAnyH_take (i := 0) (v := ?_) rfl (by kernel_rfl) (by kernel_rfl) (by kernel_rfl) (fun _ _ _ h => h) (Or.inl ⟨by rfl, ?_⟩) hHeld ?_
  rotate_left
  · (intro w hSw; (try dsimp only at hSw); go_simp; (try with_reducible rfl))
  try simp only [Act.put, List.getElem_toArray, List.getElem_cons_zero, List.getElem_cons_succ, List.setIfInBounds_toArray, List.set_cons_zero, List.set_cons_succ]
  refine wpAnyH_ready (rs := [1]) (by kernel_rfl) (by simp) ?_
  refine AllReadyH.cons rfl (fun K hK => ?_) AllReadyH.nil
  (try simp only [List.getElem_toArray, List.getElem_cons_zero, List.getElem_cons_succ])
  rw [if_pos (by rfl)]
  go_simp
  go_at_call 81
  refine (CS _).mono ?_
  rintro e w2 ⟨rfl, b⟩
  replace hC := hC.on b
  replace ka0 := (b.cell (p := ⟨w.heap.size, 0, none⟩) kal).trans ka0
  replace ka1 := (b.cell (p := ⟨w.heap.size, 1, none⟩) kal).trans ka1
  replace ka2 := (b.cell (p := ⟨w.heap.size, 2, none⟩) kal).trans ka2
  replace ka3 := (b.cell (p := ⟨w.heap.size, 3, none⟩) kal).trans ka3
  replace kal := Nat.lt_of_lt_of_le kal b.size
  replace cc := cc.trans (b.mono cc.size)
  clear b
  refine hK.out _ _ ?_ (fun hHeld => ?_)
  · exact ⟨ka0, ka1, ka2, ka3⟩
  clear hK K
  try simp only [Act.put, List.getElem_toArray, List.getElem_cons_zero, List.getElem_cons_succ, List.setIfInBounds_toArray, List.set_cons_zero, List.set_cons_succ]
  refine wpAnyH_take (i := 2) (v := ?_) rfl (by kernel_rfl) (by kernel_rfl) (by kernel_rfl) (fun _ _ _ h => h) (Or.inl ⟨by rfl, ?_⟩) hHeld ?_
  rotate_left
  · (intro w hSw; (try dsimp only at hSw); go_simp; (try with_reducible rfl))
  try simp only [Act.put, List.getElem_toArray, List.getElem_cons_zero, List.getElem_cons_succ, List.setIfInBounds_toArray, List.set_cons_zero, List.set_cons_succ]
  refine wpAnyH_take (i := 3) (v := undef) rfl (by kernel_rfl) (by kernel_rfl) (by kernel_rfl) (fun _ _ _ h => h) (Or.inr ⟨by rfl, rfl⟩) hHeld ?_
  try simp only [Act.put, List.getElem_toArray, List.getElem_cons_zero, List.getElem_cons_succ, List.setIfInBounds_toArray, List.set_cons_zero, List.set_cons_succ]
  refine wpAnyH_take (i := 4) (v := undef) rfl (by kernel_rfl) (by kernel_rfl) (by kernel_rfl) (fun _ _ _ h => h) (Or.inr ⟨by rfl, rfl⟩) hHeld ?_
  try simp only [Act.put, List.getElem_toArray, List.getElem_cons_zero, List.getElem_cons_succ, List.setIfInBounds_toArray, List.set_cons_zero, List.set_cons_succ]
  refine wpAnyH_take (i := 5) (v := undef) rfl (by kernel_rfl) (by kernel_rfl) (by kernel_rfl) (fun _ _ _ h => h) (Or.inr ⟨by rfl, rfl⟩) hHeld ?_
  try simp only [Act.put, List.getElem_toArray, List.getElem_cons_zero, List.getElem_cons_succ, List.setIfInBounds_toArray, List.set_cons_zero, List.set_cons_succ]
  refine wpAnyH_take (i := 6) (v := undef) rfl (by kernel_rfl) (by kernel_rfl) (by kernel_rfl) (fun _ _ _ h => h) (Or.inr ⟨by rfl, rfl⟩) hHeld ?_
  try simp only [Act.put, List.getElem_toArray, List.getElem_cons_zero, List.getElem_cons_succ, List.setIfInBounds_toArray, List.set_cons_zero, List.set_cons_succ]
  refine wpAnyH_take (i := 7) (v := undef) rfl (by kernel_rfl) (by kernel_rfl) (by kernel_rfl) (fun _ _ _ h => h) (Or.inr ⟨by rfl, rfl⟩) hHeld ?_
  try simp only [Act.put, List.getElem_toArray, List.getElem_cons_zero, List.getElem_cons_succ, List.setIfInBounds_toArray, List.set_cons_zero, List.set_cons_succ]
  refine wpAnyH_take (i := 8) (v := undef) rfl (by kernel_rfl) (by kernel_rfl) (by kernel_rfl) (fun _ _ _ h => h) (Or.inr ⟨by rfl, rfl⟩) hHeld ?_
  try simp only [Act.put, List.getElem_toArray, List.getElem_cons_zero, List.getElem_cons_succ, List.setIfInBounds_toArray, List.set_cons_zero, List.set_cons_succ]
  refine wpAnyH_take (i := 9) (v := ?_) rfl (by kernel_rfl) (by kernel_rfl) (by kernel_rfl) (fun _ _ _ h => h) (Or.inl ⟨by rfl, ?_⟩) hHeld ?_
  rotate_left
  · (intro w hSw; (try dsimp only at hSw); go_simp; (try with_reducible rfl))
  try simp only [Act.put, List.getElem_toArray, List.getElem_cons_zero, List.getElem_cons_succ, List.setIfInBounds_toArray, List.set_cons_zero, List.set_cons_succ]
  refine wpAnyH_done (by kernel_rfl) ?_ _
  clear hHeld
  go_wp2_with fail
  have bD : Below w2.heap.size w2 w2.drew := below_drewN (Below.refl _ w2) 1
  replace hC := hC.on bD
  replace ka0 := (bD.cell (p := ⟨w.heap.size, 0, none⟩) kal).trans ka0
  replace ka1 := (bD.cell (p := ⟨w.heap.size, 1, none⟩) kal).trans ka1
  replace ka2 := (bD.cell (p := ⟨w.heap.size, 2, none⟩) kal).trans ka2
  replace ka3 := (bD.cell (p := ⟨w.heap.size, 3, none⟩) kal).trans ka3
  replace kal := Nat.lt_of_lt_of_le kal bD.size
  replace cc := cc.trans (bD.mono cc.size)
  clear bD
  refine wp_region_held_drew (S := fun w' => w'.cell? ⟨w.heap.size, 0, none⟩ = some (.int .i64 k) ∧ w'.cell? ⟨w.heap.size, 1, none⟩ = some (.int .i64 s) ∧ w'.cell? ⟨w.heap.size, 2, none⟩ = some (.slice A n c) ∧ w'.cell? ⟨w.heap.size, 3, none⟩ = some (.slice B 0 d)) (by kernel_rfl) ?_ (fun hHeld => ?_)
  · exact ⟨ka0, ka1, ka2, ka3⟩
  refine wpAnyH_take (i := 0) (v := ?_) rfl (by kernel_rfl) (by kernel_rfl) (by kernel_rfl) (fun _ _ _ h => h) (Or.inl ⟨by rfl, ?_⟩) hHeld ?_
  rotate_left
  · (intro w hSw; (try dsimp only at hSw); go_simp; (try with_reducible rfl))
  try simp only [Act.put, List.getElem_toArray, List.getElem_cons_zero, List.getElem_cons_succ, List.setIfInBounds_toArray, List.set_cons_zero, List.set_cons_succ]
  refine wpAnyH_take (i := 1) (v := ?_) rfl (by kernel_rfl) (by kernel_rfl) (by kernel_rfl) (fun _ _ _ h => h) (Or.inl ⟨by rfl, ?_⟩) hHeld ?_
  rotate_left
  · (intro w hSw; (try dsimp only at hSw); go_simp; (try with_reducible rfl))
  try simp only [Act.put, List.getElem_toArray, List.getElem_cons_zero, List.getElem_cons_succ, List.setIfInBounds_toArray, List.set_cons_zero, List.set_cons_succ]
  refine wpAnyH_take (i := 2) (v := ?_) rfl (by kernel_rfl) (by kernel_rfl) (by kernel_rfl) (fun _ _ _ h => h) (Or.inl ⟨by rfl, ?_⟩) hHeld ?_
  rotate_left
  · (intro w hSw; (try dsimp only at hSw); go_simp; (try with_reducible rfl))
  try simp only [Act.put, List.getElem_toArray, List.getElem_cons_zero, List.getElem_cons_succ, List.setIfInBounds_toArray, List.set_cons_zero, List.set_cons_succ]
  refine wpAnyH_ready (rs := [3]) (by kernel_rfl) (by simp) ?_
  refine AllReadyH.cons rfl (fun K hK => ?_) AllReadyH.nil
  (try simp only [List.getElem_toArray, List.getElem_cons_zero, List.getElem_cons_succ])
  rw [if_pos (by rfl)]
  go_simp
  go_at_call 79
  refine (CN _).mono ?_
  rintro e w3 ⟨rfl, b⟩
  replace hC := hC.on b
  replace ka0 := (b.cell (p := ⟨w.heap.size, 0, none⟩) kal).trans ka0
  replace ka1 := (b.cell (p := ⟨w.heap.size, 1, none⟩) kal).trans ka1
  replace ka2 := (b.cell (p := ⟨w.heap.size, 2, none⟩) kal).trans ka2
  replace ka3 := (b.cell (p := ⟨w.heap.size, 3, none⟩) kal).trans ka3
  replace kal := Nat.lt_of_lt_of_le kal b.size
  replace cc := cc.trans (b.mono cc.size)
  clear b
  refine hK.out _ _ ?_ (fun hHeld => ?_)
  · exact ⟨ka0, ka1, ka2, ka3⟩
  clear hK K
  try simp only [Act.put, List.getElem_toArray, List.getElem_cons_zero, List.getElem_cons_succ, List.setIfInBounds_toArray, List.set_cons_zero, List.set_cons_succ]
  refine wpAnyH_ready (rs := [4]) (by kernel_rfl) (by simp) ?_
  refine AllReadyH.cons rfl (fun K hK => ?_) AllReadyH.nil
  (try simp only [List.getElem_toArray, List.getElem_cons_zero, List.getElem_cons_succ])
  rw [if_pos (by rfl)]
  go_simp
  go_at_call 82
  refine (CI hC).mono ?_
  rintro e w4 ⟨rfl, b⟩
  replace hC := hC.on b
  replace ka0 := (b.cell (p := ⟨w.heap.size, 0, none⟩) kal).trans ka0
  replace ka1 := (b.cell (p := ⟨w.heap.size, 1, none⟩) kal).trans ka1
  replace ka2 := (b.cell (p := ⟨w.heap.size, 2, none⟩) kal).trans ka2
  replace ka3 := (b.cell (p := ⟨w.heap.size, 3, none⟩) kal).trans ka3
  replace kal := Nat.lt_of_lt_of_le kal b.size
  replace cc := cc.trans (b.mono cc.size)
  clear b
  refine hK.out _ _ ?_ (fun hHeld => ?_)
  · exact ⟨ka0, ka1, ka2, ka3⟩
  clear hK K
  try simp only [Act.put, List.getElem_toArray, List.getElem_cons_zero, List.getElem_cons_succ, List.setIfInBounds_toArray, List.set_cons_zero, List.set_cons_succ]
  refine wpAnyH_take (i := 5) (v := ?_) rfl (by kernel_rfl) (by kernel_rfl) (by kernel_rfl) (fun _ _ _ h => h) (Or.inl ⟨by rfl, ?_⟩) hHeld ?_
  rotate_left
  · (intro w hSw; (try dsimp only at hSw); go_simp; (try with_reducible rfl))
  try simp only [Act.put, List.getElem_toArray, List.getElem_cons_zero, List.getElem_cons_succ, List.setIfInBounds_toArray, List.set_cons_zero, List.set_cons_succ]
  refine wpAnyH_take (i := 6) (v := ?_) rfl (by kernel_rfl) (by kernel_rfl) (by kernel_rfl) (fun _ _ _ h => h) (Or.inl ⟨by rfl, ?_⟩) hHeld ?_
  rotate_left
  · (intro w hSw; (try dsimp only at hSw); go_simp; (try with_reducible rfl))
  try simp only [Act.put, List.getElem_toArray, List.getElem_cons_zero, List.getElem_cons_succ, List.setIfInBounds_toArray, List.set_cons_zero, List.set_cons_succ]
  refine wpAnyH_done (by kernel_rfl) ?_ _
  clear hHeld
  go_wp2_with fail
  go_ret
  exact ⟨rfl, cc⟩

set_option maxRecDepth 100000 in
set_option maxHeartbeats 8000000 in
theorem bkcright_n {w : World} {k s : Int} {A B : Option Addr} {n c m d : Nat} {C : List Nat} (hk : Kind9 k) (hC : BR w A n c C) (h : 0 < s) (h2 : m = 0) (hs : sig9 k = true) (h3 : ¬ near10 k (-1) 1 ∈ C) :
    Calls Try.prog 74 #[.int .i64 k, .agg #[.int .i64 k, .int .i64 s, .slice A n c, .slice B m d]] w (GotV w (.bool (decide (near10 k 1 1 ∈ C)))) := by
  subst h2
  have t0 : decide (s < 0) = false := decide_eq_false (by omega)
  have t1 : (s == 0) = false := beq_eq_false_iff_ne.2 (by omega)
  have CS := fun V => bsig_N V k
  rw [hs] at CS
  have y6 : ((near10 k 1 1 : Nat) : Int) < 256 := by have := near10_le k 1 1; omega
  have CN := fun V => bknear_N V i64_o i64_o (shr_o hk)
  have hi1 := ixB_mem (C := C) (c := near10 k 1 1) hC.2.2.1 (by omega)
  have CI : ∀ {V : World}, BR V A n c C → Calls Try.prog 82 #[.slice A n c, .int .u8 ((near10 k 1 1 : Nat) : Int)] V (GotV V (.int .i64 (ixB C (near10 k 1 1)))) := fun h => bindex_N h _ y6
  have y7 : ((near10 k (-1) 1 : Nat) : Int) < 256 := by have := near10_le k (-1) 1; omega
  have CL := fun V => bknear_N V i64_n i64_o (shr_m hk hs)
  have hi2 := ixB_mem (C := C) (c := near10 k (-1) 1) hC.2.2.1 (by omega)
  have CJ : ∀ {V : World}, BR V A n c C → Calls Try.prog 82 #[.slice A n c, .int .u8 ((near10 k (-1) 1 : Nat) : Int)] V (GotV V (.int .i64 (ixB C (near10 k (-1) 1)))) := fun h => bindex_N h _ y7
  generalize near10 k 1 1 = y at *
  generalize ixB C y = z at *
  generalize near10 k (-1) 1 = u at *
  generalize ixB C u = v at *
  have t3 : decide (0 ≤ v) = false := decide_eq_false (by rw [hi2]; exact h3)
  clear hi2 h3
  obtain ⟨r, hr⟩ : ∃ r, decide (0 ≤ z) = r := ⟨_, rfl⟩
  have hr2 : decide (y ∈ C) = r := by rw [← hr]; exact decide_eq_decide.2 hi1.symm
  rw [hr2]
  clear hi1 hr2 hk hs h
  have cc := Below.refl w.heap.size w
  go_enter Try.func74, Try.ntmps74
  go_wp2_with fail
  have bA : Below w.heap.size w (w.alloc (.cells #[.int .i64 k, .int .i64 s, .slice A n c, .slice B 0 d] 26)) := ((Below.refl _ w).alloc (by simp) _)
  replace hC := hC.on bA
  replace cc := cc.trans (bA.mono cc.size)
  clear bA
  have ka0 : (w.alloc (.cells #[.int .i64 k, .int .i64 s, .slice A n c, .slice B 0 d] 26)).cell? ⟨w.heap.size, 0, none⟩ = some (.int .i64 k) := by simp [go_sem]
  have ka1 : (w.alloc (.cells #[.int .i64 k, .int .i64 s, .slice A n c, .slice B 0 d] 26)).cell? ⟨w.heap.size, 1, none⟩ = some (.int .i64 s) := by simp [go_sem]
  have ka2 : (w.alloc (.cells #[.int .i64 k, .int .i64 s, .slice A n c, .slice B 0 d] 26)).cell? ⟨w.heap.size, 2, none⟩ = some (.slice A n c) := by simp [go_sem]
  have ka3 : (w.alloc (.cells #[.int .i64 k, .int .i64 s, .slice A n c, .slice B 0 d] 26)).cell? ⟨w.heap.size, 3, none⟩ = some (.slice B 0 d) := by simp [go_sem]
  have kal : w.heap.size < (w.alloc (.cells #[.int .i64 k, .int .i64 s, .slice A n c, .slice B 0 d] 26)).heap.size := by simp <;> omega
  generalize w.alloc (.cells #[.int .i64 k, .int .i64 s, .slice A n c, .slice B 0 d] 26) = v1 at *
  go_wp2_with fail
  have bD : Below v1.heap.size v1 v1.drew := below_drewN (Below.refl _ v1) 1
  replace hC := hC.on bD
  replace ka0 := (bD.cell (p := ⟨w.heap.size, 0, none⟩) kal).trans ka0
  replace ka1 := (bD.cell (p := ⟨w.heap.size, 1, none⟩) kal).trans ka1
  replace ka2 := (bD.cell (p := ⟨w.heap.size, 2, none⟩) kal).trans ka2
  replace ka3 := (bD.cell (p := ⟨w.heap.size, 3, none⟩) kal).trans ka3
  replace kal := Nat.lt_of_lt_of_le kal bD.size
  replace cc := cc.trans (bD.mono cc.size)
  clear bD
  refine wp_region_held_drew (S := fun w' => w'.cell? ⟨w.heap.size, 0, none⟩ = some (.int .i64 k) ∧ w'.cell? ⟨w.heap.size, 1, none⟩ = some (.int .i64 s) ∧ w'.cell? ⟨w.heap.size, 2, none⟩ = some (.slice A n c) ∧ w'.cell? ⟨w.heap.size, 3, none⟩ = some (.slice B 0 d)) (by kernel_rfl) ?_ (fun hHeld => ?_)
  · exact ⟨ka0, ka1, ka2, ka3⟩
  refine wpAnyH_take (i := 0) (v := ?_) rfl (by kernel_rfl) (by kernel_rfl) (by kernel_rfl) (fun _ _ _ h => h) (Or.inl ⟨by rfl, ?_⟩) hHeld ?_
  rotate_left
  · (intro w hSw; (try dsimp only at hSw); go_simp; (try with_reducible rfl))
  try simp only [Act.put, List.getElem_toArray, List.getElem_cons_zero, List.getElem_cons_succ, List.setIfInBounds_toArray, List.set_cons_zero, List.set_cons_succ]
  refine wpAnyH_ready (rs := [1]) (by kernel_rfl) (by simp) ?_
  refine AllReadyH.cons rfl (fun K hK => ?_) AllReadyH.nil
  (try simp only [List.getElem_toArray, List.getElem_cons_zero, List.getElem_cons_succ])
  rw [if_pos (by rfl)]
  go_simp
  go_at_call 81
  refine (CS _).mono ?_
  rintro e w2 ⟨rfl, b⟩
  replace hC := hC.on b
  replace ka0 := (b.cell (p := ⟨w.heap.size, 0, none⟩) kal).trans ka0
  replace ka1 := (b.cell (p := ⟨w.heap.size, 1, none⟩) kal).trans ka1
  replace ka2 := (b.cell (p := ⟨w.heap.size, 2, none⟩) kal).trans ka2
  replace ka3 := (b.cell (p := ⟨w.heap.size, 3, none⟩) kal).trans ka3
  replace kal := Nat.lt_of_lt_of_le kal b.size
  replace cc := cc.trans (b.mono cc.size)
  clear b
  refine hK.out _ _ ?_ (fun hHeld => ?_)
  · exact ⟨ka0, ka1, ka2, ka3⟩
  clear hK K
  try simp only [Act.put, List.getElem_toArray, List.getElem_cons_zero, List.getElem_cons_succ, List.setIfInBounds_toArray, List.set_cons_zero, List.set_cons_succ]
  refine wpAnyH_take (i := 2) (v := ?_) rfl (by kernel_rfl) (by kernel_rfl) (by kernel_rfl) (fun _ _ _ h => h) (Or.inl ⟨by rfl, ?_⟩) hHeld ?_
  rotate_left
  · (intro w hSw; (try dsimp only at hSw); go_simp; (try with_reducible rfl))
  try simp only [Act.put, List.getElem_toArray, List.getElem_cons_zero, List.getElem_cons_succ, List.setIfInBounds_toArray, List.set_cons_zero, List.set_cons_succ]
  refine wpAnyH_take (i := 3) (v := ?_) rfl (by kernel_rfl) (by kernel_rfl) (by kernel_rfl) (fun _ _ _ h => h) (Or.inl ⟨by rfl, ?_⟩) hHeld ?_
  rotate_left
  · (intro w hSw; (try dsimp only at hSw); go_simp; (try with_reducible rfl))
  try simp only [Act.put, List.getElem_toArray, List.getElem_cons_zero, List.getElem_cons_succ, List.setIfInBounds_toArray, List.set_cons_zero, List.set_cons_succ]
  refine wpAnyH_take (i := 4) (v := ?_) rfl (by kernel_rfl) (by kernel_rfl) (by kernel_rfl) (fun _ _ _ h => h) (Or.inl ⟨by rfl, ?_⟩) hHeld ?_
  rotate_left
  · (intro w hSw; (try dsimp only at hSw); go_simp; (try with_reducible rfl))
  try simp only [Act.put, List.getElem_toArray, List.getElem_cons_zero, List.getElem_cons_succ, List.setIfInBounds_toArray, List.set_cons_zero, List.set_cons_succ]
  refine wpAnyH_take (i := 5) (v := ?_) rfl (by kernel_rfl) (by kernel_rfl) (by kernel_rfl) (fun _ _ _ h => h) (Or.inl ⟨by rfl, ?_⟩) hHeld ?_
  rotate_left
  · (intro w hSw; (try dsimp only at hSw); go_simp; (try with_reducible rfl))
  try simp only [Act.put, List.getElem_toArray, List.getElem_cons_zero, List.getElem_cons_succ, List.setIfInBounds_toArray, List.set_cons_zero, List.set_cons_succ]
  refine wpAnyH_ready (rs := [6]) (by kernel_rfl) (by simp) ?_
  refine AllReadyH.cons rfl (fun K hK => ?_) AllReadyH.nil
  (try simp only [List.getElem_toArray, List.getElem_cons_zero, List.getElem_cons_succ])
  rw [if_pos (by rfl)]
  go_simp
  go_at_call 79
  refine (CL _).mono ?_
  rintro e w3 ⟨rfl, b⟩
  replace hC := hC.on b
  replace ka0 := (b.cell (p := ⟨w.heap.size, 0, none⟩) kal).trans ka0
  replace ka1 := (b.cell (p := ⟨w.heap.size, 1, none⟩) kal).trans ka1
  replace ka2 := (b.cell (p := ⟨w.heap.size, 2, none⟩) kal).trans ka2
  replace ka3 := (b.cell (p := ⟨w.heap.size, 3, none⟩) kal).trans ka3
  replace kal := Nat.lt_of_lt_of_le kal b.size
  replace cc := cc.trans (b.mono cc.size)
  clear b
  refine hK.out _ _ ?_ (fun hHeld => ?_)
  · exact ⟨ka0, ka1, ka2, ka3⟩
  clear hK K
  try simp only [Act.put, List.getElem_toArray, List.getElem_cons_zero, List.getElem_cons_succ, List.setIfInBounds_toArray, List.set_cons_zero, List.set_cons_succ]
  refine wpAnyH_ready (rs := [7]) (by kernel_rfl) (by simp) ?_
  refine AllReadyH.cons rfl (fun K hK => ?_) AllReadyH.nil
  (try simp only [List.getElem_toArray, List.getElem_cons_zero, List.getElem_cons_succ])
  rw [if_pos (by rfl)]
  go_simp
  go_at_call 82
  refine (CJ hC).mono ?_
  rintro e w4 ⟨rfl, b⟩
  replace hC := hC.on b
  replace ka0 := (b.cell (p := ⟨w.heap.size, 0, none⟩) kal).trans ka0
  replace ka1 := (b.cell (p := ⟨w.heap.size, 1, none⟩) kal).trans ka1
  replace ka2 := (b.cell (p := ⟨w.heap.size, 2, none⟩) kal).trans ka2
  replace ka3 := (b.cell (p := ⟨w.heap.size, 3, none⟩) kal).trans ka3
  replace kal := Nat.lt_of_lt_of_le kal b.size
  replace cc := cc.trans (b.mono cc.size)
  clear b
  refine hK.out _ _ ?_ (fun hHeld => ?_)
  · exact ⟨ka0, ka1, ka2, ka3⟩
  clear hK K
  try simp only [Act.put, List.getElem_toArray, List.getElem_cons_zero, List.getElem_cons_succ, List.setIfInBounds_toArray, List.set_cons_zero, List.set_cons_succ]
  refine wpAnyH_take (i := 8) (v := ?_) rfl (by kernel_rfl) (by kernel_rfl) (by kernel_rfl) (fun _ _ _ h => h) (Or.inl ⟨by rfl, ?_⟩) hHeld ?_
  rotate_left
  · (intro w hSw; (try dsimp only at hSw); go_simp; (try with_reducible rfl))
  try simp only [Act.put, List.getElem_toArray, List.getElem_cons_zero, List.getElem_cons_succ, List.setIfInBounds_toArray, List.set_cons_zero, List.set_cons_succ]
  refine wpAnyH_take (i := 9) (v := ?_) rfl (by kernel_rfl) (by kernel_rfl) (by kernel_rfl) (fun _ _ _ h => h) (Or.inl ⟨by rfl, ?_⟩) hHeld ?_
  rotate_left
  · (intro w hSw; (try dsimp only at hSw); go_simp; (try with_reducible rfl))
  try simp only [Act.put, List.getElem_toArray, List.getElem_cons_zero, List.getElem_cons_succ, List.setIfInBounds_toArray, List.set_cons_zero, List.set_cons_succ]
  refine wpAnyH_done (by kernel_rfl) ?_ _
  clear hHeld
  go_wp2_with fail
  have bD : Below w4.heap.size w4 w4.drew := below_drewN (Below.refl _ w4) 1
  replace hC := hC.on bD
  replace ka0 := (bD.cell (p := ⟨w.heap.size, 0, none⟩) kal).trans ka0
  replace ka1 := (bD.cell (p := ⟨w.heap.size, 1, none⟩) kal).trans ka1
  replace ka2 := (bD.cell (p := ⟨w.heap.size, 2, none⟩) kal).trans ka2
  replace ka3 := (bD.cell (p := ⟨w.heap.size, 3, none⟩) kal).trans ka3
  replace kal := Nat.lt_of_lt_of_le kal bD.size
  replace cc := cc.trans (bD.mono cc.size)
  clear bD
  refine wp_region_held_drew (S := fun w' => w'.cell? ⟨w.heap.size, 0, none⟩ = some (.int .i64 k) ∧ w'.cell? ⟨w.heap.size, 1, none⟩ = some (.int .i64 s) ∧ w'.cell? ⟨w.heap.size, 2, none⟩ = some (.slice A n c) ∧ w'.cell? ⟨w.heap.size, 3, none⟩ = some (.slice B 0 d)) (by kernel_rfl) ?_ (fun hHeld => ?_)
  · exact ⟨ka0, ka1, ka2, ka3⟩
  refine wpAnyH_take (i := 0) (v := ?_) rfl (by kernel_rfl) (by kernel_rfl) (by kernel_rfl) (fun _ _ _ h => h) (Or.inl ⟨by rfl, ?_⟩) hHeld ?_
  rotate_left
  · (intro w hSw; (try dsimp only at hSw); go_simp; (try with_reducible rfl))
  try simp only [Act.put, List.getElem_toArray, List.getElem_cons_zero, List.getElem_cons_succ, List.setIfInBounds_toArray, List.set_cons_zero, List.set_cons_succ]
  refine wpAnyH_take (i := 1) (v := ?_) rfl (by kernel_rfl) (by kernel_rfl) (by kernel_rfl) (fun _ _ _ h => h) (Or.inl ⟨by rfl, ?_⟩) hHeld ?_
  rotate_left
  · (intro w hSw; (try dsimp only at hSw); go_simp; (try with_reducible rfl))
  try simp only [Act.put, List.getElem_toArray, List.getElem_cons_zero, List.getElem_cons_succ, List.setIfInBounds_toArray, List.set_cons_zero, List.set_cons_succ]
  refine wpAnyH_take (i := 2) (v := ?_) rfl (by kernel_rfl) (by kernel_rfl) (by kernel_rfl) (fun _ _ _ h => h) (Or.inl ⟨by rfl, ?_⟩) hHeld ?_
  rotate_left
  · (intro w hSw; (try dsimp only at hSw); go_simp; (try with_reducible rfl))
  try simp only [Act.put, List.getElem_toArray, List.getElem_cons_zero, List.getElem_cons_succ, List.setIfInBounds_toArray, List.set_cons_zero, List.set_cons_succ]
  refine wpAnyH_ready (rs := [3]) (by kernel_rfl) (by simp) ?_
  refine AllReadyH.cons rfl (fun K hK => ?_) AllReadyH.nil
  (try simp only [List.getElem_toArray, List.getElem_cons_zero, List.getElem_cons_succ])
  rw [if_pos (by rfl)]
  go_simp
  go_at_call 79
  refine (CN _).mono ?_
  rintro e w5 ⟨rfl, b⟩
  replace hC := hC.on b
  replace ka0 := (b.cell (p := ⟨w.heap.size, 0, none⟩) kal).trans ka0
  replace ka1 := (b.cell (p := ⟨w.heap.size, 1, none⟩) kal).trans ka1
  replace ka2 := (b.cell (p := ⟨w.heap.size, 2, none⟩) kal).trans ka2
  replace ka3 := (b.cell (p := ⟨w.heap.size, 3, none⟩) kal).trans ka3
  replace kal := Nat.lt_of_lt_of_le kal b.size
  replace cc := cc.trans (b.mono cc.size)
  clear b
  refine hK.out _ _ ?_ (fun hHeld => ?_)
  · exact ⟨ka0, ka1, ka2, ka3⟩
  clear hK K
  try simp only [Act.put, List.getElem_toArray, List.getElem_cons_zero, List.getElem_cons_succ, List.setIfInBounds_toArray, List.set_cons_zero, List.set_cons_succ]
  refine wpAnyH_ready (rs := [4]) (by kernel_rfl) (by simp) ?_
  refine AllReadyH.cons rfl (fun K hK => ?_) AllReadyH.nil
  (try simp only [List.getElem_toArray, List.getElem_cons_zero, List.getElem_cons_succ])
  rw [if_pos (by rfl)]
  go_simp
  go_at_call 82
  refine (CI hC).mono ?_
  rintro e w6 ⟨rfl, b⟩
  replace hC := hC.on b
  replace ka0 := (b.cell (p := ⟨w.heap.size, 0, none⟩) kal).trans ka0
  replace ka1 := (b.cell (p := ⟨w.heap.size, 1, none⟩) kal).trans ka1
  replace ka2 := (b.cell (p := ⟨w.heap.size, 2, none⟩) kal).trans ka2
  replace ka3 := (b.cell (p := ⟨w.heap.size, 3, none⟩) kal).trans ka3
  replace kal := Nat.lt_of_lt_of_le kal b.size
  replace cc := cc.trans (b.mono cc.size)
  clear b
  refine hK.out _ _ ?_ (fun hHeld => ?_)
  · exact ⟨ka0, ka1, ka2, ka3⟩
  clear hK K
  try simp only [Act.put, List.getElem_toArray, List.getElem_cons_zero, List.getElem_cons_succ, List.setIfInBounds_toArray, List.set_cons_zero, List.set_cons_succ]
  refine wpAnyH_take (i := 5) (v := ?_) rfl (by kernel_rfl) (by kernel_rfl) (by kernel_rfl) (fun _ _ _ h => h) (Or.inl ⟨by rfl, ?_⟩) hHeld ?_
  rotate_left
  · (intro w hSw; (try dsimp only at hSw); go_simp; (try with_reducible rfl))
  try simp only [Act.put, List.getElem_toArray, List.getElem_cons_zero, List.getElem_cons_succ, List.setIfInBounds_toArray, List.set_cons_zero, List.set_cons_succ]
  refine wpAnyH_take (i := 6) (v := ?_) rfl (by kernel_rfl) (by kernel_rfl) (by kernel_rfl) (fun _ _ _ h => h) (Or.inl ⟨by rfl, ?_⟩) hHeld ?_
  rotate_left
  · (intro w hSw; (try dsimp only at hSw); go_simp; (try with_reducible rfl))
  try simp only [Act.put, List.getElem_toArray, List.getElem_cons_zero, List.getElem_cons_succ, List.setIfInBounds_toArray, List.set_cons_zero, List.set_cons_succ]
  refine wpAnyH_done (by kernel_rfl) ?_ _
  clear hHeld
  go_wp2_with fail
  go_ret
  exact ⟨rfl, cc⟩

set_option maxRecDepth 100000 in
set_option maxHeartbeats 8000000 in
theorem bkcright_y {w : World} {k s : Int} {A B : Option Addr} {n c m d : Nat} {C : List Nat} (hk : Kind9 k) (hC : BR w A n c C) (h : 0 < s) (h2 : m = 0) (hs : sig9 k = true) (h3 : near10 k (-1) 1 ∈ C) :
    Calls Try.prog 74 #[.int .i64 k, .agg #[.int .i64 k, .int .i64 s, .slice A n c, .slice B m d]] w (GotV w (.bool true)) := by
  subst h2
  have t0 : decide (s < 0) = false := decide_eq_false (by omega)
  have t1 : (s == 0) = false := beq_eq_false_iff_ne.2 (by omega)
  have CS := fun V => bsig_N V k
  rw [hs] at CS
  have y6 : ((near10 k 1 1 : Nat) : Int) < 256 := by have := near10_le k 1 1; omega
  have CN := fun V => bknear_N V i64_o i64_o (shr_o hk)
  have hi1 := ixB_mem (C := C) (c := near10 k 1 1) hC.2.2.1 (by omega)
  have CI : ∀ {V : World}, BR V A n c C → Calls Try.prog 82 #[.slice A n c, .int .u8 ((near10 k 1 1 : Nat) : Int)] V (GotV V (.int .i64 (ixB C (near10 k 1 1)))) := fun h => bindex_N h _ y6
  have y7 : ((near10 k (-1) 1 : Nat) : Int) < 256 := by have := near10_le k (-1) 1; omega
  have CL := fun V => bknear_N V i64_n i64_o (shr_m hk hs)
  have hi2 := ixB_mem (C := C) (c := near10 k (-1) 1) hC.2.2.1 (by omega)
  have CJ : ∀ {V : World}, BR V A n c C → Calls Try.prog 82 #[.slice A n c, .int .u8 ((near10 k (-1) 1 : Nat) : Int)] V (GotV V (.int .i64 (ixB C (near10 k (-1) 1)))) := fun h => bindex_N h _ y7
  generalize near10 k 1 1 = y at *
  generalize ixB C y = z at *
  generalize near10 k (-1) 1 = u at *
  generalize ixB C u = v at *
  have t3 : decide (0 ≤ v) = true := decide_eq_true (by rw [hi2]; exact h3)
  clear hi2 h3
  obtain ⟨r, hr⟩ : ∃ r, decide (0 ≤ z) = r := ⟨_, rfl⟩
  have hr2 : decide (y ∈ C) = r := by rw [← hr]; exact decide_eq_decide.2 hi1.symm
  clear hi1 hr2 hk hs h
  have cc := Below.refl w.heap.size w
  go_enter Try.func74, Try.ntmps74
  go_wp2_with fail
  have bA : Below w.heap.size w (w.alloc (.cells #[.int .i64 k, .int .i64 s, .slice A n c, .slice B 0 d] 26)) := ((Below.refl _ w).alloc (by simp) _)
  replace hC := hC.on bA
  replace cc := cc.trans (bA.mono cc.size)
  clear bA
  have ka0 : (w.alloc (.cells #[.int .i64 k, .int .i64 s, .slice A n c, .slice B 0 d] 26)).cell? ⟨w.heap.size, 0, none⟩ = some (.int .i64 k) := by simp [go_sem]
  have ka1 : (w.alloc (.cells #[.int .i64 k, .int .i64 s, .slice A n c, .slice B 0 d] 26)).cell? ⟨w.heap.size, 1, none⟩ = some (.int .i64 s) := by simp [go_sem]
  have ka2 : (w.alloc (.cells #[.int .i64 k, .int .i64 s, .slice A n c, .slice B 0 d] 26)).cell? ⟨w.heap.size, 2, none⟩ = some (.slice A n c) := by simp [go_sem]
  have ka3 : (w.alloc (.cells #[.int .i64 k, .int .i64 s, .slice A n c, .slice B 0 d] 26)).cell? ⟨w.heap.size, 3, none⟩ = some (.slice B 0 d) := by simp [go_sem]
  have kal : w.heap.size < (w.alloc (.cells #[.int .i64 k, .int .i64 s, .slice A n c, .slice B 0 d] 26)).heap.size := by simp <;> omega
  generalize w.alloc (.cells #[.int .i64 k, .int .i64 s, .slice A n c, .slice B 0 d] 26) = v1 at *
  go_wp2_with fail
  have bD : Below v1.heap.size v1 v1.drew := below_drewN (Below.refl _ v1) 1
  replace hC := hC.on bD
  replace ka0 := (bD.cell (p := ⟨w.heap.size, 0, none⟩) kal).trans ka0
  replace ka1 := (bD.cell (p := ⟨w.heap.size, 1, none⟩) kal).trans ka1
  replace ka2 := (bD.cell (p := ⟨w.heap.size, 2, none⟩) kal).trans ka2
  replace ka3 := (bD.cell (p := ⟨w.heap.size, 3, none⟩) kal).trans ka3
  replace kal := Nat.lt_of_lt_of_le kal bD.size
  replace cc := cc.trans (bD.mono cc.size)
  clear bD
  refine wp_region_held_drew (S := fun w' => w'.cell? ⟨w.heap.size, 0, none⟩ = some (.int .i64 k) ∧ w'.cell? ⟨w.heap.size, 1, none⟩ = some (.int .i64 s) ∧ w'.cell? ⟨w.heap.size, 2, none⟩ = some (.slice A n c) ∧ w'.cell? ⟨w.heap.size, 3, none⟩ = some (.slice B 0 d)) (by kernel_rfl) ?_ (fun hHeld => ?_)
  · exact ⟨ka0, ka1, ka2, ka3⟩
  refine wpAnyH_take (i := 0) (v := ?_) rfl (by kernel_rfl) (by kernel_rfl) (by kernel_rfl) (fun _ _ _ h => h) (Or.inl ⟨by rfl, ?_⟩) hHeld ?_
  rotate_left
  · (intro w hSw; (try dsimp only at hSw); go_simp; (try with_reducible rfl))
  try simp only [Act.put, List.getElem_toArray, List.getElem_cons_zero, List.getElem_cons_succ, List.setIfInBounds_toArray, List.set_cons_zero, List.set_cons_succ]
  refine wpAnyH_ready (rs := [1]) (by kernel_rfl) (by simp) ?_
  refine AllReadyH.cons rfl (fun K hK => ?_) AllReadyH.nil
  (try simp only [List.getElem_toArray, List.getElem_cons_zero, List.getElem_cons_succ])
  rw [if_pos (by rfl)]
  go_simp
  go_at_call 81
  refine (CS _).mono ?_
  rintro e w2 ⟨rfl, b⟩
  replace hC := hC.on b
  replace ka0 := (b.cell (p := ⟨w.heap.size, 0, none⟩) kal).trans ka0
  replace ka1 := (b.cell (p := ⟨w.heap.size, 1, none⟩) kal).trans ka1
  replace ka2 := (b.cell (p := ⟨w.heap.size, 2, none⟩) kal).trans ka2
  replace ka3 := (b.cell (p := ⟨w.heap.size, 3, none⟩) kal).trans ka3
  replace kal := Nat.lt_of_lt_of_le kal b.size
  replace cc := cc.trans (b.mono cc.size)
  clear b
  refine hK.out _ _ ?_ (fun hHeld => ?_)
  · exact ⟨ka0, ka1, ka2, ka3⟩
  clear hK K
  try simp only [Act.put, List.getElem_toArray, List.getElem_cons_zero, List.getElem_cons_succ, List.setIfInBounds_toArray, List.set_cons_zero, List.set_cons_succ]
  refine wpAnyH_take (i := 2) (v := ?_) rfl (by kernel_rfl) (by kernel_rfl) (by kernel_rfl) (fun _ _ _ h => h) (Or.inl ⟨by rfl, ?_⟩) hHeld ?_
  rotate_left
  · (intro w hSw; (try dsimp only at hSw); go_simp; (try with_reducible rfl))
  try simp only [Act.put, List.getElem_toArray, List.getElem_cons_zero, List.getElem_cons_succ, List.setIfInBounds_toArray, List.set_cons_zero, List.set_cons_succ]
  refine wpAnyH_take (i := 3) (v := ?_) rfl (by kernel_rfl) (by kernel_rfl) (by kernel_rfl) (fun _ _ _ h => h) (Or.inl ⟨by rfl, ?_⟩) hHeld ?_
  rotate_left
  · (intro w hSw; (try dsimp only at hSw); go_simp; (try with_reducible rfl))
  try simp only [Act.put, List.getElem_toArray, List.getElem_cons_zero, List.getElem_cons_succ, List.setIfInBounds_toArray, List.set_cons_zero, List.set_cons_succ]
  refine wpAnyH_take (i := 4) (v := ?_) rfl (by kernel_rfl) (by kernel_rfl) (by kernel_rfl) (fun _ _ _ h => h) (Or.inl ⟨by rfl, ?_⟩) hHeld ?_
  rotate_left
  · (intro w hSw; (try dsimp only at hSw); go_simp; (try with_reducible rfl))
  try simp only [Act.put, List.getElem_toArray, List.getElem_cons_zero, List.getElem_cons_succ, List.setIfInBounds_toArray, List.set_cons_zero, List.set_cons_succ]
  refine wpAnyH_take (i := 5) (v := ?_) rfl (by kernel_rfl) (by kernel_rfl) (by kernel_rfl) (fun _ _ _ h => h) (Or.inl ⟨by rfl, ?_⟩) hHeld ?_
  rotate_left
  · (intro w hSw; (try dsimp only at hSw); go_simp; (try with_reducible rfl))
  try simp only [Act.put, List.getElem_toArray, List.getElem_cons_zero, List.getElem_cons_succ, List.setIfInBounds_toArray, List.set_cons_zero, List.set_cons_succ]
  refine wpAnyH_ready (rs := [6]) (by kernel_rfl) (by simp) ?_
  refine AllReadyH.cons rfl (fun K hK => ?_) AllReadyH.nil
  (try simp only [List.getElem_toArray, List.getElem_cons_zero, List.getElem_cons_succ])
  rw [if_pos (by rfl)]
  go_simp
  go_at_call 79
  refine (CL _).mono ?_
  rintro e w3 ⟨rfl, b⟩
  replace hC := hC.on b
  replace ka0 := (b.cell (p := ⟨w.heap.size, 0, none⟩) kal).trans ka0
  replace ka1 := (b.cell (p := ⟨w.heap.size, 1, none⟩) kal).trans ka1
  replace ka2 := (b.cell (p := ⟨w.heap.size, 2, none⟩) kal).trans ka2
  replace ka3 := (b.cell (p := ⟨w.heap.size, 3, none⟩) kal).trans ka3
  replace kal := Nat.lt_of_lt_of_le kal b.size
  replace cc := cc.trans (b.mono cc.size)
  clear b
  refine hK.out _ _ ?_ (fun hHeld => ?_)
  · exact ⟨ka0, ka1, ka2, ka3⟩
  clear hK K
  try simp only [Act.put, List.getElem_toArray, List.getElem_cons_zero, List.getElem_cons_succ, List.setIfInBounds_toArray, List.set_cons_zero, List.set_cons_succ]
  refine wpAnyH_ready (rs := [7]) (by kernel_rfl) (by simp) ?_
  refine AllReadyH.cons rfl (fun K hK => ?_) AllReadyH.nil
  (try simp only [List.getElem_toArray, List.getElem_cons_zero, List.getElem_cons_succ])
  rw [if_pos (by rfl)]
  go_simp
  go_at_call 82
  refine (CJ hC).mono ?_
  rintro e w4 ⟨rfl, b⟩
  replace hC := hC.on b
  replace ka0 := (b.cell (p := ⟨w.heap.size, 0, none⟩) kal).trans ka0
  replace ka1 := (b.cell (p := ⟨w.heap.size, 1, none⟩) kal).trans ka1
  replace ka2 := (b.cell (p := ⟨w.heap.size, 2, none⟩) kal).trans ka2
  replace ka3 := (b.cell (p := ⟨w.heap.size, 3, none⟩) kal).trans ka3
  replace kal := Nat.lt_of_lt_of_le kal b.size
  replace cc := cc.trans (b.mono cc.size)
  clear b
  refine hK.out _ _ ?_ (fun hHeld => ?_)
  · exact ⟨ka0, ka1, ka2, ka3⟩
  clear hK K
  try simp only [Act.put, List.getElem_toArray, List.getElem_cons_zero, List.getElem_cons_succ, List.setIfInBounds_toArray, List.set_cons_zero, List.set_cons_succ]
  refine wpAnyH_take (i := 8) (v := ?_) rfl (by kernel_rfl) (by kernel_rfl) (by kernel_rfl) (fun _ _ _ h => h) (Or.inl ⟨by rfl, ?_⟩) hHeld ?_
  rotate_left
  · (intro w hSw; (try dsimp only at hSw); go_simp; (try with_reducible rfl))
  try simp only [Act.put, List.getElem_toArray, List.getElem_cons_zero, List.getElem_cons_succ, List.setIfInBounds_toArray, List.set_cons_zero, List.set_cons_succ]
  refine wpAnyH_take (i := 9) (v := ?_) rfl (by kernel_rfl) (by kernel_rfl) (by kernel_rfl) (fun _ _ _ h => h) (Or.inl ⟨by rfl, ?_⟩) hHeld ?_
  rotate_left
  · (intro w hSw; (try dsimp only at hSw); go_simp; (try with_reducible rfl))
  try simp only [Act.put, List.getElem_toArray, List.getElem_cons_zero, List.getElem_cons_succ, List.setIfInBounds_toArray, List.set_cons_zero, List.set_cons_succ]
  refine wpAnyH_done (by kernel_rfl) ?_ _
  clear hHeld
  go_wp2_with fail
  go_ret
  exact ⟨rfl, cc⟩

theorem bkcright_N {w : World} {k s : Int} {A B : Option Addr} {n c m d : Nat} {C : List Nat} (hk : Kind9 k) (hC : BR w A n c C) : Calls Try.prog 74 #[.int .i64 k, .agg #[.int .i64 k, .int .i64 s, .slice A n c, .slice B m d]] w (GotV w (.bool (decide (m = 0 ∧ OkC k s C)))) := by
  have e0 : Shr k (-1) 1 ↔ sig9 k = true := ⟨fun h => (by rcases h.2.2.2.2 with e | e; exact absurd e (by omega); exact e), fun h => shr_m hk h⟩
  rcases Int.lt_or_le s 0 with a0 | a0
  · rw [decide_eq_false (fun h => by rcases h.2 with e | e; have := e.1; omega; have := e.1; omega)]; exact bkcright_neg hk hC a0
  rcases Nat.eq_zero_or_pos m with a1 | a1
  · by_cases a2 : s = 0
    · have e : decide (m = 0 ∧ OkC k s C) = decide (∀ x ∈ C, x = near10 k 0 1) := decide_eq_decide.2 ⟨fun h => (by rcases h.2 with e | e; exact e.2; have := e.1; omega), fun h => ⟨a1, .inl ⟨a2, h⟩⟩⟩
      rw [e]; exact bkcright_z hk hC a2 a1
    · cases hs : sig9 k with
      | false =>
        have e : decide (m = 0 ∧ OkC k s C) = decide (near10 k 1 1 ∈ C) := decide_eq_decide.2 ⟨fun h => (by
          rcases h.2 with e | ⟨e, x, hx, e2⟩
          · exact absurd e.1 a2
          · rcases e2 with e2 | e2
            · rw [← e2]; exact hx
            · have := e0.1 e2.1; rw [hs] at this; cases this), fun h => ⟨a1, .inr ⟨by omega, _, h, .inl rfl⟩⟩⟩
        rw [e]; exact bkcright_u hk hC (by omega) a1 hs
      | true =>
        by_cases hl : near10 k (-1) 1 ∈ C
        · rw [decide_eq_true (show m = 0 ∧ OkC k s C from ⟨a1, .inr ⟨by omega, _, hl, .inr ⟨e0.2 hs, rfl⟩⟩⟩)]; exact bkcright_y hk hC (by omega) a1 hs hl
        · have e : decide (m = 0 ∧ OkC k s C) = decide (near10 k 1 1 ∈ C) := decide_eq_decide.2 ⟨fun h => (by
            rcases h.2 with e | ⟨e, x, hx, e2⟩
            · exact absurd e.1 a2
            · rcases e2 with e2 | e2
              · rw [← e2]; exact hx
              · rw [e2.2] at hx; exact absurd hx hl), fun h => ⟨a1, .inr ⟨by omega, _, h, .inl rfl⟩⟩⟩
          rw [e]; exact bkcright_n hk hC (by omega) a1 hs hl
  · rw [decide_eq_false (fun h => by have := h.1; omega)]; exact bkcright_wide hk hC a0 a1

end Go.Proofs.Ytlmcpgahjfepjaa
