/-
  Several texts in one: C12, D11, JE.
-/
import Derived.Test.YtlmcpgahjfepjaaGreatA11
import Derived.Test.YtlmcpgahjfepjaaGreatA9
import Derived.Test.YtlmcpgahjfepjaaGreatA13
import Derived.Test.YtlmcpgahjfepjaaGreatA10

/-
  The contracts of the eleventh reference: Right.
-/
namespace Go.Proofs.YtlmcpgahjfepjaaGreat
set_option maxRecDepth 100000
open Go.RowKit
set_option linter.unusedVariables false
set_option linter.unusedSimpArgs false

set_option maxRecDepth 100000 in
set_option maxHeartbeats 8000000 in
theorem rRight_lo {w : World} {k s : Int} {A B : Option Addr} {n c m d : Nat} {q : Int} (hq : IntKind.i64.wrap ((n : Int) + (m : Int)) = q) (p0 : k < 0) :
    Calls Tryz.prog 7 #[.agg #[.int .i64 k, .int .i64 s, .slice A n c, .slice B m d]] w (GotV w (.bool false)) := by
  have t0 : decide (k < 0) = true := decide_eq_true (by omega)
  clear p0
  have cc := Below.refl w.heap.size w
  go_enter Tryz.func7, Tryz.ntmps7
  go_wp2_with fail
  have bA : Below w.heap.size w (w.alloc (.cells #[.int .i64 k, .int .i64 s, .slice A n c, .slice B m d] 25)) := ((Below.refl _ w).alloc (by simp) _)
  replace cc := cc.trans (bA.mono cc.size)
  clear bA
  have ka0 : (w.alloc (.cells #[.int .i64 k, .int .i64 s, .slice A n c, .slice B m d] 25)).cell? ⟨w.heap.size, 0, none⟩ = some (.int .i64 k) := by simp [go_sem]
  have ka1 : (w.alloc (.cells #[.int .i64 k, .int .i64 s, .slice A n c, .slice B m d] 25)).cell? ⟨w.heap.size, 1, none⟩ = some (.int .i64 s) := by simp [go_sem]
  have ka2 : (w.alloc (.cells #[.int .i64 k, .int .i64 s, .slice A n c, .slice B m d] 25)).cell? ⟨w.heap.size, 2, none⟩ = some (.slice A n c) := by simp [go_sem]
  have ka3 : (w.alloc (.cells #[.int .i64 k, .int .i64 s, .slice A n c, .slice B m d] 25)).cell? ⟨w.heap.size, 3, none⟩ = some (.slice B m d) := by simp [go_sem]
  have kal : w.heap.size < (w.alloc (.cells #[.int .i64 k, .int .i64 s, .slice A n c, .slice B m d] 25)).heap.size := by simp <;> omega
  generalize w.alloc (.cells #[.int .i64 k, .int .i64 s, .slice A n c, .slice B m d] 25) = v1 at *
  go_wp2_with fail
  go_ret
  exact ⟨rfl, cc⟩

set_option maxRecDepth 100000 in
set_option maxHeartbeats 8000000 in
theorem rRight_hi {w : World} {k s : Int} {A B : Option Addr} {n c m d : Nat} {q : Int} (hq : IntKind.i64.wrap ((n : Int) + (m : Int)) = q) (p0 : 0 ≤ k) (p1 : 4 < k) :
    Calls Tryz.prog 7 #[.agg #[.int .i64 k, .int .i64 s, .slice A n c, .slice B m d]] w (GotV w (.bool false)) := by
  have t0 : decide (k < 0) = false := decide_eq_false (by omega)
  have t1 : decide (4 < k) = true := decide_eq_true (by omega)
  clear p0 p1
  have cc := Below.refl w.heap.size w
  go_enter Tryz.func7, Tryz.ntmps7
  go_wp2_with fail
  have bA : Below w.heap.size w (w.alloc (.cells #[.int .i64 k, .int .i64 s, .slice A n c, .slice B m d] 25)) := ((Below.refl _ w).alloc (by simp) _)
  replace cc := cc.trans (bA.mono cc.size)
  clear bA
  have ka0 : (w.alloc (.cells #[.int .i64 k, .int .i64 s, .slice A n c, .slice B m d] 25)).cell? ⟨w.heap.size, 0, none⟩ = some (.int .i64 k) := by simp [go_sem]
  have ka1 : (w.alloc (.cells #[.int .i64 k, .int .i64 s, .slice A n c, .slice B m d] 25)).cell? ⟨w.heap.size, 1, none⟩ = some (.int .i64 s) := by simp [go_sem]
  have ka2 : (w.alloc (.cells #[.int .i64 k, .int .i64 s, .slice A n c, .slice B m d] 25)).cell? ⟨w.heap.size, 2, none⟩ = some (.slice A n c) := by simp [go_sem]
  have ka3 : (w.alloc (.cells #[.int .i64 k, .int .i64 s, .slice A n c, .slice B m d] 25)).cell? ⟨w.heap.size, 3, none⟩ = some (.slice B m d) := by simp [go_sem]
  have kal : w.heap.size < (w.alloc (.cells #[.int .i64 k, .int .i64 s, .slice A n c, .slice B m d] 25)).heap.size := by simp <;> omega
  generalize w.alloc (.cells #[.int .i64 k, .int .i64 s, .slice A n c, .slice B m d] 25) = v1 at *
  go_wp2_with fail
  go_ret
  exact ⟨rfl, cc⟩

set_option maxRecDepth 100000 in
set_option maxHeartbeats 8000000 in
theorem rRight_big {w : World} {k s : Int} {A B : Option Addr} {n c m d : Nat} {q : Int} (hq : IntKind.i64.wrap ((n : Int) + (m : Int)) = q) (p0 : 0 ≤ k) (p1 : k ≤ 4) (p2 : 4096 < q) :
    Calls Tryz.prog 7 #[.agg #[.int .i64 k, .int .i64 s, .slice A n c, .slice B m d]] w (GotV w (.bool false)) := by
  have t0 : decide (k < 0) = false := decide_eq_false (by omega)
  have t1 : decide (4 < k) = false := decide_eq_false (by omega)
  have t2 : decide (4096 < q) = true := decide_eq_true (by omega)
  clear p0 p1 p2
  have cc := Below.refl w.heap.size w
  go_enter Tryz.func7, Tryz.ntmps7
  go_wp2_with fail
  have bA : Below w.heap.size w (w.alloc (.cells #[.int .i64 k, .int .i64 s, .slice A n c, .slice B m d] 25)) := ((Below.refl _ w).alloc (by simp) _)
  replace cc := cc.trans (bA.mono cc.size)
  clear bA
  have ka0 : (w.alloc (.cells #[.int .i64 k, .int .i64 s, .slice A n c, .slice B m d] 25)).cell? ⟨w.heap.size, 0, none⟩ = some (.int .i64 k) := by simp [go_sem]
  have ka1 : (w.alloc (.cells #[.int .i64 k, .int .i64 s, .slice A n c, .slice B m d] 25)).cell? ⟨w.heap.size, 1, none⟩ = some (.int .i64 s) := by simp [go_sem]
  have ka2 : (w.alloc (.cells #[.int .i64 k, .int .i64 s, .slice A n c, .slice B m d] 25)).cell? ⟨w.heap.size, 2, none⟩ = some (.slice A n c) := by simp [go_sem]
  have ka3 : (w.alloc (.cells #[.int .i64 k, .int .i64 s, .slice A n c, .slice B m d] 25)).cell? ⟨w.heap.size, 3, none⟩ = some (.slice B m d) := by simp [go_sem]
  have kal : w.heap.size < (w.alloc (.cells #[.int .i64 k, .int .i64 s, .slice A n c, .slice B m d] 25)).heap.size := by simp <;> omega
  generalize w.alloc (.cells #[.int .i64 k, .int .i64 s, .slice A n c, .slice B m d] 25) = v1 at *
  go_wp2_with fail
  go_ret
  exact ⟨rfl, cc⟩

set_option maxRecDepth 100000 in
set_option maxHeartbeats 8000000 in
theorem rRight_c0 {w : World} {k s : Int} {A B : Option Addr} {n c m d : Nat} {q : Int} (hq : IntKind.i64.wrap ((n : Int) + (m : Int)) = q) (p0 : 0 ≤ k) (p1 : k ≤ 3) (p2 : q ≤ 4096) (hm : m ≠ 0) :
    Calls Tryz.prog 7 #[.agg #[.int .i64 k, .int .i64 s, .slice A n c, .slice B m d]] w (GotV w (.bool false)) := by
  have t0 : decide (k < 0) = false := decide_eq_false (by omega)
  have t1 : decide (4 < k) = false := decide_eq_false (by omega)
  have t2 : decide (4096 < q) = false := decide_eq_false (by omega)
  have t3 : (k == 4) = false := beq_eq_false_iff_ne.2 (by omega)
  have t4 : (k != 4) = true := by simp; omega
  have t5 : ((m : Int) == 0) = false := beq_eq_false_iff_ne.2 (by omega)
  have t6 : (m == 0) = false := beq_eq_false_iff_ne.2 hm
  clear p0 p1 p2 hm
  have cc := Below.refl w.heap.size w
  go_enter Tryz.func7, Tryz.ntmps7
  go_wp2_with fail
  have bA : Below w.heap.size w (w.alloc (.cells #[.int .i64 k, .int .i64 s, .slice A n c, .slice B m d] 25)) := ((Below.refl _ w).alloc (by simp) _)
  replace cc := cc.trans (bA.mono cc.size)
  clear bA
  have ka0 : (w.alloc (.cells #[.int .i64 k, .int .i64 s, .slice A n c, .slice B m d] 25)).cell? ⟨w.heap.size, 0, none⟩ = some (.int .i64 k) := by simp [go_sem]
  have ka1 : (w.alloc (.cells #[.int .i64 k, .int .i64 s, .slice A n c, .slice B m d] 25)).cell? ⟨w.heap.size, 1, none⟩ = some (.int .i64 s) := by simp [go_sem]
  have ka2 : (w.alloc (.cells #[.int .i64 k, .int .i64 s, .slice A n c, .slice B m d] 25)).cell? ⟨w.heap.size, 2, none⟩ = some (.slice A n c) := by simp [go_sem]
  have ka3 : (w.alloc (.cells #[.int .i64 k, .int .i64 s, .slice A n c, .slice B m d] 25)).cell? ⟨w.heap.size, 3, none⟩ = some (.slice B m d) := by simp [go_sem]
  have kal : w.heap.size < (w.alloc (.cells #[.int .i64 k, .int .i64 s, .slice A n c, .slice B m d] 25)).heap.size := by simp <;> omega
  generalize w.alloc (.cells #[.int .i64 k, .int .i64 s, .slice A n c, .slice B m d] 25) = v1 at *
  go_wp2_with fail
  go_ret
  exact ⟨rfl, cc⟩

set_option maxRecDepth 100000 in
set_option maxHeartbeats 8000000 in
theorem rRight_c1 {w : World} {k s : Int} {A B : Option Addr} {n c m d : Nat} {q : Int} (hq : IntKind.i64.wrap ((n : Int) + (m : Int)) = q) (p0 : 0 ≤ k) (p1 : k ≤ 3) (p2 : q ≤ 4096) (hm : m = 0) {C : List Nat} (hC : BR w A n c C) (hn : n ≤ 9223372036854775807) :
    Calls Tryz.prog 7 #[.agg #[.int .i64 k, .int .i64 s, .slice A n c, .slice B m d]] w (GotV w (.bool (decide (OkC k s C)))) := by
  subst hm
  have hk : Kind9 k := by unfold Kind9; omega
  have CC : ∀ {W : World}, BR W A n c C → Calls Tryz.prog 19 #[.agg #[.int .i64 k, .int .i64 s, .slice A n c, .slice B 0 d]] W (GotV W (.bool (decide (OkC k s C)))) := fun h => rcodes_N hk h hn
  obtain ⟨r, hr⟩ : ∃ r, decide (OkC k s C) = r := ⟨_, rfl⟩
  rw [hr] at CC ⊢
  clear hr hk
  have t0 : decide (k < 0) = false := decide_eq_false (by omega)
  have t1 : decide (4 < k) = false := decide_eq_false (by omega)
  have t2 : decide (4096 < q) = false := decide_eq_false (by omega)
  have t3 : (k == 4) = false := beq_eq_false_iff_ne.2 (by omega)
  have t4 : (k != 4) = true := by simp; omega
  have hqn : (n : Int) = q := by rw [← hq, IntWalk.i64_in _ (by omega)]; omega
  have t6 : decide (4096 < (n : Int)) = false := decide_eq_false (by omega)
  have t7 : decide (4096 < n) = false := decide_eq_false (by omega)
  clear p0 p1 p2 hqn
  have cc := Below.refl w.heap.size w
  go_enter Tryz.func7, Tryz.ntmps7
  go_wp2_with fail
  have bA : Below w.heap.size w (w.alloc (.cells #[.int .i64 k, .int .i64 s, .slice A n c, .slice B 0 d] 25)) := ((Below.refl _ w).alloc (by simp) _)
  replace hC := hC.on bA
  replace cc := cc.trans (bA.mono cc.size)
  clear bA
  have ka0 : (w.alloc (.cells #[.int .i64 k, .int .i64 s, .slice A n c, .slice B 0 d] 25)).cell? ⟨w.heap.size, 0, none⟩ = some (.int .i64 k) := by simp [go_sem]
  have ka1 : (w.alloc (.cells #[.int .i64 k, .int .i64 s, .slice A n c, .slice B 0 d] 25)).cell? ⟨w.heap.size, 1, none⟩ = some (.int .i64 s) := by simp [go_sem]
  have ka2 : (w.alloc (.cells #[.int .i64 k, .int .i64 s, .slice A n c, .slice B 0 d] 25)).cell? ⟨w.heap.size, 2, none⟩ = some (.slice A n c) := by simp [go_sem]
  have ka3 : (w.alloc (.cells #[.int .i64 k, .int .i64 s, .slice A n c, .slice B 0 d] 25)).cell? ⟨w.heap.size, 3, none⟩ = some (.slice B 0 d) := by simp [go_sem]
  have kal : w.heap.size < (w.alloc (.cells #[.int .i64 k, .int .i64 s, .slice A n c, .slice B 0 d] 25)).heap.size := by simp <;> omega
  generalize w.alloc (.cells #[.int .i64 k, .int .i64 s, .slice A n c, .slice B 0 d] 25) = v1 at *
  go_wp2_with fail
  refine (CC hC).mono ?_
  rintro e w2 ⟨rfl, b⟩
  replace hC := hC.on b
  replace ka0 := (b.cell (p := ⟨w.heap.size, 0, none⟩) kal).trans ka0
  replace ka1 := (b.cell (p := ⟨w.heap.size, 1, none⟩) kal).trans ka1
  replace ka2 := (b.cell (p := ⟨w.heap.size, 2, none⟩) kal).trans ka2
  replace ka3 := (b.cell (p := ⟨w.heap.size, 3, none⟩) kal).trans ka3
  replace kal := Nat.lt_of_lt_of_le kal b.size
  replace cc := cc.trans (b.mono cc.size)
  clear b
  go_wp2_with fail
  go_ret
  exact ⟨rfl, cc⟩

set_option maxRecDepth 100000 in
set_option maxHeartbeats 8000000 in
theorem rRight_w {w : World} {k s : Int} {A B : Option Addr} {n c m d : Nat} {q : Int} (hq : IntKind.i64.wrap ((n : Int) + (m : Int)) = q) (p0 : k = 4) (p2 : q ≤ 4096) {W : List Int} (hW : IR w B m d W) (hm : m ≤ 9223372036854775807) {R : Bool} (hR : ((∀ j, j < W.length → W[j]?.getD 0 ≠ -9223372036854775808) → R = ((s == 0) && (n == 0))) ∧ ((∃ j, j < W.length ∧ W[j]?.getD 0 = -9223372036854775808) → R = false)) :
    Calls Tryz.prog 7 #[.agg #[.int .i64 k, .int .i64 s, .slice A n c, .slice B m d]] w (GotV w (.bool R)) := by
  subst p0
  have t2 : decide (4096 < q) = false := decide_eq_false (by omega)
  have HR := Lib.hid hR
  clear hR p2
  have cc := Below.refl w.heap.size w
  go_enter Tryz.func7, Tryz.ntmps7
  go_wp2_with fail
  have bA : Below w.heap.size w (w.alloc (.cells #[.int .i64 4, .int .i64 s, .slice A n c, .slice B m d] 25)) := ((Below.refl _ w).alloc (by simp) _)
  replace cc := cc.trans (bA.mono cc.size)
  clear bA
  have ka0 : (w.alloc (.cells #[.int .i64 4, .int .i64 s, .slice A n c, .slice B m d] 25)).cell? ⟨w.heap.size, 0, none⟩ = some (.int .i64 4) := by simp [go_sem]
  have ka1 : (w.alloc (.cells #[.int .i64 4, .int .i64 s, .slice A n c, .slice B m d] 25)).cell? ⟨w.heap.size, 1, none⟩ = some (.int .i64 s) := by simp [go_sem]
  have ka2 : (w.alloc (.cells #[.int .i64 4, .int .i64 s, .slice A n c, .slice B m d] 25)).cell? ⟨w.heap.size, 2, none⟩ = some (.slice A n c) := by simp [go_sem]
  have ka3 : (w.alloc (.cells #[.int .i64 4, .int .i64 s, .slice A n c, .slice B m d] 25)).cell? ⟨w.heap.size, 3, none⟩ = some (.slice B m d) := by simp [go_sem]
  have kal : w.heap.size < (w.alloc (.cells #[.int .i64 4, .int .i64 s, .slice A n c, .slice B m d] 25)).heap.size := by simp <;> omega
  generalize w.alloc (.cells #[.int .i64 4, .int .i64 s, .slice A n c, .slice B m d] 25) = v1 at *
  have KA1 := Lib.hid ka1
  have KA2 := Lib.hid ka2
  have KA3 := Lib.hid ka3
  have KAL := Lib.hid kal
  have CCV := Lib.hid cc
  have HWV : Hid (IR v1 B m d W) := Lib.hid (hW.on cc)
  clear ka0 ka1 ka2 ka3 kal cc hW
  go_wp2_with fail
  go_loopw [3] (fun iv wr => ∃ i : Nat, i ≤ m ∧ iv = .int .i64 (i : Int) ∧ (∀ j, j < i → W[j]?.getD 0 ≠ -9223372036854775808) ∧ Below v1.heap.size v1 wr) (fun iv _ => m - (intOf iv).toNat)
  case atStart => exact ⟨0, by omega, rfl, fun j h => absurd h (by omega), Below.refl _ _⟩
  case round =>
    obtain ⟨i, hi, rfl, hj, hbl⟩ := hrel
    have ka1 := (hbl.cell (p := ⟨w.heap.size, 1, none⟩) KAL.out).trans KA1.out
    have ka2 := (hbl.cell (p := ⟨w.heap.size, 2, none⟩) KAL.out).trans KA2.out
    have ka3 := (hbl.cell (p := ⟨w.heap.size, 3, none⟩) KAL.out).trans KA3.out
    have cc := CCV.out.trans (hbl.mono CCV.out.size)
    have hl := HWV.out.1
    by_cases hlt : i < m
    · obtain ⟨bb, off, rfl, hb, hcell⟩ := (HWV.out.on hbl).2.2 (by omega)
      have h1 := hcell i hlt
      have k3 : IntKind.i64.wrap ((i : Int) + 1) = ((i + 1 : Nat) : Int) := by rw [IntWalk.i64_in _ (by omega)]; omega
      obtain ⟨x, hx⟩ : ∃ x, W[i]?.getD 0 = x := ⟨_, rfl⟩
      rw [hx] at h1
      by_cases hxy : x = -9223372036854775808
      · have hF : R = false := HR.out.2 ⟨i, by omega, by rw [hx, hxy]⟩
        subst hF
        subst hxy
        clear hcell hj hl hx
        go_wp2_with fail
        go_ret
        exact ⟨rfl, cc⟩
      · have t4 : (x == -9223372036854775808) = false := beq_eq_false_iff_ne.2 hxy
        have HJ : Hid (∀ j, j < i + 1 → W[j]?.getD 0 ≠ -9223372036854775808) := Lib.hid (fun j h => by
          rcases Nat.lt_or_ge j i with e | e
          · exact hj j e
          · have e2 : j = i := by omega
            rw [e2, hx]; exact hxy)
        clear hcell hj hl hx hxy
        go_wp2_with fail
        go_roundw
        case rel => exact ⟨i + 1, by omega, rfl, HJ.out, hbl⟩
        case measure => simp [intOf] <;> omega
    · obtain rfl : i = m := by omega
      have hE := HR.out.1 (fun j h => hj j (by omega))
      clear hj hl
      by_cases z : s = 0
      · subst z
        by_cases y : n = 0
        · subst y
          have hE2 : R = true := by rw [hE]; simp
          subst hE2
          clear hE
          go_wp2_with fail
          go_ret
          exact ⟨rfl, cc⟩
        · have hE2 : R = false := by rw [hE]; simp; omega
          subst hE2
          have y1 : ((n : Int) == 0) = false := beq_eq_false_iff_ne.2 (by omega)
          have y2 : (n == 0) = false := beq_eq_false_iff_ne.2 y
          clear hE y
          go_wp2_with fail
          go_ret
          exact ⟨rfl, cc⟩
      · have z1 : (s == 0) = false := beq_eq_false_iff_ne.2 z
        have hE2 : R = false := by rw [hE, z1]; rfl
        subst hE2
        clear hE z
        go_wp2_with fail
        go_ret
        exact ⟨rfl, cc⟩

theorem rRight_N {w : World} {k s : Int} {A B : Option Addr} {n c m d : Nat} {C : List Nat} {W : List Int} (hC : BR w A n c C) (hW : IR w B m d W) (hn : n ≤ 9223372036854775807) (hm : m ≤ 9223372036854775807) : Calls Tryz.prog 7 #[.agg #[.int .i64 k, .int .i64 s, .slice A n c, .slice B m d]] w (GotV w (.bool (decide (OkB k s C W)))) := by
  obtain ⟨q, hq⟩ : ∃ q, IntKind.i64.wrap ((n : Int) + (m : Int)) = q := ⟨_, rfl⟩
  have hC1 := hC.1
  have hW1 := hW.1
  have hsum : (n + m : Int) ≤ 9223372036854775807 → q = n + m := fun h => by rw [← hq]; exact IntWalk.i64_in _ (by omega)
  have hk9 : OkB k s C W → (0 ≤ k ∧ k ≤ 4) ∧ n + m ≤ 4096 ∧ (k ≠ 4 → m = 0) ∧ (k = 4 → n = 0) := by
    rintro (⟨h1, h2, h3, h4⟩ | ⟨h1, h2, h3, h4, h5⟩)
    · refine ⟨kind_or.2 (.inl h1), by omega, fun _ => by rw [hW1, h3]; rfl, fun h => by unfold Kind9 at h1; omega⟩
    · exact ⟨kind_or.2 (.inr h1), by omega, fun h => absurd h1 h, fun _ => by rw [hC1, h5]; rfl⟩
  by_cases a0 : k < 0
  · rw [decide_eq_false (fun h => by have := (hk9 h).1; omega)]; exact rRight_lo hq a0
  by_cases a1 : 4 < k
  · rw [decide_eq_false (fun h => by have := (hk9 h).1; omega)]; exact rRight_hi hq (by omega) a1
  by_cases a2 : 4096 < q
  · rw [decide_eq_false (fun h => by have h1 := (hk9 h).2.1; have := hsum (by omega); omega)]; exact rRight_big hq (by omega) (by omega) a2
  by_cases a3 : k = 4
  · refine rRight_w hq a3 (by omega) hW hm ⟨fun hall => ?_, fun hex => ?_⟩
    · by_cases z : s = 0
      · by_cases y : n = 0
        · have : OkB k s C W := .inr ⟨a3, by have := hsum (by omega); omega, fun x hx => by obtain ⟨j, hj, rfl⟩ := at_mem 0 hx; exact hall j hj, z, List.eq_nil_of_length_eq_zero (by omega)⟩
          rw [decide_eq_true this, z, y]; rfl
        · rw [decide_eq_false (fun h => y ((hk9 h).2.2.2 a3)), beq_eq_false_iff_ne.2 y, Bool.and_false]
      · rw [decide_eq_false (fun h => by rcases h with ⟨h1, _⟩ | ⟨_, _, _, h4, _⟩; unfold Kind9 at h1; omega; exact z h4), beq_eq_false_iff_ne.2 z, Bool.false_and]
    · obtain ⟨j, hj, he⟩ := hex
      refine decide_eq_false (fun h => ?_)
      rcases h with ⟨h1, _⟩ | ⟨_, _, h3, _⟩
      · unfold Kind9 at h1; omega
      · exact h3 _ (mem_at hj) he
  by_cases a4 : m = 0
  · have hk : Kind9 k := by unfold Kind9; omega
    have e : decide (OkB k s C W) = decide (OkC k s C) := by
      rw [Bool.eq_iff_iff, decide_eq_true_eq, decide_eq_true_eq]
      constructor
      · rintro (⟨_, _, _, h4⟩ | ⟨h1, _⟩)
        · exact h4
        · exact absurd h1 a3
      · intro h; exact .inl ⟨hk, by have := hsum (by omega); omega, List.eq_nil_of_length_eq_zero (by omega), h⟩
    rw [e]
    exact rRight_c1 hq (by omega) (by omega) (by omega) a4 hC hn
  · rw [decide_eq_false (fun h => a4 ((hk9 h).2.2.1 a3))]; exact rRight_c0 hq (by omega) (by omega) (by omega) a4

end Go.Proofs.YtlmcpgahjfepjaaGreat

/-
  The contracts of the eleventh reference: Same.
-/
namespace Go.Proofs.YtlmcpgahjfepjaaGreat
set_option maxRecDepth 100000
open Go.RowKit
set_option linter.unusedVariables false
set_option linter.unusedSimpArgs false

set_option maxRecDepth 100000 in
set_option maxHeartbeats 8000000 in
theorem rSame_k {w : World} {ka sa : Int} {Aa Ba : Option Addr} {na ca ma da : Nat} {kb sb : Int} {Ab Bb : Option Addr} {nb cb mb db : Nat} (h : ka ≠ kb) :
    Calls Tryz.prog 10 #[.agg #[.int .i64 ka, .int .i64 sa, .slice Aa na ca, .slice Ba ma da], .agg #[.int .i64 kb, .int .i64 sb, .slice Ab nb cb, .slice Bb mb db]] w (GotV w (.bool false)) := by
  have t1 : (ka == kb) = false := beq_eq_false_iff_ne.2 h
  have t2 : (ka != kb) = true := by simp; exact h
  clear h
  have cc := Below.refl w.heap.size w
  go_enter Tryz.func10, Tryz.ntmps10
  go_wp2_with fail
  have bA : Below w.heap.size w ((w.alloc (.cells #[.int .i64 ka, .int .i64 sa, .slice Aa na ca, .slice Ba ma da] 25)).alloc (.cells #[.int .i64 kb, .int .i64 sb, .slice Ab nb cb, .slice Bb mb db] 25)) := (((Below.refl _ w).alloc (by simp) _).alloc (by simp) _)
  replace cc := cc.trans (bA.mono cc.size)
  clear bA
  have xa0 : ((w.alloc (.cells #[.int .i64 ka, .int .i64 sa, .slice Aa na ca, .slice Ba ma da] 25)).alloc (.cells #[.int .i64 kb, .int .i64 sb, .slice Ab nb cb, .slice Bb mb db] 25)).cell? ⟨w.heap.size, 0, none⟩ = some (.int .i64 ka) := by simp [go_sem]
  have xa1 : ((w.alloc (.cells #[.int .i64 ka, .int .i64 sa, .slice Aa na ca, .slice Ba ma da] 25)).alloc (.cells #[.int .i64 kb, .int .i64 sb, .slice Ab nb cb, .slice Bb mb db] 25)).cell? ⟨w.heap.size, 1, none⟩ = some (.int .i64 sa) := by simp [go_sem]
  have xa2 : ((w.alloc (.cells #[.int .i64 ka, .int .i64 sa, .slice Aa na ca, .slice Ba ma da] 25)).alloc (.cells #[.int .i64 kb, .int .i64 sb, .slice Ab nb cb, .slice Bb mb db] 25)).cell? ⟨w.heap.size, 2, none⟩ = some (.slice Aa na ca) := by simp [go_sem]
  have xa3 : ((w.alloc (.cells #[.int .i64 ka, .int .i64 sa, .slice Aa na ca, .slice Ba ma da] 25)).alloc (.cells #[.int .i64 kb, .int .i64 sb, .slice Ab nb cb, .slice Bb mb db] 25)).cell? ⟨w.heap.size, 3, none⟩ = some (.slice Ba ma da) := by simp [go_sem]
  have xal : w.heap.size < ((w.alloc (.cells #[.int .i64 ka, .int .i64 sa, .slice Aa na ca, .slice Ba ma da] 25)).alloc (.cells #[.int .i64 kb, .int .i64 sb, .slice Ab nb cb, .slice Bb mb db] 25)).heap.size := by simp <;> omega
  have xb0 : ((w.alloc (.cells #[.int .i64 ka, .int .i64 sa, .slice Aa na ca, .slice Ba ma da] 25)).alloc (.cells #[.int .i64 kb, .int .i64 sb, .slice Ab nb cb, .slice Bb mb db] 25)).cell? ⟨w.heap.size + 1, 0, none⟩ = some (.int .i64 kb) := by simp [go_sem]
  have xb1 : ((w.alloc (.cells #[.int .i64 ka, .int .i64 sa, .slice Aa na ca, .slice Ba ma da] 25)).alloc (.cells #[.int .i64 kb, .int .i64 sb, .slice Ab nb cb, .slice Bb mb db] 25)).cell? ⟨w.heap.size + 1, 1, none⟩ = some (.int .i64 sb) := by simp [go_sem]
  have xb2 : ((w.alloc (.cells #[.int .i64 ka, .int .i64 sa, .slice Aa na ca, .slice Ba ma da] 25)).alloc (.cells #[.int .i64 kb, .int .i64 sb, .slice Ab nb cb, .slice Bb mb db] 25)).cell? ⟨w.heap.size + 1, 2, none⟩ = some (.slice Ab nb cb) := by simp [go_sem]
  have xb3 : ((w.alloc (.cells #[.int .i64 ka, .int .i64 sa, .slice Aa na ca, .slice Ba ma da] 25)).alloc (.cells #[.int .i64 kb, .int .i64 sb, .slice Ab nb cb, .slice Bb mb db] 25)).cell? ⟨w.heap.size + 1, 3, none⟩ = some (.slice Bb mb db) := by simp [go_sem]
  have xbl : w.heap.size + 1 < ((w.alloc (.cells #[.int .i64 ka, .int .i64 sa, .slice Aa na ca, .slice Ba ma da] 25)).alloc (.cells #[.int .i64 kb, .int .i64 sb, .slice Ab nb cb, .slice Bb mb db] 25)).heap.size := by simp <;> omega
  generalize (w.alloc (.cells #[.int .i64 ka, .int .i64 sa, .slice Aa na ca, .slice Ba ma da] 25)).alloc (.cells #[.int .i64 kb, .int .i64 sb, .slice Ab nb cb, .slice Bb mb db] 25) = v1 at *
  go_wp2_with fail
  go_ret
  exact ⟨rfl, cc⟩

set_option maxRecDepth 100000 in
set_option maxHeartbeats 8000000 in
theorem rSame_s {w : World} {ka sa : Int} {Aa Ba : Option Addr} {na ca ma da : Nat} {kb sb : Int} {Ab Bb : Option Addr} {nb cb mb db : Nat} (hk : ka = kb) (h : sa ≠ sb) :
    Calls Tryz.prog 10 #[.agg #[.int .i64 ka, .int .i64 sa, .slice Aa na ca, .slice Ba ma da], .agg #[.int .i64 kb, .int .i64 sb, .slice Ab nb cb, .slice Bb mb db]] w (GotV w (.bool false)) := by
  subst hk
  have t1 : (sa == sb) = false := beq_eq_false_iff_ne.2 h
  have t2 : (sa != sb) = true := by simp; exact h
  clear h
  have cc := Below.refl w.heap.size w
  go_enter Tryz.func10, Tryz.ntmps10
  go_wp2_with fail
  have bA : Below w.heap.size w ((w.alloc (.cells #[.int .i64 ka, .int .i64 sa, .slice Aa na ca, .slice Ba ma da] 25)).alloc (.cells #[.int .i64 ka, .int .i64 sb, .slice Ab nb cb, .slice Bb mb db] 25)) := (((Below.refl _ w).alloc (by simp) _).alloc (by simp) _)
  replace cc := cc.trans (bA.mono cc.size)
  clear bA
  have xa0 : ((w.alloc (.cells #[.int .i64 ka, .int .i64 sa, .slice Aa na ca, .slice Ba ma da] 25)).alloc (.cells #[.int .i64 ka, .int .i64 sb, .slice Ab nb cb, .slice Bb mb db] 25)).cell? ⟨w.heap.size, 0, none⟩ = some (.int .i64 ka) := by simp [go_sem]
  have xa1 : ((w.alloc (.cells #[.int .i64 ka, .int .i64 sa, .slice Aa na ca, .slice Ba ma da] 25)).alloc (.cells #[.int .i64 ka, .int .i64 sb, .slice Ab nb cb, .slice Bb mb db] 25)).cell? ⟨w.heap.size, 1, none⟩ = some (.int .i64 sa) := by simp [go_sem]
  have xa2 : ((w.alloc (.cells #[.int .i64 ka, .int .i64 sa, .slice Aa na ca, .slice Ba ma da] 25)).alloc (.cells #[.int .i64 ka, .int .i64 sb, .slice Ab nb cb, .slice Bb mb db] 25)).cell? ⟨w.heap.size, 2, none⟩ = some (.slice Aa na ca) := by simp [go_sem]
  have xa3 : ((w.alloc (.cells #[.int .i64 ka, .int .i64 sa, .slice Aa na ca, .slice Ba ma da] 25)).alloc (.cells #[.int .i64 ka, .int .i64 sb, .slice Ab nb cb, .slice Bb mb db] 25)).cell? ⟨w.heap.size, 3, none⟩ = some (.slice Ba ma da) := by simp [go_sem]
  have xal : w.heap.size < ((w.alloc (.cells #[.int .i64 ka, .int .i64 sa, .slice Aa na ca, .slice Ba ma da] 25)).alloc (.cells #[.int .i64 ka, .int .i64 sb, .slice Ab nb cb, .slice Bb mb db] 25)).heap.size := by simp <;> omega
  have xb0 : ((w.alloc (.cells #[.int .i64 ka, .int .i64 sa, .slice Aa na ca, .slice Ba ma da] 25)).alloc (.cells #[.int .i64 ka, .int .i64 sb, .slice Ab nb cb, .slice Bb mb db] 25)).cell? ⟨w.heap.size + 1, 0, none⟩ = some (.int .i64 ka) := by simp [go_sem]
  have xb1 : ((w.alloc (.cells #[.int .i64 ka, .int .i64 sa, .slice Aa na ca, .slice Ba ma da] 25)).alloc (.cells #[.int .i64 ka, .int .i64 sb, .slice Ab nb cb, .slice Bb mb db] 25)).cell? ⟨w.heap.size + 1, 1, none⟩ = some (.int .i64 sb) := by simp [go_sem]
  have xb2 : ((w.alloc (.cells #[.int .i64 ka, .int .i64 sa, .slice Aa na ca, .slice Ba ma da] 25)).alloc (.cells #[.int .i64 ka, .int .i64 sb, .slice Ab nb cb, .slice Bb mb db] 25)).cell? ⟨w.heap.size + 1, 2, none⟩ = some (.slice Ab nb cb) := by simp [go_sem]
  have xb3 : ((w.alloc (.cells #[.int .i64 ka, .int .i64 sa, .slice Aa na ca, .slice Ba ma da] 25)).alloc (.cells #[.int .i64 ka, .int .i64 sb, .slice Ab nb cb, .slice Bb mb db] 25)).cell? ⟨w.heap.size + 1, 3, none⟩ = some (.slice Bb mb db) := by simp [go_sem]
  have xbl : w.heap.size + 1 < ((w.alloc (.cells #[.int .i64 ka, .int .i64 sa, .slice Aa na ca, .slice Ba ma da] 25)).alloc (.cells #[.int .i64 ka, .int .i64 sb, .slice Ab nb cb, .slice Bb mb db] 25)).heap.size := by simp <;> omega
  generalize (w.alloc (.cells #[.int .i64 ka, .int .i64 sa, .slice Aa na ca, .slice Ba ma da] 25)).alloc (.cells #[.int .i64 ka, .int .i64 sb, .slice Ab nb cb, .slice Bb mb db] 25) = v1 at *
  go_wp2_with fail
  go_ret
  exact ⟨rfl, cc⟩

set_option maxRecDepth 100000 in
set_option maxHeartbeats 8000000 in
theorem rSame_n {w : World} {ka sa : Int} {Aa Ba : Option Addr} {na ca ma da : Nat} {kb sb : Int} {Ab Bb : Option Addr} {nb cb mb db : Nat} (hk : ka = kb) (hs : sa = sb) (h : na ≠ nb) :
    Calls Tryz.prog 10 #[.agg #[.int .i64 ka, .int .i64 sa, .slice Aa na ca, .slice Ba ma da], .agg #[.int .i64 kb, .int .i64 sb, .slice Ab nb cb, .slice Bb mb db]] w (GotV w (.bool false)) := by
  subst hk
  subst hs
  have t1 : ((na : Int) == (nb : Int)) = false := beq_eq_false_iff_ne.2 (by omega)
  have t2 : ((na : Int) != (nb : Int)) = true := by simp; omega
  have t3 : (na == nb) = false := beq_eq_false_iff_ne.2 h
  have t4 : (na != nb) = true := by simp; exact h
  clear h
  have cc := Below.refl w.heap.size w
  go_enter Tryz.func10, Tryz.ntmps10
  go_wp2_with fail
  have bA : Below w.heap.size w ((w.alloc (.cells #[.int .i64 ka, .int .i64 sa, .slice Aa na ca, .slice Ba ma da] 25)).alloc (.cells #[.int .i64 ka, .int .i64 sa, .slice Ab nb cb, .slice Bb mb db] 25)) := (((Below.refl _ w).alloc (by simp) _).alloc (by simp) _)
  replace cc := cc.trans (bA.mono cc.size)
  clear bA
  have xa0 : ((w.alloc (.cells #[.int .i64 ka, .int .i64 sa, .slice Aa na ca, .slice Ba ma da] 25)).alloc (.cells #[.int .i64 ka, .int .i64 sa, .slice Ab nb cb, .slice Bb mb db] 25)).cell? ⟨w.heap.size, 0, none⟩ = some (.int .i64 ka) := by simp [go_sem]
  have xa1 : ((w.alloc (.cells #[.int .i64 ka, .int .i64 sa, .slice Aa na ca, .slice Ba ma da] 25)).alloc (.cells #[.int .i64 ka, .int .i64 sa, .slice Ab nb cb, .slice Bb mb db] 25)).cell? ⟨w.heap.size, 1, none⟩ = some (.int .i64 sa) := by simp [go_sem]
  have xa2 : ((w.alloc (.cells #[.int .i64 ka, .int .i64 sa, .slice Aa na ca, .slice Ba ma da] 25)).alloc (.cells #[.int .i64 ka, .int .i64 sa, .slice Ab nb cb, .slice Bb mb db] 25)).cell? ⟨w.heap.size, 2, none⟩ = some (.slice Aa na ca) := by simp [go_sem]
  have xa3 : ((w.alloc (.cells #[.int .i64 ka, .int .i64 sa, .slice Aa na ca, .slice Ba ma da] 25)).alloc (.cells #[.int .i64 ka, .int .i64 sa, .slice Ab nb cb, .slice Bb mb db] 25)).cell? ⟨w.heap.size, 3, none⟩ = some (.slice Ba ma da) := by simp [go_sem]
  have xal : w.heap.size < ((w.alloc (.cells #[.int .i64 ka, .int .i64 sa, .slice Aa na ca, .slice Ba ma da] 25)).alloc (.cells #[.int .i64 ka, .int .i64 sa, .slice Ab nb cb, .slice Bb mb db] 25)).heap.size := by simp <;> omega
  have xb0 : ((w.alloc (.cells #[.int .i64 ka, .int .i64 sa, .slice Aa na ca, .slice Ba ma da] 25)).alloc (.cells #[.int .i64 ka, .int .i64 sa, .slice Ab nb cb, .slice Bb mb db] 25)).cell? ⟨w.heap.size + 1, 0, none⟩ = some (.int .i64 ka) := by simp [go_sem]
  have xb1 : ((w.alloc (.cells #[.int .i64 ka, .int .i64 sa, .slice Aa na ca, .slice Ba ma da] 25)).alloc (.cells #[.int .i64 ka, .int .i64 sa, .slice Ab nb cb, .slice Bb mb db] 25)).cell? ⟨w.heap.size + 1, 1, none⟩ = some (.int .i64 sa) := by simp [go_sem]
  have xb2 : ((w.alloc (.cells #[.int .i64 ka, .int .i64 sa, .slice Aa na ca, .slice Ba ma da] 25)).alloc (.cells #[.int .i64 ka, .int .i64 sa, .slice Ab nb cb, .slice Bb mb db] 25)).cell? ⟨w.heap.size + 1, 2, none⟩ = some (.slice Ab nb cb) := by simp [go_sem]
  have xb3 : ((w.alloc (.cells #[.int .i64 ka, .int .i64 sa, .slice Aa na ca, .slice Ba ma da] 25)).alloc (.cells #[.int .i64 ka, .int .i64 sa, .slice Ab nb cb, .slice Bb mb db] 25)).cell? ⟨w.heap.size + 1, 3, none⟩ = some (.slice Bb mb db) := by simp [go_sem]
  have xbl : w.heap.size + 1 < ((w.alloc (.cells #[.int .i64 ka, .int .i64 sa, .slice Aa na ca, .slice Ba ma da] 25)).alloc (.cells #[.int .i64 ka, .int .i64 sa, .slice Ab nb cb, .slice Bb mb db] 25)).heap.size := by simp <;> omega
  generalize (w.alloc (.cells #[.int .i64 ka, .int .i64 sa, .slice Aa na ca, .slice Ba ma da] 25)).alloc (.cells #[.int .i64 ka, .int .i64 sa, .slice Ab nb cb, .slice Bb mb db] 25) = v1 at *
  go_wp2_with fail
  go_ret
  exact ⟨rfl, cc⟩

set_option maxRecDepth 100000 in
set_option maxHeartbeats 8000000 in
theorem rSame_eq {w : World} {ka sa : Int} {Aa Ba : Option Addr} {na ca ma da : Nat} {kb sb : Int} {Ab Bb : Option Addr} {nb cb mb db : Nat} (hk : ka = kb) (hs : sa = sb) (hn : na = nb) {Ca : List Nat} {Wa : List Int} (hCa : BR w Aa na ca Ca) (hWa : IR w Ba ma da Wa) (hna : na ≤ 9223372036854775807) (hma : ma ≤ 9223372036854775807) {Cb : List Nat} {Wb : List Int} (hCb : BR w Ab nb cb Cb) (hWb : IR w Bb mb db Wb) (hnb : nb ≤ 9223372036854775807) (hmb : mb ≤ 9223372036854775807) :
    Calls Tryz.prog 10 #[.agg #[.int .i64 ka, .int .i64 sa, .slice Aa na ca, .slice Ba ma da], .agg #[.int .i64 kb, .int .i64 sb, .slice Ab nb cb, .slice Bb mb db]] w (GotV w (.bool (decide (Ca = Cb ∧ Wa = Wb)))) := by
  subst hk
  subst hs
  subst hn
  obtain ⟨R, hR⟩ : ∃ R, decide (Ca = Cb ∧ Wa = Wb) = R := ⟨_, rfl⟩
  rw [hR]
  have HR := Lib.hid hR
  clear hR
  have cc := Below.refl w.heap.size w
  go_enter Tryz.func10, Tryz.ntmps10
  go_wp2_with fail
  have bA : Below w.heap.size w ((w.alloc (.cells #[.int .i64 ka, .int .i64 sa, .slice Aa na ca, .slice Ba ma da] 25)).alloc (.cells #[.int .i64 ka, .int .i64 sa, .slice Ab na cb, .slice Bb mb db] 25)) := (((Below.refl _ w).alloc (by simp) _).alloc (by simp) _)
  replace cc := cc.trans (bA.mono cc.size)
  clear bA
  have xa0 : ((w.alloc (.cells #[.int .i64 ka, .int .i64 sa, .slice Aa na ca, .slice Ba ma da] 25)).alloc (.cells #[.int .i64 ka, .int .i64 sa, .slice Ab na cb, .slice Bb mb db] 25)).cell? ⟨w.heap.size, 0, none⟩ = some (.int .i64 ka) := by simp [go_sem]
  have xa1 : ((w.alloc (.cells #[.int .i64 ka, .int .i64 sa, .slice Aa na ca, .slice Ba ma da] 25)).alloc (.cells #[.int .i64 ka, .int .i64 sa, .slice Ab na cb, .slice Bb mb db] 25)).cell? ⟨w.heap.size, 1, none⟩ = some (.int .i64 sa) := by simp [go_sem]
  have xa2 : ((w.alloc (.cells #[.int .i64 ka, .int .i64 sa, .slice Aa na ca, .slice Ba ma da] 25)).alloc (.cells #[.int .i64 ka, .int .i64 sa, .slice Ab na cb, .slice Bb mb db] 25)).cell? ⟨w.heap.size, 2, none⟩ = some (.slice Aa na ca) := by simp [go_sem]
  have xa3 : ((w.alloc (.cells #[.int .i64 ka, .int .i64 sa, .slice Aa na ca, .slice Ba ma da] 25)).alloc (.cells #[.int .i64 ka, .int .i64 sa, .slice Ab na cb, .slice Bb mb db] 25)).cell? ⟨w.heap.size, 3, none⟩ = some (.slice Ba ma da) := by simp [go_sem]
  have xal : w.heap.size < ((w.alloc (.cells #[.int .i64 ka, .int .i64 sa, .slice Aa na ca, .slice Ba ma da] 25)).alloc (.cells #[.int .i64 ka, .int .i64 sa, .slice Ab na cb, .slice Bb mb db] 25)).heap.size := by simp <;> omega
  have xb0 : ((w.alloc (.cells #[.int .i64 ka, .int .i64 sa, .slice Aa na ca, .slice Ba ma da] 25)).alloc (.cells #[.int .i64 ka, .int .i64 sa, .slice Ab na cb, .slice Bb mb db] 25)).cell? ⟨w.heap.size + 1, 0, none⟩ = some (.int .i64 ka) := by simp [go_sem]
  have xb1 : ((w.alloc (.cells #[.int .i64 ka, .int .i64 sa, .slice Aa na ca, .slice Ba ma da] 25)).alloc (.cells #[.int .i64 ka, .int .i64 sa, .slice Ab na cb, .slice Bb mb db] 25)).cell? ⟨w.heap.size + 1, 1, none⟩ = some (.int .i64 sa) := by simp [go_sem]
  have xb2 : ((w.alloc (.cells #[.int .i64 ka, .int .i64 sa, .slice Aa na ca, .slice Ba ma da] 25)).alloc (.cells #[.int .i64 ka, .int .i64 sa, .slice Ab na cb, .slice Bb mb db] 25)).cell? ⟨w.heap.size + 1, 2, none⟩ = some (.slice Ab na cb) := by simp [go_sem]
  have xb3 : ((w.alloc (.cells #[.int .i64 ka, .int .i64 sa, .slice Aa na ca, .slice Ba ma da] 25)).alloc (.cells #[.int .i64 ka, .int .i64 sa, .slice Ab na cb, .slice Bb mb db] 25)).cell? ⟨w.heap.size + 1, 3, none⟩ = some (.slice Bb mb db) := by simp [go_sem]
  have xbl : w.heap.size + 1 < ((w.alloc (.cells #[.int .i64 ka, .int .i64 sa, .slice Aa na ca, .slice Ba ma da] 25)).alloc (.cells #[.int .i64 ka, .int .i64 sa, .slice Ab na cb, .slice Bb mb db] 25)).heap.size := by simp <;> omega
  generalize (w.alloc (.cells #[.int .i64 ka, .int .i64 sa, .slice Aa na ca, .slice Ba ma da] 25)).alloc (.cells #[.int .i64 ka, .int .i64 sa, .slice Ab na cb, .slice Bb mb db] 25) = v1 at *
  have Xa2 := Lib.hid xa2
  have Xa3 := Lib.hid xa3
  have Xb2 := Lib.hid xb2
  have Xb3 := Lib.hid xb3
  have XAL := Lib.hid xal
  have XBL := Lib.hid xbl
  have CCV := Lib.hid cc
  have HCa := Lib.hid (hCa.on cc)
  have HCb := Lib.hid (hCb.on cc)
  have HWa := Lib.hid (hWa.on cc)
  have HWb := Lib.hid (hWb.on cc)
  clear xa0 xa1 xa2 xa3 xb0 xb1 xb2 xb3 xal xbl cc hCa hCb hWa hWb
  go_wp2_with fail
  go_loopw [5] (fun iv wr => ∃ i : Nat, i ≤ na ∧ iv = .int .i64 (i : Int) ∧ (∀ j, j < i → Ca[j]?.getD 0 = Cb[j]?.getD 0) ∧ Below v1.heap.size v1 wr) (fun iv _ => na - (intOf iv).toNat)
  case atStart => exact ⟨0, by omega, rfl, fun j h => absurd h (by omega), Below.refl _ _⟩
  case round =>
    obtain ⟨i, hi, rfl, hj, hbl⟩ := hrel
    have xa2 := (hbl.cell (p := ⟨w.heap.size, 2, none⟩) XAL.out).trans Xa2.out
    have xa3 := (hbl.cell (p := ⟨w.heap.size, 3, none⟩) XAL.out).trans Xa3.out
    have xb2 := (hbl.cell (p := ⟨w.heap.size + 1, 2, none⟩) XBL.out).trans Xb2.out
    have xb3 := (hbl.cell (p := ⟨w.heap.size + 1, 3, none⟩) XBL.out).trans Xb3.out
    have cc := CCV.out.trans (hbl.mono CCV.out.size)
    have l1 := HCa.out.1
    have l2 := HCb.out.1
    by_cases hlt : i < na
    · obtain ⟨b1, o1, rfl, hb1, hc1⟩ := (HCa.out.on hbl).2.2.2 (by omega)
      obtain ⟨b2, o2, rfl, hb2, hc2⟩ := (HCb.out.on hbl).2.2.2 (by omega)
      have h1 := hc1 i hlt
      have h2 := hc2 i hlt
      have k3 : IntKind.i64.wrap ((i : Int) + 1) = ((i + 1 : Nat) : Int) := by rw [IntWalk.i64_in _ (by omega)]; omega
      obtain ⟨x, hx⟩ : ∃ x, Ca[i]?.getD 0 = x := ⟨_, rfl⟩
      obtain ⟨y, hy⟩ : ∃ y, Cb[i]?.getD 0 = y := ⟨_, rfl⟩
      have x6 : (x : Int) < 256 := by have := HCa.out.at hlt; rw [hx] at this; omega
      have y6 : (y : Int) < 256 := by have := HCb.out.at hlt; rw [hy] at this; omega
      rw [hx] at h1
      rw [hy] at h2
      clear hc1 hc2
      by_cases hxy : x = y
      · subst hxy
        have HJ : Hid (∀ j, j < i + 1 → Ca[j]?.getD 0 = Cb[j]?.getD 0) := Lib.hid (fun j h => by
          rcases Nat.lt_or_ge j i with e | e
          · exact hj j e
          · have e2 : j = i := by omega
            rw [e2, hx, hy])
        clear hj hx hy l1 l2
        go_wp2_with fail
        go_region_held3 (fun w' => w'.cell? ⟨b1, o1 + i, none⟩ = some (.int .u8 (x : Int)) ∧ w'.cell? ⟨b2, o2 + i, none⟩ = some (.int .u8 (x : Int)) ∧ w'.cell? ⟨w.heap.size, 2, none⟩ = some (.slice (some ⟨b1, o1, none⟩) na ca) ∧ w'.cell? ⟨w.heap.size + 1, 2, none⟩ = some (.slice (some ⟨b2, o2, none⟩) na cb)) (exact ⟨h1, h2, xa2, xb2⟩) (fail)
        go_wp2_with fail
        go_roundw
        case rel => exact ⟨i + 1, by omega, rfl, HJ.out, below_drewN hbl 1⟩
        case measure => simp [intOf] <;> omega
      · have t1 : ((x : Int) == (y : Int)) = false := beq_eq_false_iff_ne.2 (by omega)
        have t2 : ((x : Int) != (y : Int)) = true := by simp; omega
        have t3 : (x == y) = false := beq_eq_false_iff_ne.2 hxy
        have t4 : (x != y) = true := by simp; exact hxy
        have hF : R = false := by rw [← HR.out]; exact decide_eq_false (fun h => hxy (by rw [← hx, ← hy, h.1]))
        subst hF
        clear hj hx hy l1 l2 hxy
        go_wp2_with fail
        go_region_held3 (fun w' => w'.cell? ⟨b1, o1 + i, none⟩ = some (.int .u8 (x : Int)) ∧ w'.cell? ⟨b2, o2 + i, none⟩ = some (.int .u8 (y : Int)) ∧ w'.cell? ⟨w.heap.size, 2, none⟩ = some (.slice (some ⟨b1, o1, none⟩) na ca) ∧ w'.cell? ⟨w.heap.size + 1, 2, none⟩ = some (.slice (some ⟨b2, o2, none⟩) na cb)) (exact ⟨h1, h2, xa2, xb2⟩) (fail)
        go_wp2_with fail
        go_ret
        exact ⟨rfl, below_drewN cc 1⟩
    · obtain rfl : i = na := by omega
      have hE : R = decide (Wa = Wb) := by
        have hC : Ca = Cb := List.ext_getElem (by omega) fun j h1 h2 => by
          have := hj j (by omega)
          rwa [List.getElem?_eq_getElem h1, List.getElem?_eq_getElem h2] at this
        rw [← HR.out]
        by_cases h : Wa = Wb <;> simp [hC, h]
      obtain ⟨r, hr⟩ : ∃ r, decide (Wa = Wb) = r := ⟨_, rfl⟩
      rw [hr] at hE
      subst hE
      clear hj l1 l2
      have CW : Calls Tryz.prog 13 #[.slice Ba ma da, .slice Bb mb db] wr (GotV wr (.bool R)) := by rw [← hr]; exact rsame9_any (HWa.out.on hbl) (HWb.out.on hbl) hma
      clear hr HR
      go_wp2_with fail
      refine CW.mono ?_
      rintro e w9 ⟨rfl, b⟩
      replace cc := cc.trans (b.mono cc.size)
      go_wp2_with fail
      go_ret
      exact ⟨rfl, cc⟩

theorem rSame_N {w : World} {ka sa : Int} {Aa Ba : Option Addr} {na ca ma da : Nat} {kb sb : Int} {Ab Bb : Option Addr} {nb cb mb db : Nat} {Ca : List Nat} {Wa : List Int} (hCa : BR w Aa na ca Ca) (hWa : IR w Ba ma da Wa) (hna : na ≤ 9223372036854775807) (hma : ma ≤ 9223372036854775807) {Cb : List Nat} {Wb : List Int} (hCb : BR w Ab nb cb Cb) (hWb : IR w Bb mb db Wb) (hnb : nb ≤ 9223372036854775807) (hmb : mb ≤ 9223372036854775807) : Calls Tryz.prog 10 #[.agg #[.int .i64 ka, .int .i64 sa, .slice Aa na ca, .slice Ba ma da], .agg #[.int .i64 kb, .int .i64 sb, .slice Ab nb cb, .slice Bb mb db]] w (GotV w (.bool (decide (ka = kb ∧ sa = sb ∧ Ca = Cb ∧ Wa = Wb)))) := by
  by_cases a0 : ka = kb
  · by_cases a1 : sa = sb
    · by_cases a2 : na = nb
      · have e : decide (ka = kb ∧ sa = sb ∧ Ca = Cb ∧ Wa = Wb) = decide (Ca = Cb ∧ Wa = Wb) := by simp [a0, a1]
        rw [e]; exact rSame_eq a0 a1 a2 hCa hWa hna hma hCb hWb hnb hmb
      · rw [decide_eq_false (fun h => a2 (by rw [hCa.1, hCb.1, h.2.2.1]))]; exact rSame_n a0 a1 a2
    · rw [decide_eq_false (fun h => a1 h.2.1)]; exact rSame_s a0 a1
  · rw [decide_eq_false (fun h => a0 h.1)]; exact rSame_k a0

end Go.Proofs.YtlmcpgahjfepjaaGreat

/-
  The contracts of the landed block: Right, Load, Pack.
-/
namespace Go.Proofs.YtlmcpgahjfepjaaGreat
set_option maxRecDepth 100000
open Go.RowKit
set_option linter.unusedVariables false
set_option linter.unusedSimpArgs false

set_option maxRecDepth 100000 in
set_option maxHeartbeats 8000000 in
theorem bkRight_no {w : World} {k s : Int} {A B : Option Addr} {n c m d : Nat} {q : Int} (hq : IntKind.i64.wrap ((n : Int) + (m : Int)) = q) {C : List Nat} {W : List Int} (hC : BR w A n c C) (hW : IR w B m d W) (hn : n ≤ 9223372036854775807) (hm : m ≤ 9223372036854775807) (h : ¬ (0 ≤ k ∧ k ≤ 4)) :
    Calls Tryz.prog 8 #[.agg #[.int .i64 k, .int .i64 s, .slice A n c, .slice B m d]] w (GotV w (.bool false)) := by
  have CM := fun V => bkman_no V h
  clear h hC hW hq
  have cc := Below.refl w.heap.size w
  go_enter Tryz.func8, Tryz.ntmps8
  go_wp2_with fail
  have bA : Below w.heap.size w (w.alloc (.cells #[.int .i64 k, .int .i64 s, .slice A n c, .slice B m d] 25)) := ((Below.refl _ w).alloc (by simp) _)
  replace cc := cc.trans (bA.mono cc.size)
  clear bA
  have ka0 : (w.alloc (.cells #[.int .i64 k, .int .i64 s, .slice A n c, .slice B m d] 25)).cell? ⟨w.heap.size, 0, none⟩ = some (.int .i64 k) := by simp [go_sem]
  have ka1 : (w.alloc (.cells #[.int .i64 k, .int .i64 s, .slice A n c, .slice B m d] 25)).cell? ⟨w.heap.size, 1, none⟩ = some (.int .i64 s) := by simp [go_sem]
  have ka2 : (w.alloc (.cells #[.int .i64 k, .int .i64 s, .slice A n c, .slice B m d] 25)).cell? ⟨w.heap.size, 2, none⟩ = some (.slice A n c) := by simp [go_sem]
  have ka3 : (w.alloc (.cells #[.int .i64 k, .int .i64 s, .slice A n c, .slice B m d] 25)).cell? ⟨w.heap.size, 3, none⟩ = some (.slice B m d) := by simp [go_sem]
  have kal : w.heap.size < (w.alloc (.cells #[.int .i64 k, .int .i64 s, .slice A n c, .slice B m d] 25)).heap.size := by simp <;> omega
  generalize w.alloc (.cells #[.int .i64 k, .int .i64 s, .slice A n c, .slice B m d] 25) = v1 at *
  go_wp2_with fail
  refine (CM _).mono ?_
  rintro e w2 ⟨rfl, b⟩
  replace ka0 := (b.cell (p := ⟨w.heap.size, 0, none⟩) kal).trans ka0
  replace ka1 := (b.cell (p := ⟨w.heap.size, 1, none⟩) kal).trans ka1
  replace ka2 := (b.cell (p := ⟨w.heap.size, 2, none⟩) kal).trans ka2
  replace ka3 := (b.cell (p := ⟨w.heap.size, 3, none⟩) kal).trans ka3
  replace kal := Nat.lt_of_lt_of_le kal b.size
  replace cc := cc.trans (b.mono cc.size)
  clear b
  go_wp2_with fail
  go_ret
  exact ⟨rfl, cc⟩

set_option maxRecDepth 100000 in
set_option maxHeartbeats 8000000 in
theorem bkRight_wb {w : World} {k s : Int} {A B : Option Addr} {n c m d : Nat} {q : Int} (hq : IntKind.i64.wrap ((n : Int) + (m : Int)) = q) {C : List Nat} {W : List Int} (hC : BR w A n c C) (hW : IR w B m d W) (hn : n ≤ 9223372036854775807) (hm : m ≤ 9223372036854775807) (hk : k = 4) (hb : 4096 < q) :
    Calls Tryz.prog 8 #[.agg #[.int .i64 k, .int .i64 s, .slice A n c, .slice B m d]] w (GotV w (.bool false)) := by
  have CL := fun V => bkLen_N V (k := k) (s := s) (A := A) (B := B) (c := c) (d := d) hn hm
  rw [hq] at CL
  have CM := fun V => bkman_w V hk
  have tq : decide (q ≤ 4096) = false := decide_eq_false (by omega)
  clear hq hk hb hC hW
  have cc := Below.refl w.heap.size w
  go_enter Tryz.func8, Tryz.ntmps8
  go_wp2_with fail
  have bA : Below w.heap.size w (w.alloc (.cells #[.int .i64 k, .int .i64 s, .slice A n c, .slice B m d] 25)) := ((Below.refl _ w).alloc (by simp) _)
  replace cc := cc.trans (bA.mono cc.size)
  clear bA
  have ka0 : (w.alloc (.cells #[.int .i64 k, .int .i64 s, .slice A n c, .slice B m d] 25)).cell? ⟨w.heap.size, 0, none⟩ = some (.int .i64 k) := by simp [go_sem]
  have ka1 : (w.alloc (.cells #[.int .i64 k, .int .i64 s, .slice A n c, .slice B m d] 25)).cell? ⟨w.heap.size, 1, none⟩ = some (.int .i64 s) := by simp [go_sem]
  have ka2 : (w.alloc (.cells #[.int .i64 k, .int .i64 s, .slice A n c, .slice B m d] 25)).cell? ⟨w.heap.size, 2, none⟩ = some (.slice A n c) := by simp [go_sem]
  have ka3 : (w.alloc (.cells #[.int .i64 k, .int .i64 s, .slice A n c, .slice B m d] 25)).cell? ⟨w.heap.size, 3, none⟩ = some (.slice B m d) := by simp [go_sem]
  have kal : w.heap.size < (w.alloc (.cells #[.int .i64 k, .int .i64 s, .slice A n c, .slice B m d] 25)).heap.size := by simp <;> omega
  generalize w.alloc (.cells #[.int .i64 k, .int .i64 s, .slice A n c, .slice B m d] 25) = v1 at *
  go_wp2_with fail
  refine (CM _).mono ?_
  rintro e w2 ⟨rfl, b⟩
  replace ka0 := (b.cell (p := ⟨w.heap.size, 0, none⟩) kal).trans ka0
  replace ka1 := (b.cell (p := ⟨w.heap.size, 1, none⟩) kal).trans ka1
  replace ka2 := (b.cell (p := ⟨w.heap.size, 2, none⟩) kal).trans ka2
  replace ka3 := (b.cell (p := ⟨w.heap.size, 3, none⟩) kal).trans ka3
  replace kal := Nat.lt_of_lt_of_le kal b.size
  replace cc := cc.trans (b.mono cc.size)
  clear b
  go_wp2_with fail
  refine (CL _).mono ?_
  rintro e w3 ⟨rfl, b⟩
  replace ka0 := (b.cell (p := ⟨w.heap.size, 0, none⟩) kal).trans ka0
  replace ka1 := (b.cell (p := ⟨w.heap.size, 1, none⟩) kal).trans ka1
  replace ka2 := (b.cell (p := ⟨w.heap.size, 2, none⟩) kal).trans ka2
  replace ka3 := (b.cell (p := ⟨w.heap.size, 3, none⟩) kal).trans ka3
  replace kal := Nat.lt_of_lt_of_le kal b.size
  replace cc := cc.trans (b.mono cc.size)
  clear b
  go_wp2_with fail
  go_ret
  exact ⟨rfl, cc⟩

set_option maxRecDepth 100000 in
set_option maxHeartbeats 8000000 in
theorem bkRight_ws {w : World} {k s : Int} {A B : Option Addr} {n c m d : Nat} {q : Int} (hq : IntKind.i64.wrap ((n : Int) + (m : Int)) = q) {C : List Nat} {W : List Int} (hC : BR w A n c C) (hW : IR w B m d W) (hn : n ≤ 9223372036854775807) (hm : m ≤ 9223372036854775807) (hk : k = 4) (hb : q ≤ 4096) :
    Calls Tryz.prog 8 #[.agg #[.int .i64 k, .int .i64 s, .slice A n c, .slice B m d]] w (GotV w (.bool (decide ((∀ x ∈ W, x ≠ -9223372036854775808) ∧ s = 0 ∧ n = 0)))) := by
  have CL := fun V => bkLen_N V (k := k) (s := s) (A := A) (B := B) (c := c) (d := d) hn hm
  rw [hq] at CL
  have CM := fun V => bkman_w V hk
  have tq : decide (q ≤ 4096) = true := decide_eq_true (by omega)
  subst hk
  obtain ⟨r, hr⟩ : ∃ r, decide ((∀ x ∈ W, x ≠ -9223372036854775808) ∧ s = 0 ∧ n = 0) = r := ⟨_, rfl⟩
  rw [hr]
  have CR : ∀ {V : World}, IR V B m d W → Calls Tryz.prog 92 #[.agg #[], .agg #[.int .i64 4, .int .i64 s, .slice A n c, .slice B m d]] V (GotV V (.bool r)) := fun h => by have h2 := bkwright_N (k := 4) (s := s) (A := A) (n := n) (c := c) h hm; rw [hr] at h2; exact h2
  have hmt : ∀ V : World, (method 40 54 (.agg #[]) "ratchet/block.right").run Tryz.prog V = .ok (92, .agg #[]) V := fun _ => by kernel_rfl
  clear hr hq hb
  have cc := Below.refl w.heap.size w
  go_enter Tryz.func8, Tryz.ntmps8
  go_wp2_with fail
  have bA : Below w.heap.size w (w.alloc (.cells #[.int .i64 4, .int .i64 s, .slice A n c, .slice B m d] 25)) := ((Below.refl _ w).alloc (by simp) _)
  replace hC := hC.on bA
  replace hW := hW.on bA
  replace cc := cc.trans (bA.mono cc.size)
  clear bA
  have ka0 : (w.alloc (.cells #[.int .i64 4, .int .i64 s, .slice A n c, .slice B m d] 25)).cell? ⟨w.heap.size, 0, none⟩ = some (.int .i64 4) := by simp [go_sem]
  have ka1 : (w.alloc (.cells #[.int .i64 4, .int .i64 s, .slice A n c, .slice B m d] 25)).cell? ⟨w.heap.size, 1, none⟩ = some (.int .i64 s) := by simp [go_sem]
  have ka2 : (w.alloc (.cells #[.int .i64 4, .int .i64 s, .slice A n c, .slice B m d] 25)).cell? ⟨w.heap.size, 2, none⟩ = some (.slice A n c) := by simp [go_sem]
  have ka3 : (w.alloc (.cells #[.int .i64 4, .int .i64 s, .slice A n c, .slice B m d] 25)).cell? ⟨w.heap.size, 3, none⟩ = some (.slice B m d) := by simp [go_sem]
  have kal : w.heap.size < (w.alloc (.cells #[.int .i64 4, .int .i64 s, .slice A n c, .slice B m d] 25)).heap.size := by simp <;> omega
  generalize w.alloc (.cells #[.int .i64 4, .int .i64 s, .slice A n c, .slice B m d] 25) = v1 at *
  go_wp2_with fail
  refine (CM _).mono ?_
  rintro e w2 ⟨rfl, b⟩
  replace hC := hC.on b
  replace hW := hW.on b
  replace ka0 := (b.cell (p := ⟨w.heap.size, 0, none⟩) kal).trans ka0
  replace ka1 := (b.cell (p := ⟨w.heap.size, 1, none⟩) kal).trans ka1
  replace ka2 := (b.cell (p := ⟨w.heap.size, 2, none⟩) kal).trans ka2
  replace ka3 := (b.cell (p := ⟨w.heap.size, 3, none⟩) kal).trans ka3
  replace kal := Nat.lt_of_lt_of_le kal b.size
  replace cc := cc.trans (b.mono cc.size)
  clear b
  go_wp2_with fail
  refine (CL _).mono ?_
  rintro e w3 ⟨rfl, b⟩
  replace hC := hC.on b
  replace hW := hW.on b
  replace ka0 := (b.cell (p := ⟨w.heap.size, 0, none⟩) kal).trans ka0
  replace ka1 := (b.cell (p := ⟨w.heap.size, 1, none⟩) kal).trans ka1
  replace ka2 := (b.cell (p := ⟨w.heap.size, 2, none⟩) kal).trans ka2
  replace ka3 := (b.cell (p := ⟨w.heap.size, 3, none⟩) kal).trans ka3
  replace kal := Nat.lt_of_lt_of_le kal b.size
  replace cc := cc.trans (b.mono cc.size)
  clear b
  go_wp2_with fail
  refine (CR hW).mono ?_
  rintro e w4 ⟨rfl, b⟩
  replace hC := hC.on b
  replace hW := hW.on b
  replace ka0 := (b.cell (p := ⟨w.heap.size, 0, none⟩) kal).trans ka0
  replace ka1 := (b.cell (p := ⟨w.heap.size, 1, none⟩) kal).trans ka1
  replace ka2 := (b.cell (p := ⟨w.heap.size, 2, none⟩) kal).trans ka2
  replace ka3 := (b.cell (p := ⟨w.heap.size, 3, none⟩) kal).trans ka3
  replace kal := Nat.lt_of_lt_of_le kal b.size
  replace cc := cc.trans (b.mono cc.size)
  clear b
  go_wp2_with fail
  go_ret
  exact ⟨rfl, cc⟩

set_option maxRecDepth 100000 in
set_option maxHeartbeats 8000000 in
theorem bkRight_cb {w : World} {k s : Int} {A B : Option Addr} {n c m d : Nat} {q : Int} (hq : IntKind.i64.wrap ((n : Int) + (m : Int)) = q) {C : List Nat} {W : List Int} (hC : BR w A n c C) (hW : IR w B m d W) (hn : n ≤ 9223372036854775807) (hm : m ≤ 9223372036854775807) (hk : Kind9 k) (hb : 4096 < q) :
    Calls Tryz.prog 8 #[.agg #[.int .i64 k, .int .i64 s, .slice A n c, .slice B m d]] w (GotV w (.bool false)) := by
  have CL := fun V => bkLen_N V (k := k) (s := s) (A := A) (B := B) (c := c) (d := d) hn hm
  rw [hq] at CL
  have CM := fun V => bkman_c V hk
  have tq : decide (q ≤ 4096) = false := decide_eq_false (by omega)
  clear hq hk hb hC hW
  have cc := Below.refl w.heap.size w
  go_enter Tryz.func8, Tryz.ntmps8
  go_wp2_with fail
  have bA : Below w.heap.size w (w.alloc (.cells #[.int .i64 k, .int .i64 s, .slice A n c, .slice B m d] 25)) := ((Below.refl _ w).alloc (by simp) _)
  replace cc := cc.trans (bA.mono cc.size)
  clear bA
  have ka0 : (w.alloc (.cells #[.int .i64 k, .int .i64 s, .slice A n c, .slice B m d] 25)).cell? ⟨w.heap.size, 0, none⟩ = some (.int .i64 k) := by simp [go_sem]
  have ka1 : (w.alloc (.cells #[.int .i64 k, .int .i64 s, .slice A n c, .slice B m d] 25)).cell? ⟨w.heap.size, 1, none⟩ = some (.int .i64 s) := by simp [go_sem]
  have ka2 : (w.alloc (.cells #[.int .i64 k, .int .i64 s, .slice A n c, .slice B m d] 25)).cell? ⟨w.heap.size, 2, none⟩ = some (.slice A n c) := by simp [go_sem]
  have ka3 : (w.alloc (.cells #[.int .i64 k, .int .i64 s, .slice A n c, .slice B m d] 25)).cell? ⟨w.heap.size, 3, none⟩ = some (.slice B m d) := by simp [go_sem]
  have kal : w.heap.size < (w.alloc (.cells #[.int .i64 k, .int .i64 s, .slice A n c, .slice B m d] 25)).heap.size := by simp <;> omega
  generalize w.alloc (.cells #[.int .i64 k, .int .i64 s, .slice A n c, .slice B m d] 25) = v1 at *
  go_wp2_with fail
  refine (CM _).mono ?_
  rintro e w2 ⟨rfl, b⟩
  replace ka0 := (b.cell (p := ⟨w.heap.size, 0, none⟩) kal).trans ka0
  replace ka1 := (b.cell (p := ⟨w.heap.size, 1, none⟩) kal).trans ka1
  replace ka2 := (b.cell (p := ⟨w.heap.size, 2, none⟩) kal).trans ka2
  replace ka3 := (b.cell (p := ⟨w.heap.size, 3, none⟩) kal).trans ka3
  replace kal := Nat.lt_of_lt_of_le kal b.size
  replace cc := cc.trans (b.mono cc.size)
  clear b
  go_wp2_with fail
  refine (CL _).mono ?_
  rintro e w3 ⟨rfl, b⟩
  replace ka0 := (b.cell (p := ⟨w.heap.size, 0, none⟩) kal).trans ka0
  replace ka1 := (b.cell (p := ⟨w.heap.size, 1, none⟩) kal).trans ka1
  replace ka2 := (b.cell (p := ⟨w.heap.size, 2, none⟩) kal).trans ka2
  replace ka3 := (b.cell (p := ⟨w.heap.size, 3, none⟩) kal).trans ka3
  replace kal := Nat.lt_of_lt_of_le kal b.size
  replace cc := cc.trans (b.mono cc.size)
  clear b
  go_wp2_with fail
  go_ret
  exact ⟨rfl, cc⟩

set_option maxRecDepth 100000 in
set_option maxHeartbeats 8000000 in
theorem bkRight_cs {w : World} {k s : Int} {A B : Option Addr} {n c m d : Nat} {q : Int} (hq : IntKind.i64.wrap ((n : Int) + (m : Int)) = q) {C : List Nat} {W : List Int} (hC : BR w A n c C) (hW : IR w B m d W) (hn : n ≤ 9223372036854775807) (hm : m ≤ 9223372036854775807) (hk : Kind9 k) (hb : q ≤ 4096) :
    Calls Tryz.prog 8 #[.agg #[.int .i64 k, .int .i64 s, .slice A n c, .slice B m d]] w (GotV w (.bool (decide (m = 0 ∧ OkC k s C)))) := by
  have CL := fun V => bkLen_N V (k := k) (s := s) (A := A) (B := B) (c := c) (d := d) hn hm
  rw [hq] at CL
  have CM := fun V => bkman_c V hk
  have tq : decide (q ≤ 4096) = true := decide_eq_true (by omega)
  obtain ⟨r, hr⟩ : ∃ r, decide (m = 0 ∧ OkC k s C) = r := ⟨_, rfl⟩
  rw [hr]
  have CR : ∀ {V : World}, BR V A n c C → Calls Tryz.prog 97 #[.int .i64 k, .agg #[.int .i64 k, .int .i64 s, .slice A n c, .slice B m d]] V (GotV V (.bool r)) := fun h => by have h2 := bkcright_N (s := s) (B := B) (m := m) (d := d) hk h; rw [hr] at h2; exact h2
  have hmt : ∀ V : World, (method 40 55 (.int .i64 k) "ratchet/block.right").run Tryz.prog V = .ok (97, .int .i64 k) V := fun _ => by kernel_rfl
  clear hr hq hb hk
  have cc := Below.refl w.heap.size w
  go_enter Tryz.func8, Tryz.ntmps8
  go_wp2_with fail
  have bA : Below w.heap.size w (w.alloc (.cells #[.int .i64 k, .int .i64 s, .slice A n c, .slice B m d] 25)) := ((Below.refl _ w).alloc (by simp) _)
  replace hC := hC.on bA
  replace hW := hW.on bA
  replace cc := cc.trans (bA.mono cc.size)
  clear bA
  have ka0 : (w.alloc (.cells #[.int .i64 k, .int .i64 s, .slice A n c, .slice B m d] 25)).cell? ⟨w.heap.size, 0, none⟩ = some (.int .i64 k) := by simp [go_sem]
  have ka1 : (w.alloc (.cells #[.int .i64 k, .int .i64 s, .slice A n c, .slice B m d] 25)).cell? ⟨w.heap.size, 1, none⟩ = some (.int .i64 s) := by simp [go_sem]
  have ka2 : (w.alloc (.cells #[.int .i64 k, .int .i64 s, .slice A n c, .slice B m d] 25)).cell? ⟨w.heap.size, 2, none⟩ = some (.slice A n c) := by simp [go_sem]
  have ka3 : (w.alloc (.cells #[.int .i64 k, .int .i64 s, .slice A n c, .slice B m d] 25)).cell? ⟨w.heap.size, 3, none⟩ = some (.slice B m d) := by simp [go_sem]
  have kal : w.heap.size < (w.alloc (.cells #[.int .i64 k, .int .i64 s, .slice A n c, .slice B m d] 25)).heap.size := by simp <;> omega
  generalize w.alloc (.cells #[.int .i64 k, .int .i64 s, .slice A n c, .slice B m d] 25) = v1 at *
  go_wp2_with fail
  refine (CM _).mono ?_
  rintro e w2 ⟨rfl, b⟩
  replace hC := hC.on b
  replace hW := hW.on b
  replace ka0 := (b.cell (p := ⟨w.heap.size, 0, none⟩) kal).trans ka0
  replace ka1 := (b.cell (p := ⟨w.heap.size, 1, none⟩) kal).trans ka1
  replace ka2 := (b.cell (p := ⟨w.heap.size, 2, none⟩) kal).trans ka2
  replace ka3 := (b.cell (p := ⟨w.heap.size, 3, none⟩) kal).trans ka3
  replace kal := Nat.lt_of_lt_of_le kal b.size
  replace cc := cc.trans (b.mono cc.size)
  clear b
  go_wp2_with fail
  refine (CL _).mono ?_
  rintro e w3 ⟨rfl, b⟩
  replace hC := hC.on b
  replace hW := hW.on b
  replace ka0 := (b.cell (p := ⟨w.heap.size, 0, none⟩) kal).trans ka0
  replace ka1 := (b.cell (p := ⟨w.heap.size, 1, none⟩) kal).trans ka1
  replace ka2 := (b.cell (p := ⟨w.heap.size, 2, none⟩) kal).trans ka2
  replace ka3 := (b.cell (p := ⟨w.heap.size, 3, none⟩) kal).trans ka3
  replace kal := Nat.lt_of_lt_of_le kal b.size
  replace cc := cc.trans (b.mono cc.size)
  clear b
  go_wp2_with fail
  refine (CR hC).mono ?_
  rintro e w4 ⟨rfl, b⟩
  replace hC := hC.on b
  replace hW := hW.on b
  replace ka0 := (b.cell (p := ⟨w.heap.size, 0, none⟩) kal).trans ka0
  replace ka1 := (b.cell (p := ⟨w.heap.size, 1, none⟩) kal).trans ka1
  replace ka2 := (b.cell (p := ⟨w.heap.size, 2, none⟩) kal).trans ka2
  replace ka3 := (b.cell (p := ⟨w.heap.size, 3, none⟩) kal).trans ka3
  replace kal := Nat.lt_of_lt_of_le kal b.size
  replace cc := cc.trans (b.mono cc.size)
  clear b
  go_wp2_with fail
  go_ret
  exact ⟨rfl, cc⟩

theorem bkRight_N {w : World} {k s : Int} {A B : Option Addr} {n c m d : Nat} {C : List Nat} {W : List Int} (hC : BR w A n c C) (hW : IR w B m d W) (hn : n ≤ 9223372036854775807) (hm : m ≤ 9223372036854775807) : Calls Tryz.prog 8 #[.agg #[.int .i64 k, .int .i64 s, .slice A n c, .slice B m d]] w (GotV w (.bool (decide (OkB k s C W)))) := by
  have hl1 := hC.1
  have hl2 := hW.1
  obtain ⟨q, hq⟩ : ∃ q, IntKind.i64.wrap ((n : Int) + (m : Int)) = q := ⟨_, rfl⟩
  have q1 : n = 0 → q = (m : Int) := fun e => by subst e; rw [← hq]; rw [IntWalk.i64_in _ (by omega)]; omega
  have q2 : m = 0 → q = (n : Int) := fun e => by subst e; rw [← hq]; rw [IntWalk.i64_in _ (by omega)]; omega
  by_cases h : 0 ≤ k ∧ k ≤ 4
  · rcases kind_or.1 h with hk | hk
    · have h4 : k ≠ 4 := by unfold Kind9 at hk; omega
      by_cases hb : 4096 < q
      · rw [decide_eq_false (fun e => by
          rcases e with ⟨_, e1, e2, _⟩ | e
          · have := q2 (by rw [hl2, e2]; rfl); omega
          · exact h4 e.1)]
        exact bkRight_cb hq hC hW hn hm hk hb
      · have e : decide (OkB k s C W) = decide (m = 0 ∧ OkC k s C) := decide_eq_decide.2 ⟨fun e => (by
          rcases e with ⟨_, e1, e2, e3⟩ | e
          · exact ⟨by rw [hl2, e2]; rfl, e3⟩
          · exact absurd e.1 h4), fun e => .inl ⟨hk, by have := q2 e.1; omega, List.eq_nil_of_length_eq_zero (by omega), e.2⟩⟩
        rw [e]; exact bkRight_cs hq hC hW hn hm hk (by omega)
    · by_cases hb : 4096 < q
      · rw [decide_eq_false (fun e => by
          rcases e with ⟨e, _⟩ | ⟨_, e1, _, _, e2⟩
          · unfold Kind9 at e; omega
          · have := q1 (by rw [hl1, e2]; rfl); omega)]
        exact bkRight_wb hq hC hW hn hm hk hb
      · have e : decide (OkB k s C W) = decide ((∀ x ∈ W, x ≠ -9223372036854775808) ∧ s = 0 ∧ n = 0) := decide_eq_decide.2 ⟨fun e => (by
          rcases e with ⟨e, _⟩ | ⟨_, e1, e2, e3, e4⟩
          · unfold Kind9 at e; omega
          · exact ⟨e2, e3, by rw [hl1, e4]; rfl⟩), fun e => .inr ⟨hk, by have := q1 e.2.2; omega, e.1, e.2.1, List.eq_nil_of_length_eq_zero (by omega)⟩⟩
        rw [e]; exact bkRight_ws hq hC hW hn hm hk (by omega)
  · rw [decide_eq_false (fun e => h (kind_or.2 (by rcases e with e | e; exact .inl e.1; exact .inr e.1)))]
    exact bkRight_no hq hC hW hn hm h

set_option maxRecDepth 100000 in
set_option maxHeartbeats 8000000 in
theorem bkLoad_w {w : World} {k s : Int} {A B : Option Addr} {n c m d : Nat} {W : List Int} (hk : k = 4) (hW : IR w B m d W) (hm : m ≤ 4096) :
    Calls Tryz.prog 14 #[.agg #[.int .i64 k, .int .i64 s, .slice A n c, .slice B m d]] w (GotI w W) := by
  have CM := fun V => bkman_w V hk
  subst hk
  have hmt : ∀ V : World, (method 40 54 (.agg #[]) "ratchet/block.load").run Tryz.prog V = .ok (90, .agg #[]) V := fun _ => by kernel_rfl
  have cc := Below.refl w.heap.size w
  go_enter Tryz.func14, Tryz.ntmps14
  go_wp2_with fail
  have bA : Below w.heap.size w (w.alloc (.cells #[.int .i64 4, .int .i64 s, .slice A n c, .slice B m d] 25)) := ((Below.refl _ w).alloc (by simp) _)
  replace hW := hW.on bA
  replace cc := cc.trans (bA.mono cc.size)
  clear bA
  have ka0 : (w.alloc (.cells #[.int .i64 4, .int .i64 s, .slice A n c, .slice B m d] 25)).cell? ⟨w.heap.size, 0, none⟩ = some (.int .i64 4) := by simp [go_sem]
  have ka1 : (w.alloc (.cells #[.int .i64 4, .int .i64 s, .slice A n c, .slice B m d] 25)).cell? ⟨w.heap.size, 1, none⟩ = some (.int .i64 s) := by simp [go_sem]
  have ka2 : (w.alloc (.cells #[.int .i64 4, .int .i64 s, .slice A n c, .slice B m d] 25)).cell? ⟨w.heap.size, 2, none⟩ = some (.slice A n c) := by simp [go_sem]
  have ka3 : (w.alloc (.cells #[.int .i64 4, .int .i64 s, .slice A n c, .slice B m d] 25)).cell? ⟨w.heap.size, 3, none⟩ = some (.slice B m d) := by simp [go_sem]
  have kal : w.heap.size < (w.alloc (.cells #[.int .i64 4, .int .i64 s, .slice A n c, .slice B m d] 25)).heap.size := by simp <;> omega
  generalize w.alloc (.cells #[.int .i64 4, .int .i64 s, .slice A n c, .slice B m d] 25) = v1 at *
  go_wp2_with fail
  refine (CM _).mono ?_
  rintro e w2 ⟨rfl, b⟩
  replace hW := hW.on b
  replace ka0 := (b.cell (p := ⟨w.heap.size, 0, none⟩) kal).trans ka0
  replace ka1 := (b.cell (p := ⟨w.heap.size, 1, none⟩) kal).trans ka1
  replace ka2 := (b.cell (p := ⟨w.heap.size, 2, none⟩) kal).trans ka2
  replace ka3 := (b.cell (p := ⟨w.heap.size, 3, none⟩) kal).trans ka3
  replace kal := Nat.lt_of_lt_of_le kal b.size
  replace cc := cc.trans (b.mono cc.size)
  clear b
  go_wp2_with fail
  refine (bkwload_N hW hm).mono ?_
  rintro e w3 ⟨Al, nl, cl, rfl, hl, b⟩
  replace hW := hW.on b
  replace ka0 := (b.cell (p := ⟨w.heap.size, 0, none⟩) kal).trans ka0
  replace ka1 := (b.cell (p := ⟨w.heap.size, 1, none⟩) kal).trans ka1
  replace ka2 := (b.cell (p := ⟨w.heap.size, 2, none⟩) kal).trans ka2
  replace ka3 := (b.cell (p := ⟨w.heap.size, 3, none⟩) kal).trans ka3
  replace kal := Nat.lt_of_lt_of_le kal b.size
  replace cc := cc.trans (b.mono cc.size)
  clear b
  go_wp2_with fail
  go_ret
  exact ⟨_, _, _, rfl, hl, cc⟩

set_option maxRecDepth 100000 in
set_option maxHeartbeats 8000000 in
theorem bkLoad_c {w : World} {k s : Int} {A B : Option Addr} {n c m d : Nat} {C : List Nat} (hk : Kind9 k) (h0 : 0 ≤ s) (hs : I64 s) (hC : BR w A n c C) (hn : n ≤ 4096) :
    Calls Tryz.prog 14 #[.agg #[.int .i64 k, .int .i64 s, .slice A n c, .slice B m d]] w (GotI w (C.map (ld k s))) := by
  have CM := fun V => bkman_c V hk
  have CO := fun {V : World} (h : BR V A n c C) => bkcload_N (B := B) (m := m) (d := d) hk h0 hs h hn
  generalize C.map (ld k s) = R at *
  have hmt : ∀ V : World, (method 40 55 (.int .i64 k) "ratchet/block.load").run Tryz.prog V = .ok (95, .int .i64 k) V := fun _ => by kernel_rfl
  clear hk h0 hs
  have cc := Below.refl w.heap.size w
  go_enter Tryz.func14, Tryz.ntmps14
  go_wp2_with fail
  have bA : Below w.heap.size w (w.alloc (.cells #[.int .i64 k, .int .i64 s, .slice A n c, .slice B m d] 25)) := ((Below.refl _ w).alloc (by simp) _)
  replace hC := hC.on bA
  replace cc := cc.trans (bA.mono cc.size)
  clear bA
  have ka0 : (w.alloc (.cells #[.int .i64 k, .int .i64 s, .slice A n c, .slice B m d] 25)).cell? ⟨w.heap.size, 0, none⟩ = some (.int .i64 k) := by simp [go_sem]
  have ka1 : (w.alloc (.cells #[.int .i64 k, .int .i64 s, .slice A n c, .slice B m d] 25)).cell? ⟨w.heap.size, 1, none⟩ = some (.int .i64 s) := by simp [go_sem]
  have ka2 : (w.alloc (.cells #[.int .i64 k, .int .i64 s, .slice A n c, .slice B m d] 25)).cell? ⟨w.heap.size, 2, none⟩ = some (.slice A n c) := by simp [go_sem]
  have ka3 : (w.alloc (.cells #[.int .i64 k, .int .i64 s, .slice A n c, .slice B m d] 25)).cell? ⟨w.heap.size, 3, none⟩ = some (.slice B m d) := by simp [go_sem]
  have kal : w.heap.size < (w.alloc (.cells #[.int .i64 k, .int .i64 s, .slice A n c, .slice B m d] 25)).heap.size := by simp <;> omega
  generalize w.alloc (.cells #[.int .i64 k, .int .i64 s, .slice A n c, .slice B m d] 25) = v1 at *
  go_wp2_with fail
  refine (CM _).mono ?_
  rintro e w2 ⟨rfl, b⟩
  replace hC := hC.on b
  replace ka0 := (b.cell (p := ⟨w.heap.size, 0, none⟩) kal).trans ka0
  replace ka1 := (b.cell (p := ⟨w.heap.size, 1, none⟩) kal).trans ka1
  replace ka2 := (b.cell (p := ⟨w.heap.size, 2, none⟩) kal).trans ka2
  replace ka3 := (b.cell (p := ⟨w.heap.size, 3, none⟩) kal).trans ka3
  replace kal := Nat.lt_of_lt_of_le kal b.size
  replace cc := cc.trans (b.mono cc.size)
  clear b
  go_wp2_with fail
  refine (CO hC).mono ?_
  rintro e w3 ⟨Al, nl, cl, rfl, hl, b⟩
  replace hC := hC.on b
  replace ka0 := (b.cell (p := ⟨w.heap.size, 0, none⟩) kal).trans ka0
  replace ka1 := (b.cell (p := ⟨w.heap.size, 1, none⟩) kal).trans ka1
  replace ka2 := (b.cell (p := ⟨w.heap.size, 2, none⟩) kal).trans ka2
  replace ka3 := (b.cell (p := ⟨w.heap.size, 3, none⟩) kal).trans ka3
  replace kal := Nat.lt_of_lt_of_le kal b.size
  replace cc := cc.trans (b.mono cc.size)
  clear b
  go_wp2_with fail
  go_ret
  exact ⟨_, _, _, rfl, hl, cc⟩

theorem bkLoad_N {w : World} {k s : Int} {A B : Option Addr} {n c m d : Nat} {C : List Nat} {W : List Int} (hC : BR w A n c C) (hW : IR w B m d W) (ho : OkB k s C W) (hs : I64 s) : Calls Tryz.prog 14 #[.agg #[.int .i64 k, .int .i64 s, .slice A n c, .slice B m d]] w (GotI w (ldB k s C W)) := by
  have hl1 := hC.1
  have hl2 := hW.1
  unfold ldB
  rcases ho with ⟨hk, h1, _, h2⟩ | ⟨hk, h1, _⟩
  · rw [if_neg (show k ≠ 4 by unfold Kind9 at hk; omega)]
    exact bkLoad_c hk (by rcases h2 with e | e; have := e.1; omega; have := e.1; omega) hs hC (by omega)
  · rw [if_pos hk]
    exact bkLoad_w hk hW (by omega)

set_option maxRecDepth 100000 in
set_option maxHeartbeats 8000000 in
theorem bkPack_kind (w : World) {k : Int} {A : Option Addr} {n c : Nat} (h : ¬ (0 ≤ k ∧ k ≤ 4)) :
    Calls Tryz.prog 16 #[.int .i64 k, .slice A n c] w (GotBp w 0 0 [] [] 1) := by
  have CM := fun V => bkman_no V h
  clear h
  have cc := Below.refl w.heap.size w
  go_enter Tryz.func16, Tryz.ntmps16
  go_wp2_with fail
  have f0 : (w.alloc (.cells #[.int .i64 0, .int .i64 0, .slice none 0 0, .slice none 0 0] 25)).frozen? ⟨w.heap.size, 0, none⟩ = false := by simp [go_sem]
  have f1 : (w.alloc (.cells #[.int .i64 0, .int .i64 0, .slice none 0 0, .slice none 0 0] 25)).frozen? ⟨w.heap.size, 1, none⟩ = false := by simp [go_sem]
  have f2 : (w.alloc (.cells #[.int .i64 0, .int .i64 0, .slice none 0 0, .slice none 0 0] 25)).frozen? ⟨w.heap.size, 2, none⟩ = false := by simp [go_sem]
  have f3 : (w.alloc (.cells #[.int .i64 0, .int .i64 0, .slice none 0 0, .slice none 0 0] 25)).frozen? ⟨w.heap.size, 3, none⟩ = false := by simp [go_sem]
  have bA : Below w.heap.size w (w.alloc (.cells #[.int .i64 0, .int .i64 0, .slice none 0 0, .slice none 0 0] 25)) := ((Below.refl _ w).alloc (by simp) _)
  replace cc := cc.trans (bA.mono cc.size)
  clear bA
  have g0 : (w.alloc (.cells #[.int .i64 0, .int .i64 0, .slice none 0 0, .slice none 0 0] 25)).cell? ⟨w.heap.size, 0, none⟩ = some (.int .i64 0) := by simp [go_sem]
  have g1 : (w.alloc (.cells #[.int .i64 0, .int .i64 0, .slice none 0 0, .slice none 0 0] 25)).cell? ⟨w.heap.size, 1, none⟩ = some (.int .i64 0) := by simp [go_sem]
  have g2 : (w.alloc (.cells #[.int .i64 0, .int .i64 0, .slice none 0 0, .slice none 0 0] 25)).cell? ⟨w.heap.size, 2, none⟩ = some (.slice none 0 0) := by simp [go_sem]
  have g3 : (w.alloc (.cells #[.int .i64 0, .int .i64 0, .slice none 0 0, .slice none 0 0] 25)).cell? ⟨w.heap.size, 3, none⟩ = some (.slice none 0 0) := by simp [go_sem]
  have gl : w.heap.size < (w.alloc (.cells #[.int .i64 0, .int .i64 0, .slice none 0 0, .slice none 0 0] 25)).heap.size := by simp <;> omega
  generalize w.alloc (.cells #[.int .i64 0, .int .i64 0, .slice none 0 0, .slice none 0 0] 25) = v1 at *
  go_wp2_with fail
  refine (CM _).mono ?_
  rintro e w2 ⟨rfl, b⟩
  replace f0 := (b.frozen (p := ⟨w.heap.size, 0, none⟩) gl).trans f0
  replace f1 := (b.frozen (p := ⟨w.heap.size, 1, none⟩) gl).trans f1
  replace f2 := (b.frozen (p := ⟨w.heap.size, 2, none⟩) gl).trans f2
  replace f3 := (b.frozen (p := ⟨w.heap.size, 3, none⟩) gl).trans f3
  replace g0 := (b.cell (p := ⟨w.heap.size, 0, none⟩) gl).trans g0
  replace g1 := (b.cell (p := ⟨w.heap.size, 1, none⟩) gl).trans g1
  replace g2 := (b.cell (p := ⟨w.heap.size, 2, none⟩) gl).trans g2
  replace g3 := (b.cell (p := ⟨w.heap.size, 3, none⟩) gl).trans g3
  replace gl := Nat.lt_of_lt_of_le gl b.size
  replace cc := cc.trans (b.mono cc.size)
  clear b
  have HBF := Lib.hid (below_putK cc (Nat.le_refl _) (.int .i64 0) (.int .i64 0) (.slice none 0 0) (.slice none 0 0))
  clear cc
  go_wp2_with fail
  refine bodyPost_ret (v := .tuple #[.agg #[.int .i64 0, .int .i64 0, .slice none 0 0, .slice none 0 0], .int .i64 1]) (by simp [results, Tryz.results16, go_sem, g0, g1, g2, g3]) rfl ⟨_, _, _, _, _, _, rfl, BR.nil _ _ _, IR.nil _ _ _, HBF.out⟩

set_option maxRecDepth 100000 in
set_option maxHeartbeats 8000000 in
theorem bkPack_wn {w : World} {k : Int} {A : Option Addr} {n c : Nat} {L : List Int} (hk : k = 4) (hA : IR w A n c L) (hn : n ≤ 20) (ht : ∃ x ∈ L, tkW x = false) :
    Calls Tryz.prog 16 #[.int .i64 k, .slice A n c] w (GotBp w 0 0 [] [] 1) := by
  have CM := fun V => bkman_w V hk
  subst hk
  have CT := fun (V : World) (x : Int) => bktkw_N V (x := x)
  have hmt1 : ∀ V : World, (method 40 54 (.agg #[]) "ratchet/block.takes").run Tryz.prog V = .ok (93, .agg #[]) V := fun _ => by kernel_rfl
  have hmt2 : ∀ V : World, (method 40 54 (.agg #[]) "ratchet/block.pack").run Tryz.prog V = .ok (91, .agg #[]) V := fun _ => by kernel_rfl
  have HT := Lib.hid ht
  clear ht
  have HL := Lib.hid hA.1
  generalize tkW = T at *
  have cc := Below.refl w.heap.size w
  go_enter Tryz.func16, Tryz.ntmps16
  go_wp2_with fail
  have f0 : (w.alloc (.cells #[.int .i64 0, .int .i64 0, .slice none 0 0, .slice none 0 0] 25)).frozen? ⟨w.heap.size, 0, none⟩ = false := by simp [go_sem]
  have f1 : (w.alloc (.cells #[.int .i64 0, .int .i64 0, .slice none 0 0, .slice none 0 0] 25)).frozen? ⟨w.heap.size, 1, none⟩ = false := by simp [go_sem]
  have f2 : (w.alloc (.cells #[.int .i64 0, .int .i64 0, .slice none 0 0, .slice none 0 0] 25)).frozen? ⟨w.heap.size, 2, none⟩ = false := by simp [go_sem]
  have f3 : (w.alloc (.cells #[.int .i64 0, .int .i64 0, .slice none 0 0, .slice none 0 0] 25)).frozen? ⟨w.heap.size, 3, none⟩ = false := by simp [go_sem]
  have bA : Below w.heap.size w (w.alloc (.cells #[.int .i64 0, .int .i64 0, .slice none 0 0, .slice none 0 0] 25)) := ((Below.refl _ w).alloc (by simp) _)
  replace hA := hA.on bA
  replace cc := cc.trans (bA.mono cc.size)
  clear bA
  have g0 : (w.alloc (.cells #[.int .i64 0, .int .i64 0, .slice none 0 0, .slice none 0 0] 25)).cell? ⟨w.heap.size, 0, none⟩ = some (.int .i64 0) := by simp [go_sem]
  have g1 : (w.alloc (.cells #[.int .i64 0, .int .i64 0, .slice none 0 0, .slice none 0 0] 25)).cell? ⟨w.heap.size, 1, none⟩ = some (.int .i64 0) := by simp [go_sem]
  have g2 : (w.alloc (.cells #[.int .i64 0, .int .i64 0, .slice none 0 0, .slice none 0 0] 25)).cell? ⟨w.heap.size, 2, none⟩ = some (.slice none 0 0) := by simp [go_sem]
  have g3 : (w.alloc (.cells #[.int .i64 0, .int .i64 0, .slice none 0 0, .slice none 0 0] 25)).cell? ⟨w.heap.size, 3, none⟩ = some (.slice none 0 0) := by simp [go_sem]
  have gl : w.heap.size < (w.alloc (.cells #[.int .i64 0, .int .i64 0, .slice none 0 0, .slice none 0 0] 25)).heap.size := by simp <;> omega
  generalize w.alloc (.cells #[.int .i64 0, .int .i64 0, .slice none 0 0, .slice none 0 0] 25) = v1 at *
  go_wp2_with fail
  refine (CM _).mono ?_
  rintro e w2 ⟨rfl, b⟩
  replace f0 := (b.frozen (p := ⟨w.heap.size, 0, none⟩) gl).trans f0
  replace f1 := (b.frozen (p := ⟨w.heap.size, 1, none⟩) gl).trans f1
  replace f2 := (b.frozen (p := ⟨w.heap.size, 2, none⟩) gl).trans f2
  replace f3 := (b.frozen (p := ⟨w.heap.size, 3, none⟩) gl).trans f3
  replace hA := hA.on b
  replace g0 := (b.cell (p := ⟨w.heap.size, 0, none⟩) gl).trans g0
  replace g1 := (b.cell (p := ⟨w.heap.size, 1, none⟩) gl).trans g1
  replace g2 := (b.cell (p := ⟨w.heap.size, 2, none⟩) gl).trans g2
  replace g3 := (b.cell (p := ⟨w.heap.size, 3, none⟩) gl).trans g3
  replace gl := Nat.lt_of_lt_of_le gl b.size
  replace cc := cc.trans (b.mono cc.size)
  clear b
  have HAV := Lib.hid hA
  have CCV := Lib.hid cc
  have HGL := Lib.hid gl
  have G0 := Lib.hid g0
  have G1 := Lib.hid g1
  have G2 := Lib.hid g2
  have G3 := Lib.hid g3
  have F0 := Lib.hid f0
  have F1 := Lib.hid f1
  have F2 := Lib.hid f2
  have F3 := Lib.hid f3
  clear hA cc gl g0 f0 g1 f1 g2 f2 g3 f3
  go_wp2_with fail
  go_loopw [21] (fun iv wr => ∃ i : Nat, i ≤ n ∧ iv = .int .i64 (i : Int) ∧ (∀ j, j < i → T (L[j]?.getD 0) = true) ∧ Below w2.heap.size w2 wr) (fun iv _ => n - (intOf iv).toNat)
  case atStart => exact ⟨0, by omega, rfl, fun j h => absurd h (by omega), Below.refl _ _⟩
  case round =>
    obtain ⟨i, hi, rfl, hj, hbl⟩ := hrel
    by_cases hlt : i < n
    · have hA := HAV.out.on hbl
      obtain ⟨b2, o2, rfl, hb2_, hc2⟩ := HAV.out.2.2 (by omega)
      have e1 := hA.cell hlt
      obtain ⟨x, hx⟩ : ∃ x, L[i]?.getD 0 = x := ⟨_, rfl⟩
      rw [hx] at e1
      have CTx := fun V => CT V x
      have k3 : IntKind.i64.wrap ((i : Int) + 1) = ((i + 1 : Nat) : Int) := by rw [IntWalk.i64_in _ (by omega)]; omega
      cases tx : T x with
      | true =>
        have HJ : Hid (∀ j, j < i + 1 → T (L[j]?.getD 0) = true) := Lib.hid (fun j h => by
          rcases Nat.lt_or_ge j i with e | e
          · exact hj j e
          · have e2 : j = i := by omega
            rw [e2, hx]; exact tx)
        rw [tx] at CTx
        clear hj hx hA hc2 CT hb2_ tx
        go_wp2_with fail
        refine (CTx _).mono ?_
        rintro e wz ⟨rfl, b⟩
        replace hbl := hbl.trans (b.mono hbl.size)
        clear b
        go_wp2_with fail
        go_roundw
        case rel => exact ⟨i + 1, by omega, by go_num, HJ.out, hbl⟩
        case measure => simp [intOf] <;> omega
      | false =>
        have hgl := HGL.out
        have cc := CCV.out.trans (hbl.mono CCV.out.size)
        have g0 := (hbl.cell (p := ⟨w.heap.size, 0, none⟩) hgl).trans G0.out
        have g1 := (hbl.cell (p := ⟨w.heap.size, 1, none⟩) hgl).trans G1.out
        have g2 := (hbl.cell (p := ⟨w.heap.size, 2, none⟩) hgl).trans G2.out
        have g3 := (hbl.cell (p := ⟨w.heap.size, 3, none⟩) hgl).trans G3.out
        have f0 := (hbl.frozen (p := ⟨w.heap.size, 0, none⟩) hgl).trans F0.out
        have f1 := (hbl.frozen (p := ⟨w.heap.size, 1, none⟩) hgl).trans F1.out
        have f2 := (hbl.frozen (p := ⟨w.heap.size, 2, none⟩) hgl).trans F2.out
        have f3 := (hbl.frozen (p := ⟨w.heap.size, 3, none⟩) hgl).trans F3.out
        replace hgl := Nat.lt_of_lt_of_le hgl hbl.size
        rw [tx] at CTx
        clear hj hx hA hc2 CT hb2_ tx hbl
        go_wp2_with fail
        refine (CTx _).mono ?_
        rintro e wz ⟨rfl, b⟩
        replace g0 := (b.cell (p := ⟨w.heap.size, 0, none⟩) hgl).trans g0
        replace g1 := (b.cell (p := ⟨w.heap.size, 1, none⟩) hgl).trans g1
        replace g2 := (b.cell (p := ⟨w.heap.size, 2, none⟩) hgl).trans g2
        replace g3 := (b.cell (p := ⟨w.heap.size, 3, none⟩) hgl).trans g3
        replace f0 := (b.frozen (p := ⟨w.heap.size, 0, none⟩) hgl).trans f0
        replace f1 := (b.frozen (p := ⟨w.heap.size, 1, none⟩) hgl).trans f1
        replace f2 := (b.frozen (p := ⟨w.heap.size, 2, none⟩) hgl).trans f2
        replace f3 := (b.frozen (p := ⟨w.heap.size, 3, none⟩) hgl).trans f3
        replace cc := cc.trans (b.mono cc.size)
        have HBF := Lib.hid (below_putK cc (Nat.le_refl _) (.int .i64 0) (.int .i64 0) (.slice none 0 0) (.slice none 0 0))
        clear cc b hgl
        go_wp2_with fail
        refine bodyPost_ret (v := .tuple #[.agg #[.int .i64 0, .int .i64 0, .slice none 0 0, .slice none 0 0], .int .i64 1]) (by simp [results, Tryz.results16, go_sem, g0, g1, g2, g3]) rfl ⟨_, _, _, _, _, _, rfl, BR.nil _ _ _, IR.nil _ _ _, HBF.out⟩
    · exfalso
      obtain rfl : i = n := by omega
      obtain ⟨x, hx, hxf⟩ := HT.out
      obtain ⟨j, hj2, rfl⟩ := at_mem 0 hx
      have h1 := hj j (by rw [HL.out]; exact hj2)
      rw [hxf] at h1
      cases h1

set_option maxRecDepth 100000 in
set_option maxHeartbeats 8000000 in
theorem bkPack_wy {w : World} {k : Int} {A : Option Addr} {n c : Nat} {L : List Int} (hk : k = 4) (hA : IR w A n c L) (hn : n ≤ 20) (ht : ∀ x ∈ L, tkW x = true) :
    Calls Tryz.prog 16 #[.int .i64 k, .slice A n c] w (GotBp w 4 0 [] L 0) := by
  have CM := fun V => bkman_w V hk
  subst hk
  have CT := fun (V : World) (x : Int) => bktkw_N V (x := x)
  have hmt1 : ∀ V : World, (method 40 54 (.agg #[]) "ratchet/block.takes").run Tryz.prog V = .ok (93, .agg #[]) V := fun _ => by kernel_rfl
  have hmt2 : ∀ V : World, (method 40 54 (.agg #[]) "ratchet/block.pack").run Tryz.prog V = .ok (91, .agg #[]) V := fun _ => by kernel_rfl
  have CP := fun {V : World} (h : IR V A n c L) => bkwpack_N h (by omega)
  have HT := Lib.hid ht
  clear ht
  have HL := Lib.hid hA.1
  generalize tkW = T at *
  have cc := Below.refl w.heap.size w
  go_enter Tryz.func16, Tryz.ntmps16
  go_wp2_with fail
  have f0 : (w.alloc (.cells #[.int .i64 0, .int .i64 0, .slice none 0 0, .slice none 0 0] 25)).frozen? ⟨w.heap.size, 0, none⟩ = false := by simp [go_sem]
  have f1 : (w.alloc (.cells #[.int .i64 0, .int .i64 0, .slice none 0 0, .slice none 0 0] 25)).frozen? ⟨w.heap.size, 1, none⟩ = false := by simp [go_sem]
  have f2 : (w.alloc (.cells #[.int .i64 0, .int .i64 0, .slice none 0 0, .slice none 0 0] 25)).frozen? ⟨w.heap.size, 2, none⟩ = false := by simp [go_sem]
  have f3 : (w.alloc (.cells #[.int .i64 0, .int .i64 0, .slice none 0 0, .slice none 0 0] 25)).frozen? ⟨w.heap.size, 3, none⟩ = false := by simp [go_sem]
  have bA : Below w.heap.size w (w.alloc (.cells #[.int .i64 0, .int .i64 0, .slice none 0 0, .slice none 0 0] 25)) := ((Below.refl _ w).alloc (by simp) _)
  replace hA := hA.on bA
  replace cc := cc.trans (bA.mono cc.size)
  clear bA
  have g0 : (w.alloc (.cells #[.int .i64 0, .int .i64 0, .slice none 0 0, .slice none 0 0] 25)).cell? ⟨w.heap.size, 0, none⟩ = some (.int .i64 0) := by simp [go_sem]
  have g1 : (w.alloc (.cells #[.int .i64 0, .int .i64 0, .slice none 0 0, .slice none 0 0] 25)).cell? ⟨w.heap.size, 1, none⟩ = some (.int .i64 0) := by simp [go_sem]
  have g2 : (w.alloc (.cells #[.int .i64 0, .int .i64 0, .slice none 0 0, .slice none 0 0] 25)).cell? ⟨w.heap.size, 2, none⟩ = some (.slice none 0 0) := by simp [go_sem]
  have g3 : (w.alloc (.cells #[.int .i64 0, .int .i64 0, .slice none 0 0, .slice none 0 0] 25)).cell? ⟨w.heap.size, 3, none⟩ = some (.slice none 0 0) := by simp [go_sem]
  have gl : w.heap.size < (w.alloc (.cells #[.int .i64 0, .int .i64 0, .slice none 0 0, .slice none 0 0] 25)).heap.size := by simp <;> omega
  generalize w.alloc (.cells #[.int .i64 0, .int .i64 0, .slice none 0 0, .slice none 0 0] 25) = v1 at *
  go_wp2_with fail
  refine (CM _).mono ?_
  rintro e w2 ⟨rfl, b⟩
  replace f0 := (b.frozen (p := ⟨w.heap.size, 0, none⟩) gl).trans f0
  replace f1 := (b.frozen (p := ⟨w.heap.size, 1, none⟩) gl).trans f1
  replace f2 := (b.frozen (p := ⟨w.heap.size, 2, none⟩) gl).trans f2
  replace f3 := (b.frozen (p := ⟨w.heap.size, 3, none⟩) gl).trans f3
  replace hA := hA.on b
  replace g0 := (b.cell (p := ⟨w.heap.size, 0, none⟩) gl).trans g0
  replace g1 := (b.cell (p := ⟨w.heap.size, 1, none⟩) gl).trans g1
  replace g2 := (b.cell (p := ⟨w.heap.size, 2, none⟩) gl).trans g2
  replace g3 := (b.cell (p := ⟨w.heap.size, 3, none⟩) gl).trans g3
  replace gl := Nat.lt_of_lt_of_le gl b.size
  replace cc := cc.trans (b.mono cc.size)
  clear b
  have HAV := Lib.hid hA
  have CCV := Lib.hid cc
  have HGL := Lib.hid gl
  have G0 := Lib.hid g0
  have G1 := Lib.hid g1
  have G2 := Lib.hid g2
  have G3 := Lib.hid g3
  have F0 := Lib.hid f0
  have F1 := Lib.hid f1
  have F2 := Lib.hid f2
  have F3 := Lib.hid f3
  clear hA cc gl g0 f0 g1 f1 g2 f2 g3 f3
  go_wp2_with fail
  go_loopw [21] (fun iv wr => ∃ i : Nat, i ≤ n ∧ iv = .int .i64 (i : Int) ∧ (∀ j, j < i → T (L[j]?.getD 0) = true) ∧ Below w2.heap.size w2 wr) (fun iv _ => n - (intOf iv).toNat)
  case atStart => exact ⟨0, by omega, rfl, fun j h => absurd h (by omega), Below.refl _ _⟩
  case round =>
    obtain ⟨i, hi, rfl, hj, hbl⟩ := hrel
    by_cases hlt : i < n
    · have hA := HAV.out.on hbl
      obtain ⟨b2, o2, rfl, hb2_, hc2⟩ := HAV.out.2.2 (by omega)
      have e1 := hA.cell hlt
      obtain ⟨x, hx⟩ : ∃ x, L[i]?.getD 0 = x := ⟨_, rfl⟩
      rw [hx] at e1
      have CTx := fun V => CT V x
      have k3 : IntKind.i64.wrap ((i : Int) + 1) = ((i + 1 : Nat) : Int) := by rw [IntWalk.i64_in _ (by omega)]; omega
      have tx : T x = true := by rw [← hx]; exact HT.out _ (mem_at (by rw [← HL.out]; exact hlt))
      have HJ : Hid (∀ j, j < i + 1 → T (L[j]?.getD 0) = true) := Lib.hid (fun j h => by
        rcases Nat.lt_or_ge j i with e | e
        · exact hj j e
        · have e2 : j = i := by omega
          rw [e2, hx]; exact tx)
      rw [tx] at CTx
      clear hj hx hA hc2 CT hb2_ tx
      go_wp2_with fail
      refine (CTx _).mono ?_
      rintro e wz ⟨rfl, b⟩
      replace hbl := hbl.trans (b.mono hbl.size)
      clear b
      go_wp2_with fail
      go_roundw
      case rel => exact ⟨i + 1, by omega, by go_num, HJ.out, hbl⟩
      case measure => simp [intOf] <;> omega
    · obtain rfl : i = n := by omega
      have hgl := HGL.out
      have cc := CCV.out.trans (hbl.mono CCV.out.size)
      have g0 := (hbl.cell (p := ⟨w.heap.size, 0, none⟩) hgl).trans G0.out
      have g1 := (hbl.cell (p := ⟨w.heap.size, 1, none⟩) hgl).trans G1.out
      have g2 := (hbl.cell (p := ⟨w.heap.size, 2, none⟩) hgl).trans G2.out
      have g3 := (hbl.cell (p := ⟨w.heap.size, 3, none⟩) hgl).trans G3.out
      have f0 := (hbl.frozen (p := ⟨w.heap.size, 0, none⟩) hgl).trans F0.out
      have f1 := (hbl.frozen (p := ⟨w.heap.size, 1, none⟩) hgl).trans F1.out
      have f2 := (hbl.frozen (p := ⟨w.heap.size, 2, none⟩) hgl).trans F2.out
      have f3 := (hbl.frozen (p := ⟨w.heap.size, 3, none⟩) hgl).trans F3.out
      replace hgl := Nat.lt_of_lt_of_le hgl hbl.size
      have hA := HAV.out.on hbl
      clear hj hbl
      have t4 : decide (4096 < i) = false := decide_eq_false (by omega)
      have t5 : decide ((4096 : Int) < (i : Int)) = false := decide_eq_false (by omega)
      go_wp2_with fail
      refine (CP hA).mono ?_
      rintro e wz ⟨Ax, nx, cx, Bx, mx, dx, rfl, hC, hW, b, hn1, hn2⟩
      replace g0 := (b.cell (p := ⟨w.heap.size, 0, none⟩) hgl).trans g0
      replace g1 := (b.cell (p := ⟨w.heap.size, 1, none⟩) hgl).trans g1
      replace g2 := (b.cell (p := ⟨w.heap.size, 2, none⟩) hgl).trans g2
      replace g3 := (b.cell (p := ⟨w.heap.size, 3, none⟩) hgl).trans g3
      replace f0 := (b.frozen (p := ⟨w.heap.size, 0, none⟩) hgl).trans f0
      replace f1 := (b.frozen (p := ⟨w.heap.size, 1, none⟩) hgl).trans f1
      replace f2 := (b.frozen (p := ⟨w.heap.size, 2, none⟩) hgl).trans f2
      replace f3 := (b.frozen (p := ⟨w.heap.size, 3, none⟩) hgl).trans f3
      replace cc := cc.trans (b.mono cc.size)
      have m1 : ∀ p, Ax = some p → p.block ≠ w.heap.size := fun p e => by have := hn1 p e; omega
      have m2 : ∀ p, Bx = some p → p.block ≠ w.heap.size := fun p e => by have := hn2 p e; omega
      have HRC := Lib.hid (br_putK hC m1 (.int .i64 4) (.int .i64 0) (.slice Ax nx cx) (.slice Bx mx dx))
      have HRW := Lib.hid (ir_putK hW m2 (.int .i64 4) (.int .i64 0) (.slice Ax nx cx) (.slice Bx mx dx))
      have HBF := Lib.hid (below_putK cc (Nat.le_refl _) (.int .i64 4) (.int .i64 0) (.slice Ax nx cx) (.slice Bx mx dx))
      clear hC hW b hn1 hn2 m1 m2 cc hgl hA
      go_wp2_with fail
      refine bodyPost_ret (v := .tuple #[.agg #[.int .i64 4, .int .i64 0, .slice Ax nx cx, .slice Bx mx dx], .int .i64 0]) (by simp [results, Tryz.results16, go_sem, g0, g1, g2, g3]) rfl ⟨_, _, _, _, _, _, rfl, HRC.out, HRW.out, HBF.out⟩

set_option maxRecDepth 100000 in
set_option maxHeartbeats 8000000 in
theorem bkPack_cn {w : World} {k : Int} {A : Option Addr} {n c : Nat} {L : List Int} (hk : Kind9 k) (hA : IR w A n c L) (hn : n ≤ 20) (ht : ∃ x ∈ L, tkC k x = false) :
    Calls Tryz.prog 16 #[.int .i64 k, .slice A n c] w (GotBp w 0 0 [] [] 1) := by
  have CM := fun V => bkman_c V hk
  have CT := fun (V : World) (x : Int) => bktkc_N V (k := k) (x := x)
  have hmt1 : ∀ V : World, (method 40 55 (.int .i64 k) "ratchet/block.takes").run Tryz.prog V = .ok (98, .int .i64 k) V := fun _ => by kernel_rfl
  have hmt2 : ∀ V : World, (method 40 55 (.int .i64 k) "ratchet/block.pack").run Tryz.prog V = .ok (96, .int .i64 k) V := fun _ => by kernel_rfl
  have HT := Lib.hid ht
  clear ht hk
  have HL := Lib.hid hA.1
  generalize tkC k = T at *
  have cc := Below.refl w.heap.size w
  go_enter Tryz.func16, Tryz.ntmps16
  go_wp2_with fail
  have f0 : (w.alloc (.cells #[.int .i64 0, .int .i64 0, .slice none 0 0, .slice none 0 0] 25)).frozen? ⟨w.heap.size, 0, none⟩ = false := by simp [go_sem]
  have f1 : (w.alloc (.cells #[.int .i64 0, .int .i64 0, .slice none 0 0, .slice none 0 0] 25)).frozen? ⟨w.heap.size, 1, none⟩ = false := by simp [go_sem]
  have f2 : (w.alloc (.cells #[.int .i64 0, .int .i64 0, .slice none 0 0, .slice none 0 0] 25)).frozen? ⟨w.heap.size, 2, none⟩ = false := by simp [go_sem]
  have f3 : (w.alloc (.cells #[.int .i64 0, .int .i64 0, .slice none 0 0, .slice none 0 0] 25)).frozen? ⟨w.heap.size, 3, none⟩ = false := by simp [go_sem]
  have bA : Below w.heap.size w (w.alloc (.cells #[.int .i64 0, .int .i64 0, .slice none 0 0, .slice none 0 0] 25)) := ((Below.refl _ w).alloc (by simp) _)
  replace hA := hA.on bA
  replace cc := cc.trans (bA.mono cc.size)
  clear bA
  have g0 : (w.alloc (.cells #[.int .i64 0, .int .i64 0, .slice none 0 0, .slice none 0 0] 25)).cell? ⟨w.heap.size, 0, none⟩ = some (.int .i64 0) := by simp [go_sem]
  have g1 : (w.alloc (.cells #[.int .i64 0, .int .i64 0, .slice none 0 0, .slice none 0 0] 25)).cell? ⟨w.heap.size, 1, none⟩ = some (.int .i64 0) := by simp [go_sem]
  have g2 : (w.alloc (.cells #[.int .i64 0, .int .i64 0, .slice none 0 0, .slice none 0 0] 25)).cell? ⟨w.heap.size, 2, none⟩ = some (.slice none 0 0) := by simp [go_sem]
  have g3 : (w.alloc (.cells #[.int .i64 0, .int .i64 0, .slice none 0 0, .slice none 0 0] 25)).cell? ⟨w.heap.size, 3, none⟩ = some (.slice none 0 0) := by simp [go_sem]
  have gl : w.heap.size < (w.alloc (.cells #[.int .i64 0, .int .i64 0, .slice none 0 0, .slice none 0 0] 25)).heap.size := by simp <;> omega
  generalize w.alloc (.cells #[.int .i64 0, .int .i64 0, .slice none 0 0, .slice none 0 0] 25) = v1 at *
  go_wp2_with fail
  refine (CM _).mono ?_
  rintro e w2 ⟨rfl, b⟩
  replace f0 := (b.frozen (p := ⟨w.heap.size, 0, none⟩) gl).trans f0
  replace f1 := (b.frozen (p := ⟨w.heap.size, 1, none⟩) gl).trans f1
  replace f2 := (b.frozen (p := ⟨w.heap.size, 2, none⟩) gl).trans f2
  replace f3 := (b.frozen (p := ⟨w.heap.size, 3, none⟩) gl).trans f3
  replace hA := hA.on b
  replace g0 := (b.cell (p := ⟨w.heap.size, 0, none⟩) gl).trans g0
  replace g1 := (b.cell (p := ⟨w.heap.size, 1, none⟩) gl).trans g1
  replace g2 := (b.cell (p := ⟨w.heap.size, 2, none⟩) gl).trans g2
  replace g3 := (b.cell (p := ⟨w.heap.size, 3, none⟩) gl).trans g3
  replace gl := Nat.lt_of_lt_of_le gl b.size
  replace cc := cc.trans (b.mono cc.size)
  clear b
  have HAV := Lib.hid hA
  have CCV := Lib.hid cc
  have HGL := Lib.hid gl
  have G0 := Lib.hid g0
  have G1 := Lib.hid g1
  have G2 := Lib.hid g2
  have G3 := Lib.hid g3
  have F0 := Lib.hid f0
  have F1 := Lib.hid f1
  have F2 := Lib.hid f2
  have F3 := Lib.hid f3
  clear hA cc gl g0 f0 g1 f1 g2 f2 g3 f3
  go_wp2_with fail
  go_loopw [21] (fun iv wr => ∃ i : Nat, i ≤ n ∧ iv = .int .i64 (i : Int) ∧ (∀ j, j < i → T (L[j]?.getD 0) = true) ∧ Below w2.heap.size w2 wr) (fun iv _ => n - (intOf iv).toNat)
  case atStart => exact ⟨0, by omega, rfl, fun j h => absurd h (by omega), Below.refl _ _⟩
  case round =>
    obtain ⟨i, hi, rfl, hj, hbl⟩ := hrel
    by_cases hlt : i < n
    · have hA := HAV.out.on hbl
      obtain ⟨b2, o2, rfl, hb2_, hc2⟩ := HAV.out.2.2 (by omega)
      have e1 := hA.cell hlt
      obtain ⟨x, hx⟩ : ∃ x, L[i]?.getD 0 = x := ⟨_, rfl⟩
      rw [hx] at e1
      have CTx := fun V => CT V x
      have k3 : IntKind.i64.wrap ((i : Int) + 1) = ((i + 1 : Nat) : Int) := by rw [IntWalk.i64_in _ (by omega)]; omega
      cases tx : T x with
      | true =>
        have HJ : Hid (∀ j, j < i + 1 → T (L[j]?.getD 0) = true) := Lib.hid (fun j h => by
          rcases Nat.lt_or_ge j i with e | e
          · exact hj j e
          · have e2 : j = i := by omega
            rw [e2, hx]; exact tx)
        rw [tx] at CTx
        clear hj hx hA hc2 CT hb2_ tx
        go_wp2_with fail
        refine (CTx _).mono ?_
        rintro e wz ⟨rfl, b⟩
        replace hbl := hbl.trans (b.mono hbl.size)
        clear b
        go_wp2_with fail
        go_roundw
        case rel => exact ⟨i + 1, by omega, by go_num, HJ.out, hbl⟩
        case measure => simp [intOf] <;> omega
      | false =>
        have hgl := HGL.out
        have cc := CCV.out.trans (hbl.mono CCV.out.size)
        have g0 := (hbl.cell (p := ⟨w.heap.size, 0, none⟩) hgl).trans G0.out
        have g1 := (hbl.cell (p := ⟨w.heap.size, 1, none⟩) hgl).trans G1.out
        have g2 := (hbl.cell (p := ⟨w.heap.size, 2, none⟩) hgl).trans G2.out
        have g3 := (hbl.cell (p := ⟨w.heap.size, 3, none⟩) hgl).trans G3.out
        have f0 := (hbl.frozen (p := ⟨w.heap.size, 0, none⟩) hgl).trans F0.out
        have f1 := (hbl.frozen (p := ⟨w.heap.size, 1, none⟩) hgl).trans F1.out
        have f2 := (hbl.frozen (p := ⟨w.heap.size, 2, none⟩) hgl).trans F2.out
        have f3 := (hbl.frozen (p := ⟨w.heap.size, 3, none⟩) hgl).trans F3.out
        replace hgl := Nat.lt_of_lt_of_le hgl hbl.size
        rw [tx] at CTx
        clear hj hx hA hc2 CT hb2_ tx hbl
        go_wp2_with fail
        refine (CTx _).mono ?_
        rintro e wz ⟨rfl, b⟩
        replace g0 := (b.cell (p := ⟨w.heap.size, 0, none⟩) hgl).trans g0
        replace g1 := (b.cell (p := ⟨w.heap.size, 1, none⟩) hgl).trans g1
        replace g2 := (b.cell (p := ⟨w.heap.size, 2, none⟩) hgl).trans g2
        replace g3 := (b.cell (p := ⟨w.heap.size, 3, none⟩) hgl).trans g3
        replace f0 := (b.frozen (p := ⟨w.heap.size, 0, none⟩) hgl).trans f0
        replace f1 := (b.frozen (p := ⟨w.heap.size, 1, none⟩) hgl).trans f1
        replace f2 := (b.frozen (p := ⟨w.heap.size, 2, none⟩) hgl).trans f2
        replace f3 := (b.frozen (p := ⟨w.heap.size, 3, none⟩) hgl).trans f3
        replace cc := cc.trans (b.mono cc.size)
        have HBF := Lib.hid (below_putK cc (Nat.le_refl _) (.int .i64 0) (.int .i64 0) (.slice none 0 0) (.slice none 0 0))
        clear cc b hgl
        go_wp2_with fail
        refine bodyPost_ret (v := .tuple #[.agg #[.int .i64 0, .int .i64 0, .slice none 0 0, .slice none 0 0], .int .i64 1]) (by simp [results, Tryz.results16, go_sem, g0, g1, g2, g3]) rfl ⟨_, _, _, _, _, _, rfl, BR.nil _ _ _, IR.nil _ _ _, HBF.out⟩
    · exfalso
      obtain rfl : i = n := by omega
      obtain ⟨x, hx, hxf⟩ := HT.out
      obtain ⟨j, hj2, rfl⟩ := at_mem 0 hx
      have h1 := hj j (by rw [HL.out]; exact hj2)
      rw [hxf] at h1
      cases h1

set_option maxRecDepth 100000 in
set_option maxHeartbeats 8000000 in
theorem bkPack_cy {w : World} {k : Int} {A : Option Addr} {n c : Nat} {L : List Int} (hk : Kind9 k) (hA : IR w A n c L) (hn : n ≤ 20) (ht : ∀ x ∈ L, tkC k x = true) (hL : ∀ j : Nat, I64 (L[j]?.getD 0) ∧ L[j]?.getD 0 ≠ -9223372036854775808) (hO : ∀ x ∈ L, -gr L ≤ x ∧ x ≤ gr L ∧ (0 ≤ x ∨ sig9 k = true)) :
    Calls Tryz.prog 16 #[.int .i64 k, .slice A n c] w (GotBp w k (gr L) (L.map (pk k (gr L))) [] 0) := by
  have CM := fun V => bkman_c V hk
  have CT := fun (V : World) (x : Int) => bktkc_N V (k := k) (x := x)
  have hmt1 : ∀ V : World, (method 40 55 (.int .i64 k) "ratchet/block.takes").run Tryz.prog V = .ok (98, .int .i64 k) V := fun _ => by kernel_rfl
  have hmt2 : ∀ V : World, (method 40 55 (.int .i64 k) "ratchet/block.pack").run Tryz.prog V = .ok (96, .int .i64 k) V := fun _ => by kernel_rfl
  have CP := fun {V : World} (h : IR V A n c L) => bkcpack_N hk h (by omega) hL hO
  generalize L.map (pk k (gr L)) = R at *
  generalize gr L = S at *
  clear hL hO hk
  have HT := Lib.hid ht
  clear ht
  have HL := Lib.hid hA.1
  generalize tkC k = T at *
  have cc := Below.refl w.heap.size w
  go_enter Tryz.func16, Tryz.ntmps16
  go_wp2_with fail
  have f0 : (w.alloc (.cells #[.int .i64 0, .int .i64 0, .slice none 0 0, .slice none 0 0] 25)).frozen? ⟨w.heap.size, 0, none⟩ = false := by simp [go_sem]
  have f1 : (w.alloc (.cells #[.int .i64 0, .int .i64 0, .slice none 0 0, .slice none 0 0] 25)).frozen? ⟨w.heap.size, 1, none⟩ = false := by simp [go_sem]
  have f2 : (w.alloc (.cells #[.int .i64 0, .int .i64 0, .slice none 0 0, .slice none 0 0] 25)).frozen? ⟨w.heap.size, 2, none⟩ = false := by simp [go_sem]
  have f3 : (w.alloc (.cells #[.int .i64 0, .int .i64 0, .slice none 0 0, .slice none 0 0] 25)).frozen? ⟨w.heap.size, 3, none⟩ = false := by simp [go_sem]
  have bA : Below w.heap.size w (w.alloc (.cells #[.int .i64 0, .int .i64 0, .slice none 0 0, .slice none 0 0] 25)) := ((Below.refl _ w).alloc (by simp) _)
  replace hA := hA.on bA
  replace cc := cc.trans (bA.mono cc.size)
  clear bA
  have g0 : (w.alloc (.cells #[.int .i64 0, .int .i64 0, .slice none 0 0, .slice none 0 0] 25)).cell? ⟨w.heap.size, 0, none⟩ = some (.int .i64 0) := by simp [go_sem]
  have g1 : (w.alloc (.cells #[.int .i64 0, .int .i64 0, .slice none 0 0, .slice none 0 0] 25)).cell? ⟨w.heap.size, 1, none⟩ = some (.int .i64 0) := by simp [go_sem]
  have g2 : (w.alloc (.cells #[.int .i64 0, .int .i64 0, .slice none 0 0, .slice none 0 0] 25)).cell? ⟨w.heap.size, 2, none⟩ = some (.slice none 0 0) := by simp [go_sem]
  have g3 : (w.alloc (.cells #[.int .i64 0, .int .i64 0, .slice none 0 0, .slice none 0 0] 25)).cell? ⟨w.heap.size, 3, none⟩ = some (.slice none 0 0) := by simp [go_sem]
  have gl : w.heap.size < (w.alloc (.cells #[.int .i64 0, .int .i64 0, .slice none 0 0, .slice none 0 0] 25)).heap.size := by simp <;> omega
  generalize w.alloc (.cells #[.int .i64 0, .int .i64 0, .slice none 0 0, .slice none 0 0] 25) = v1 at *
  go_wp2_with fail
  refine (CM _).mono ?_
  rintro e w2 ⟨rfl, b⟩
  replace f0 := (b.frozen (p := ⟨w.heap.size, 0, none⟩) gl).trans f0
  replace f1 := (b.frozen (p := ⟨w.heap.size, 1, none⟩) gl).trans f1
  replace f2 := (b.frozen (p := ⟨w.heap.size, 2, none⟩) gl).trans f2
  replace f3 := (b.frozen (p := ⟨w.heap.size, 3, none⟩) gl).trans f3
  replace hA := hA.on b
  replace g0 := (b.cell (p := ⟨w.heap.size, 0, none⟩) gl).trans g0
  replace g1 := (b.cell (p := ⟨w.heap.size, 1, none⟩) gl).trans g1
  replace g2 := (b.cell (p := ⟨w.heap.size, 2, none⟩) gl).trans g2
  replace g3 := (b.cell (p := ⟨w.heap.size, 3, none⟩) gl).trans g3
  replace gl := Nat.lt_of_lt_of_le gl b.size
  replace cc := cc.trans (b.mono cc.size)
  clear b
  have HAV := Lib.hid hA
  have CCV := Lib.hid cc
  have HGL := Lib.hid gl
  have G0 := Lib.hid g0
  have G1 := Lib.hid g1
  have G2 := Lib.hid g2
  have G3 := Lib.hid g3
  have F0 := Lib.hid f0
  have F1 := Lib.hid f1
  have F2 := Lib.hid f2
  have F3 := Lib.hid f3
  clear hA cc gl g0 f0 g1 f1 g2 f2 g3 f3
  go_wp2_with fail
  go_loopw [21] (fun iv wr => ∃ i : Nat, i ≤ n ∧ iv = .int .i64 (i : Int) ∧ (∀ j, j < i → T (L[j]?.getD 0) = true) ∧ Below w2.heap.size w2 wr) (fun iv _ => n - (intOf iv).toNat)
  case atStart => exact ⟨0, by omega, rfl, fun j h => absurd h (by omega), Below.refl _ _⟩
  case round =>
    obtain ⟨i, hi, rfl, hj, hbl⟩ := hrel
    by_cases hlt : i < n
    · have hA := HAV.out.on hbl
      obtain ⟨b2, o2, rfl, hb2_, hc2⟩ := HAV.out.2.2 (by omega)
      have e1 := hA.cell hlt
      obtain ⟨x, hx⟩ : ∃ x, L[i]?.getD 0 = x := ⟨_, rfl⟩
      rw [hx] at e1
      have CTx := fun V => CT V x
      have k3 : IntKind.i64.wrap ((i : Int) + 1) = ((i + 1 : Nat) : Int) := by rw [IntWalk.i64_in _ (by omega)]; omega
      have tx : T x = true := by rw [← hx]; exact HT.out _ (mem_at (by rw [← HL.out]; exact hlt))
      have HJ : Hid (∀ j, j < i + 1 → T (L[j]?.getD 0) = true) := Lib.hid (fun j h => by
        rcases Nat.lt_or_ge j i with e | e
        · exact hj j e
        · have e2 : j = i := by omega
          rw [e2, hx]; exact tx)
      rw [tx] at CTx
      clear hj hx hA hc2 CT hb2_ tx
      go_wp2_with fail
      refine (CTx _).mono ?_
      rintro e wz ⟨rfl, b⟩
      replace hbl := hbl.trans (b.mono hbl.size)
      clear b
      go_wp2_with fail
      go_roundw
      case rel => exact ⟨i + 1, by omega, by go_num, HJ.out, hbl⟩
      case measure => simp [intOf] <;> omega
    · obtain rfl : i = n := by omega
      have hgl := HGL.out
      have cc := CCV.out.trans (hbl.mono CCV.out.size)
      have g0 := (hbl.cell (p := ⟨w.heap.size, 0, none⟩) hgl).trans G0.out
      have g1 := (hbl.cell (p := ⟨w.heap.size, 1, none⟩) hgl).trans G1.out
      have g2 := (hbl.cell (p := ⟨w.heap.size, 2, none⟩) hgl).trans G2.out
      have g3 := (hbl.cell (p := ⟨w.heap.size, 3, none⟩) hgl).trans G3.out
      have f0 := (hbl.frozen (p := ⟨w.heap.size, 0, none⟩) hgl).trans F0.out
      have f1 := (hbl.frozen (p := ⟨w.heap.size, 1, none⟩) hgl).trans F1.out
      have f2 := (hbl.frozen (p := ⟨w.heap.size, 2, none⟩) hgl).trans F2.out
      have f3 := (hbl.frozen (p := ⟨w.heap.size, 3, none⟩) hgl).trans F3.out
      replace hgl := Nat.lt_of_lt_of_le hgl hbl.size
      have hA := HAV.out.on hbl
      clear hj hbl
      have t4 : decide (4096 < i) = false := decide_eq_false (by omega)
      have t5 : decide ((4096 : Int) < (i : Int)) = false := decide_eq_false (by omega)
      go_wp2_with fail
      refine (CP hA).mono ?_
      rintro e wz ⟨Ax, nx, cx, Bx, mx, dx, rfl, hC, hW, b, hn1, hn2⟩
      replace g0 := (b.cell (p := ⟨w.heap.size, 0, none⟩) hgl).trans g0
      replace g1 := (b.cell (p := ⟨w.heap.size, 1, none⟩) hgl).trans g1
      replace g2 := (b.cell (p := ⟨w.heap.size, 2, none⟩) hgl).trans g2
      replace g3 := (b.cell (p := ⟨w.heap.size, 3, none⟩) hgl).trans g3
      replace f0 := (b.frozen (p := ⟨w.heap.size, 0, none⟩) hgl).trans f0
      replace f1 := (b.frozen (p := ⟨w.heap.size, 1, none⟩) hgl).trans f1
      replace f2 := (b.frozen (p := ⟨w.heap.size, 2, none⟩) hgl).trans f2
      replace f3 := (b.frozen (p := ⟨w.heap.size, 3, none⟩) hgl).trans f3
      replace cc := cc.trans (b.mono cc.size)
      have m1 : ∀ p, Ax = some p → p.block ≠ w.heap.size := fun p e => by have := hn1 p e; omega
      have m2 : ∀ p, Bx = some p → p.block ≠ w.heap.size := fun p e => by have := hn2 p e; omega
      have HRC := Lib.hid (br_putK hC m1 (.int .i64 k) (.int .i64 S) (.slice Ax nx cx) (.slice Bx mx dx))
      have HRW := Lib.hid (ir_putK hW m2 (.int .i64 k) (.int .i64 S) (.slice Ax nx cx) (.slice Bx mx dx))
      have HBF := Lib.hid (below_putK cc (Nat.le_refl _) (.int .i64 k) (.int .i64 S) (.slice Ax nx cx) (.slice Bx mx dx))
      clear hC hW b hn1 hn2 m1 m2 cc hgl hA
      go_wp2_with fail
      refine bodyPost_ret (v := .tuple #[.agg #[.int .i64 k, .int .i64 S, .slice Ax nx cx, .slice Bx mx dx], .int .i64 0]) (by simp [results, Tryz.results16, go_sem, g0, g1, g2, g3]) rfl ⟨_, _, _, _, _, _, rfl, HRC.out, HRW.out, HBF.out⟩

theorem tkC_ok {k x : Int} (hk : Kind9 k) : tkC k x = true ↔ (x ≠ -9223372036854775808 ∧ (k = 1 ∨ k = 3 → 0 ≤ x)) := by
  unfold tkC
  rw [decide_eq_true_eq, sig9_iff hk]
  constructor
  · intro h
    refine ⟨by omega, fun e => ?_⟩
    rcases h with h | h
    · exact h
    · exact absurd e h.2
  · intro h
    by_cases h0 : 0 ≤ x
    · exact .inl h0
    · exact .inr ⟨h.1, fun e => h0 (h.2 e)⟩
theorem tkW_ok {x : Int} : tkW x = true ↔ x ≠ -9223372036854775808 := decide_eq_true_iff
theorem row_i64 {L : List Int} (hi : ∀ x ∈ L, I64 x) (hm : ∀ x ∈ L, x ≠ -9223372036854775808) : ∀ j : Nat, I64 (L[j]?.getD 0) ∧ L[j]?.getD 0 ≠ -9223372036854775808 := by
  intro j
  rcases Nat.lt_or_ge j L.length with h | h
  · exact ⟨hi _ (mem_at h), hm _ (mem_at h)⟩
  · rw [List.getElem?_eq_none h]; exact ⟨i64_z, by show (0 : Int) ≠ _; omega⟩
theorem bkPack_yes {w : World} {k : Int} {A : Option Addr} {n c : Nat} {L : List Int} (hk : I64 k) (hA : IR w A n c L) (hi : ∀ x ∈ L, I64 x) (hn : n ≤ 20) (ho : OkP k L) : Calls Tryz.prog 16 #[.int .i64 k, .slice A n c] w (GotBp w k (pkS k L) (pkC k L) (pkW k L) 0) := by
  unfold pkS pkC pkW
  rcases kind_or.1 ho.1 with h | h
  · have h4 : k ≠ 4 := by unfold Kind9 at h; omega
    rw [if_neg h4, if_neg h4, if_neg h4]
    exact bkPack_cy h hA hn (fun x hx => (tkC_ok h).2 (ho.2 x hx)) (row_i64 hi fun x hx => (ho.2 x hx).1) (fun x hx => okP_at ho h hx)
  · rw [if_pos h, if_pos h, if_pos h]
    have := bkPack_wy h hA hn (fun x hx => tkW_ok.2 (ho.2 x hx).1)
    subst h
    exact this
theorem bkPack_no {w : World} {k : Int} {A : Option Addr} {n c : Nat} {L : List Int} (hk : I64 k) (hA : IR w A n c L) (hi : ∀ x ∈ L, I64 x) (hn : n ≤ 20) (ho : ¬ OkP k L) : Calls Tryz.prog 16 #[.int .i64 k, .slice A n c] w (GotBp w 0 0 [] [] 1) := by
  by_cases hr : 0 ≤ k ∧ k ≤ 4
  · rcases kind_or.1 hr with h | h
    · refine bkPack_cn h hA hn (Classical.byContradiction fun hno => ho ⟨hr, fun x hx => (tkC_ok h).1 ?_⟩)
      cases hx2 : tkC k x with
      | true => rfl
      | false => exact absurd ⟨x, hx, hx2⟩ hno
    · refine bkPack_wn h hA hn (Classical.byContradiction fun hno => ho ⟨hr, fun x hx => ⟨tkW_ok.1 ?_, fun e => by omega⟩⟩)
      cases hx2 : tkW x with
      | true => rfl
      | false => exact absurd ⟨x, hx, hx2⟩ hno
  · exact bkPack_kind w hr

end Go.Proofs.YtlmcpgahjfepjaaGreat
