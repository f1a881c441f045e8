/-
  Several texts in one: C15a, R3, C15b, MathN, RT1, RT2, RT3, RT4, RT.
-/
import Derived.Test.YtmaolhajeoigpaaGreatA7
import Derived.Test.YtmaolhajeoigpaaGreatA3
import Derived.Test.YtmaolhajeoigpaaGreatA2
import Derived.Deep.LoopGhost
import Derived.Test.YtmaolhajeoigpaaGreatA5

/-
  The contracts of the fifteenth reference: in, One, Right.
-/
namespace Go.Proofs.YtmaolhajeoigpaaGreat
set_option maxRecDepth 100000
set_option maxHeartbeats 8000000
open Go.RowKit
set_option linter.unusedVariables false
set_option linter.unusedSimpArgs false

theorem rin15_true {w : World} {n lo hi : Int} (h : lo ≤ n ∧ n ≤ hi) :
    Calls Tryz.prog 12 #[.int .i64 n, .int .i64 lo, .int .i64 hi] w (GotV w (.bool true)) := by
  have t0 : decide (lo ≤ n) = true := decide_eq_true h.1
  have t1 : decide (n ≤ hi) = true := decide_eq_true h.2
  clear h
  have cc := Below.refl w.heap.size w
  go_enter Tryz.func12, Tryz.ntmps12
  go_wp2_with fail
  go_ret
  exact ⟨rfl, cc⟩

theorem rin15_false {w : World} {n lo hi : Int} (h : ¬ (lo ≤ n ∧ n ≤ hi)) :
    Calls Tryz.prog 12 #[.int .i64 n, .int .i64 lo, .int .i64 hi] w (GotV w (.bool false)) := by
  have cc := Below.refl w.heap.size w
  by_cases q : lo ≤ n
  · have t0 : decide (lo ≤ n) = true := decide_eq_true q
    have t1 : decide (n ≤ hi) = false := decide_eq_false (fun e => h ⟨q, e⟩)
    clear h q
    go_enter Tryz.func12, Tryz.ntmps12
    go_wp2_with fail
    go_ret
    exact ⟨rfl, cc⟩
  · have t0 : decide (lo ≤ n) = false := decide_eq_false q
    clear h q
    go_enter Tryz.func12, Tryz.ntmps12
    go_wp2_with fail
    go_ret
    exact ⟨rfl, cc⟩

theorem rOne15_N {w : World} {f : Int} (f0 : 0 ≤ f) (f1 : f ≤ 40) :
    Calls Tryz.prog 17 #[.int .i64 f] w (GotV w (.int .i64 ((2 ^ f.toNat : Nat) : Int))) := by
  obtain ⟨k, rfl⟩ : ∃ k : Nat, f = (k : Int) := ⟨f.toNat, by omega⟩
  rw [Int.toNat_natCast]
  have hP : ∀ i, i ≤ 40 → 2 ^ i ≤ 1099511627776 := fun i hi => Nat.le_trans (Nat.pow_le_pow_right (by omega) hi) (by decide)
  have HP := Lib.hid hP
  have HK := Lib.hid f1
  obtain ⟨S, eS⟩ : ∃ S : Nat → Nat, (fun i => 2 ^ i) = S := ⟨_, rfl⟩
  have HS : Hid (∀ i, S (i + 1) = S i * 2) := Lib.hid (fun i => by rw [← eS]; show 2 ^ (i + 1) = 2 ^ i * 2; rw [Nat.pow_succ])
  have H0 : Hid (S 0 = 1) := Lib.hid (by rw [← eS])
  have HB : Hid (∀ i, i ≤ 40 → S i ≤ 1099511627776) := Lib.hid (fun i hi => by rw [← eS]; exact hP i hi)
  have HE : Hid (2 ^ k = S k) := Lib.hid (by rw [← eS])
  clear hP HP eS f0 f1
  rw [HE.out]
  have cc := Below.refl w.heap.size w
  go_enter Tryz.func17, Tryz.ntmps17
  go_wp2_with fail
  go_loopw [3, 4] (fun nv iv wr => ∃ i : Nat, i ≤ k ∧ iv = .int .i64 (i : Int) ∧ nv = .int .i64 ((S i : Nat) : Int) ∧ Below w.heap.size w wr) (fun _ iv _ => k - (intOf iv).toNat)
  case atStart => exact ⟨0, by omega, rfl, by rw [H0.out]; rfl, Below.refl _ _⟩
  case round =>
    obtain ⟨i, hi, rfl, rfl, hbl⟩ := hrel
    have hk := HK.out
    by_cases hlt : i < k
    · have hS := HS.out i
      have hB := HB.out i (by omega)
      have k3 : IntKind.i64.wrap ((i : Int) + 1) = ((i + 1 : Nat) : Int) := by rw [IntWalk.i64_in _ (by omega)]; omega
      have k4 : IntKind.i64.wrap ((S i : Int) * 2) = ((S (i + 1) : Nat) : Int) := by rw [IntWalk.i64_in _ (by omega), hS]; omega
      obtain ⟨y, hy⟩ : ∃ y, S i = y := ⟨_, rfl⟩
      obtain ⟨z, hz⟩ : ∃ z, S (i + 1) = z := ⟨_, rfl⟩
      rw [hz, hy] at k4
      rw [hy]
      have HZ := Lib.hid hz
      clear hS hB hy hz
      go_wp2_with fail
      go_roundw
      case rel => exact ⟨i + 1, by omega, by go_num, by rw [HZ.out], hbl⟩
      case measure => simp [intOf] <;> omega
    · obtain rfl : i = k := by omega
      go_wp2_with fail
      go_ret
      exact ⟨rfl, hbl⟩

theorem rRight15_n0 {w : World} {kd ba ra en wa ev la po f : Int} (q0 : ¬ (0 ≤ f ∧ f ≤ 40)) :
    Calls Tryz.prog 8 #[.agg #[.int .i64 kd, .int .i64 ba, .int .i64 ra, .int .i64 en, .int .i64 wa, .int .i64 ev, .int .i64 la, .int .i64 po], .int .i64 f] w (GotV w (.bool false)) := by
  have C0 := fun W : World => rin15_false (w := W) q0
  clear q0
  have cc := Below.refl w.heap.size w
  go_enter Tryz.func8, Tryz.ntmps8
  go_wp2_with fail
  generalize hv_ : w.alloc (.cells #[.int .i64 kd, .int .i64 ba, .int .i64 ra, .int .i64 en, .int .i64 wa, .int .i64 ev, .int .i64 la, .int .i64 po] 23) = v1
  have bA : Below w.heap.size w v1 := by rw [← hv_]; exact ((Below.refl _ w).alloc (by simp) _)
  replace cc := bK cc bA
  clear bA
  have sc0 : v1.cell? ⟨w.heap.size, 0, none⟩ = some (.int .i64 kd) := by simp [← hv_, go_sem]
  have sc1 : v1.cell? ⟨w.heap.size, 1, none⟩ = some (.int .i64 ba) := by simp [← hv_, go_sem]
  have sc2 : v1.cell? ⟨w.heap.size, 2, none⟩ = some (.int .i64 ra) := by simp [← hv_, go_sem]
  have sc3 : v1.cell? ⟨w.heap.size, 3, none⟩ = some (.int .i64 en) := by simp [← hv_, go_sem]
  have sc4 : v1.cell? ⟨w.heap.size, 4, none⟩ = some (.int .i64 wa) := by simp [← hv_, go_sem]
  have sc5 : v1.cell? ⟨w.heap.size, 5, none⟩ = some (.int .i64 ev) := by simp [← hv_, go_sem]
  have sc6 : v1.cell? ⟨w.heap.size, 6, none⟩ = some (.int .i64 la) := by simp [← hv_, go_sem]
  have sc7 : v1.cell? ⟨w.heap.size, 7, none⟩ = some (.int .i64 po) := by simp [← hv_, go_sem]
  have scl : w.heap.size < v1.heap.size := by simp [← hv_] <;> omega
  clear hv_
  refine (C0 _).mono ?_
  rintro e w2 ⟨rfl, b⟩
  rewrite [cR b scl] at sc0 sc1 sc2 sc3 sc4 sc5 sc6 sc7
  replace scl := lK b scl
  replace cc := bK cc b
  clear b
  go_wp2_with fail
  go_ret
  exact ⟨rfl, cc⟩

theorem rRight15_n1 {w : World} {kd ba ra en wa ev la po f : Int} (q0 : (0 ≤ f ∧ f ≤ 40)) (q1 : ¬ (0 ≤ kd ∧ kd ≤ 3)) :
    Calls Tryz.prog 8 #[.agg #[.int .i64 kd, .int .i64 ba, .int .i64 ra, .int .i64 en, .int .i64 wa, .int .i64 ev, .int .i64 la, .int .i64 po], .int .i64 f] w (GotV w (.bool false)) := by
  have C0 := fun W : World => rin15_true (w := W) q0
  have C1 := fun W : World => rin15_false (w := W) q1
  clear q0 q1
  have cc := Below.refl w.heap.size w
  go_enter Tryz.func8, Tryz.ntmps8
  go_wp2_with fail
  generalize hv_ : w.alloc (.cells #[.int .i64 kd, .int .i64 ba, .int .i64 ra, .int .i64 en, .int .i64 wa, .int .i64 ev, .int .i64 la, .int .i64 po] 23) = v1
  have bA : Below w.heap.size w v1 := by rw [← hv_]; exact ((Below.refl _ w).alloc (by simp) _)
  replace cc := bK cc bA
  clear bA
  have sc0 : v1.cell? ⟨w.heap.size, 0, none⟩ = some (.int .i64 kd) := by simp [← hv_, go_sem]
  have sc1 : v1.cell? ⟨w.heap.size, 1, none⟩ = some (.int .i64 ba) := by simp [← hv_, go_sem]
  have sc2 : v1.cell? ⟨w.heap.size, 2, none⟩ = some (.int .i64 ra) := by simp [← hv_, go_sem]
  have sc3 : v1.cell? ⟨w.heap.size, 3, none⟩ = some (.int .i64 en) := by simp [← hv_, go_sem]
  have sc4 : v1.cell? ⟨w.heap.size, 4, none⟩ = some (.int .i64 wa) := by simp [← hv_, go_sem]
  have sc5 : v1.cell? ⟨w.heap.size, 5, none⟩ = some (.int .i64 ev) := by simp [← hv_, go_sem]
  have sc6 : v1.cell? ⟨w.heap.size, 6, none⟩ = some (.int .i64 la) := by simp [← hv_, go_sem]
  have sc7 : v1.cell? ⟨w.heap.size, 7, none⟩ = some (.int .i64 po) := by simp [← hv_, go_sem]
  have scl : w.heap.size < v1.heap.size := by simp [← hv_] <;> omega
  clear hv_
  refine (C0 _).mono ?_
  rintro e w2 ⟨rfl, b⟩
  rewrite [cR b scl] at sc0 sc1 sc2 sc3 sc4 sc5 sc6 sc7
  replace scl := lK b scl
  replace cc := bK cc b
  clear b
  go_wp2_with fail
  refine (C1 _).mono ?_
  rintro e w3 ⟨rfl, b⟩
  rewrite [cR b scl] at sc0 sc1 sc2 sc3 sc4 sc5 sc6 sc7
  replace scl := lK b scl
  replace cc := bK cc b
  clear b
  go_wp2_with fail
  go_ret
  exact ⟨rfl, cc⟩

theorem rRight15_n2 {w : World} {kd ba ra en wa ev la po f : Int} (q0 : (0 ≤ f ∧ f ≤ 40)) (q1 : (0 ≤ kd ∧ kd ≤ 3)) (q2 : ba < 0) :
    Calls Tryz.prog 8 #[.agg #[.int .i64 kd, .int .i64 ba, .int .i64 ra, .int .i64 en, .int .i64 wa, .int .i64 ev, .int .i64 la, .int .i64 po], .int .i64 f] w (GotV w (.bool false)) := by
  have C0 := fun W : World => rin15_true (w := W) q0
  have C1 := fun W : World => rin15_true (w := W) q1
  have t2 : decide (ba < 0) = true := decide_eq_true q2
  clear q0 q1 q2
  have cc := Below.refl w.heap.size w
  go_enter Tryz.func8, Tryz.ntmps8
  go_wp2_with fail
  generalize hv_ : w.alloc (.cells #[.int .i64 kd, .int .i64 ba, .int .i64 ra, .int .i64 en, .int .i64 wa, .int .i64 ev, .int .i64 la, .int .i64 po] 23) = v1
  have bA : Below w.heap.size w v1 := by rw [← hv_]; exact ((Below.refl _ w).alloc (by simp) _)
  replace cc := bK cc bA
  clear bA
  have sc0 : v1.cell? ⟨w.heap.size, 0, none⟩ = some (.int .i64 kd) := by simp [← hv_, go_sem]
  have sc1 : v1.cell? ⟨w.heap.size, 1, none⟩ = some (.int .i64 ba) := by simp [← hv_, go_sem]
  have sc2 : v1.cell? ⟨w.heap.size, 2, none⟩ = some (.int .i64 ra) := by simp [← hv_, go_sem]
  have sc3 : v1.cell? ⟨w.heap.size, 3, none⟩ = some (.int .i64 en) := by simp [← hv_, go_sem]
  have sc4 : v1.cell? ⟨w.heap.size, 4, none⟩ = some (.int .i64 wa) := by simp [← hv_, go_sem]
  have sc5 : v1.cell? ⟨w.heap.size, 5, none⟩ = some (.int .i64 ev) := by simp [← hv_, go_sem]
  have sc6 : v1.cell? ⟨w.heap.size, 6, none⟩ = some (.int .i64 la) := by simp [← hv_, go_sem]
  have sc7 : v1.cell? ⟨w.heap.size, 7, none⟩ = some (.int .i64 po) := by simp [← hv_, go_sem]
  have scl : w.heap.size < v1.heap.size := by simp [← hv_] <;> omega
  clear hv_
  refine (C0 _).mono ?_
  rintro e w2 ⟨rfl, b⟩
  rewrite [cR b scl] at sc0 sc1 sc2 sc3 sc4 sc5 sc6 sc7
  replace scl := lK b scl
  replace cc := bK cc b
  clear b
  go_wp2_with fail
  refine (C1 _).mono ?_
  rintro e w3 ⟨rfl, b⟩
  rewrite [cR b scl] at sc0 sc1 sc2 sc3 sc4 sc5 sc6 sc7
  replace scl := lK b scl
  replace cc := bK cc b
  clear b
  go_wp2_with fail
  go_ret
  exact ⟨rfl, cc⟩

theorem rRight15_n3 {w : World} {kd ba ra en wa ev la po f : Int} (q0 : (0 ≤ f ∧ f ≤ 40)) (q1 : (0 ≤ kd ∧ kd ≤ 3)) (q2 : ¬ ba < 0) (q3 : ¬ (0 ≤ wa ∧ wa ≤ 1000000)) :
    Calls Tryz.prog 8 #[.agg #[.int .i64 kd, .int .i64 ba, .int .i64 ra, .int .i64 en, .int .i64 wa, .int .i64 ev, .int .i64 la, .int .i64 po], .int .i64 f] w (GotV w (.bool false)) := by
  have C0 := fun W : World => rin15_true (w := W) q0
  have C1 := fun W : World => rin15_true (w := W) q1
  have t2 : decide (ba < 0) = false := decide_eq_false q2
  have C3 := fun W : World => rin15_false (w := W) q3
  clear q0 q1 q2 q3
  have cc := Below.refl w.heap.size w
  go_enter Tryz.func8, Tryz.ntmps8
  go_wp2_with fail
  generalize hv_ : w.alloc (.cells #[.int .i64 kd, .int .i64 ba, .int .i64 ra, .int .i64 en, .int .i64 wa, .int .i64 ev, .int .i64 la, .int .i64 po] 23) = v1
  have bA : Below w.heap.size w v1 := by rw [← hv_]; exact ((Below.refl _ w).alloc (by simp) _)
  replace cc := bK cc bA
  clear bA
  have sc0 : v1.cell? ⟨w.heap.size, 0, none⟩ = some (.int .i64 kd) := by simp [← hv_, go_sem]
  have sc1 : v1.cell? ⟨w.heap.size, 1, none⟩ = some (.int .i64 ba) := by simp [← hv_, go_sem]
  have sc2 : v1.cell? ⟨w.heap.size, 2, none⟩ = some (.int .i64 ra) := by simp [← hv_, go_sem]
  have sc3 : v1.cell? ⟨w.heap.size, 3, none⟩ = some (.int .i64 en) := by simp [← hv_, go_sem]
  have sc4 : v1.cell? ⟨w.heap.size, 4, none⟩ = some (.int .i64 wa) := by simp [← hv_, go_sem]
  have sc5 : v1.cell? ⟨w.heap.size, 5, none⟩ = some (.int .i64 ev) := by simp [← hv_, go_sem]
  have sc6 : v1.cell? ⟨w.heap.size, 6, none⟩ = some (.int .i64 la) := by simp [← hv_, go_sem]
  have sc7 : v1.cell? ⟨w.heap.size, 7, none⟩ = some (.int .i64 po) := by simp [← hv_, go_sem]
  have scl : w.heap.size < v1.heap.size := by simp [← hv_] <;> omega
  clear hv_
  refine (C0 _).mono ?_
  rintro e w2 ⟨rfl, b⟩
  rewrite [cR b scl] at sc0 sc1 sc2 sc3 sc4 sc5 sc6 sc7
  replace scl := lK b scl
  replace cc := bK cc b
  clear b
  go_wp2_with fail
  refine (C1 _).mono ?_
  rintro e w3 ⟨rfl, b⟩
  rewrite [cR b scl] at sc0 sc1 sc2 sc3 sc4 sc5 sc6 sc7
  replace scl := lK b scl
  replace cc := bK cc b
  clear b
  go_wp2_with fail
  refine (C3 _).mono ?_
  rintro e w4 ⟨rfl, b⟩
  rewrite [cR b scl] at sc0 sc1 sc2 sc3 sc4 sc5 sc6 sc7
  replace scl := lK b scl
  replace cc := bK cc b
  clear b
  go_wp2_with fail
  go_ret
  exact ⟨rfl, cc⟩

theorem rRight15_y {w : World} {kd ba ra en wa ev la po f : Int} (q0 : (0 ≤ f ∧ f ≤ 40)) (q1 : (0 ≤ kd ∧ kd ≤ 3)) (q2 : ¬ ba < 0) (q3 : (0 ≤ wa ∧ wa ≤ 1000000)) (e2 : ¬ kd = 2) (e3 : ¬ kd = 3) :
    Calls Tryz.prog 8 #[.agg #[.int .i64 kd, .int .i64 ba, .int .i64 ra, .int .i64 en, .int .i64 wa, .int .i64 ev, .int .i64 la, .int .i64 po], .int .i64 f] w (GotV w (.bool true)) := by
  have C0 := fun W : World => rin15_true (w := W) q0
  have C1 := fun W : World => rin15_true (w := W) q1
  have t2 : decide (ba < 0) = false := decide_eq_false q2
  have C3 := fun W : World => rin15_true (w := W) q3
  have s2 : ((kd : Int) == 2) = false := beq_eq_false_iff_ne.2 e2
  have s3 : ((kd : Int) == 3) = false := beq_eq_false_iff_ne.2 e3
  clear q0 q1 q2 q3 e2 e3
  have cc := Below.refl w.heap.size w
  go_enter Tryz.func8, Tryz.ntmps8
  go_wp2_with fail
  generalize hv_ : w.alloc (.cells #[.int .i64 kd, .int .i64 ba, .int .i64 ra, .int .i64 en, .int .i64 wa, .int .i64 ev, .int .i64 la, .int .i64 po] 23) = v1
  have bA : Below w.heap.size w v1 := by rw [← hv_]; exact ((Below.refl _ w).alloc (by simp) _)
  replace cc := bK cc bA
  clear bA
  have sc0 : v1.cell? ⟨w.heap.size, 0, none⟩ = some (.int .i64 kd) := by simp [← hv_, go_sem]
  have sc1 : v1.cell? ⟨w.heap.size, 1, none⟩ = some (.int .i64 ba) := by simp [← hv_, go_sem]
  have sc2 : v1.cell? ⟨w.heap.size, 2, none⟩ = some (.int .i64 ra) := by simp [← hv_, go_sem]
  have sc3 : v1.cell? ⟨w.heap.size, 3, none⟩ = some (.int .i64 en) := by simp [← hv_, go_sem]
  have sc4 : v1.cell? ⟨w.heap.size, 4, none⟩ = some (.int .i64 wa) := by simp [← hv_, go_sem]
  have sc5 : v1.cell? ⟨w.heap.size, 5, none⟩ = some (.int .i64 ev) := by simp [← hv_, go_sem]
  have sc6 : v1.cell? ⟨w.heap.size, 6, none⟩ = some (.int .i64 la) := by simp [← hv_, go_sem]
  have sc7 : v1.cell? ⟨w.heap.size, 7, none⟩ = some (.int .i64 po) := by simp [← hv_, go_sem]
  have scl : w.heap.size < v1.heap.size := by simp [← hv_] <;> omega
  clear hv_
  refine (C0 _).mono ?_
  rintro e w2 ⟨rfl, b⟩
  rewrite [cR b scl] at sc0 sc1 sc2 sc3 sc4 sc5 sc6 sc7
  replace scl := lK b scl
  replace cc := bK cc b
  clear b
  go_wp2_with fail
  refine (C1 _).mono ?_
  rintro e w3 ⟨rfl, b⟩
  rewrite [cR b scl] at sc0 sc1 sc2 sc3 sc4 sc5 sc6 sc7
  replace scl := lK b scl
  replace cc := bK cc b
  clear b
  go_wp2_with fail
  refine (C3 _).mono ?_
  rintro e w4 ⟨rfl, b⟩
  rewrite [cR b scl] at sc0 sc1 sc2 sc3 sc4 sc5 sc6 sc7
  replace scl := lK b scl
  replace cc := bK cc b
  clear b
  go_wp2_with fail
  go_ret
  exact ⟨rfl, cc⟩

theorem rRight15_d4 {w : World} {kd ba ra en wa ev la po f : Int} (q0 : (0 ≤ f ∧ f ≤ 40)) (q1 : (0 ≤ kd ∧ kd ≤ 3)) (q2 : ¬ ba < 0) (q3 : (0 ≤ wa ∧ wa ≤ 1000000)) (q4 : ¬ (1 ≤ ev ∧ ev ≤ 1000000)) (e2 : kd = 2) :
    Calls Tryz.prog 8 #[.agg #[.int .i64 kd, .int .i64 ba, .int .i64 ra, .int .i64 en, .int .i64 wa, .int .i64 ev, .int .i64 la, .int .i64 po], .int .i64 f] w (GotV w (.bool false)) := by
  have C0 := fun W : World => rin15_true (w := W) q0
  have C1 := fun W : World => rin15_true (w := W) q1
  have t2 : decide (ba < 0) = false := decide_eq_false q2
  have C3 := fun W : World => rin15_true (w := W) q3
  have C4 := fun W : World => rin15_false (w := W) q4
  have s2 : ((kd : Int) == 2) = true := beq_iff_eq.2 e2
  clear q0 q1 q2 q3 q4 e2
  have cc := Below.refl w.heap.size w
  go_enter Tryz.func8, Tryz.ntmps8
  go_wp2_with fail
  generalize hv_ : w.alloc (.cells #[.int .i64 kd, .int .i64 ba, .int .i64 ra, .int .i64 en, .int .i64 wa, .int .i64 ev, .int .i64 la, .int .i64 po] 23) = v1
  have bA : Below w.heap.size w v1 := by rw [← hv_]; exact ((Below.refl _ w).alloc (by simp) _)
  replace cc := bK cc bA
  clear bA
  have sc0 : v1.cell? ⟨w.heap.size, 0, none⟩ = some (.int .i64 kd) := by simp [← hv_, go_sem]
  have sc1 : v1.cell? ⟨w.heap.size, 1, none⟩ = some (.int .i64 ba) := by simp [← hv_, go_sem]
  have sc2 : v1.cell? ⟨w.heap.size, 2, none⟩ = some (.int .i64 ra) := by simp [← hv_, go_sem]
  have sc3 : v1.cell? ⟨w.heap.size, 3, none⟩ = some (.int .i64 en) := by simp [← hv_, go_sem]
  have sc4 : v1.cell? ⟨w.heap.size, 4, none⟩ = some (.int .i64 wa) := by simp [← hv_, go_sem]
  have sc5 : v1.cell? ⟨w.heap.size, 5, none⟩ = some (.int .i64 ev) := by simp [← hv_, go_sem]
  have sc6 : v1.cell? ⟨w.heap.size, 6, none⟩ = some (.int .i64 la) := by simp [← hv_, go_sem]
  have sc7 : v1.cell? ⟨w.heap.size, 7, none⟩ = some (.int .i64 po) := by simp [← hv_, go_sem]
  have scl : w.heap.size < v1.heap.size := by simp [← hv_] <;> omega
  clear hv_
  refine (C0 _).mono ?_
  rintro e w2 ⟨rfl, b⟩
  rewrite [cR b scl] at sc0 sc1 sc2 sc3 sc4 sc5 sc6 sc7
  replace scl := lK b scl
  replace cc := bK cc b
  clear b
  go_wp2_with fail
  refine (C1 _).mono ?_
  rintro e w3 ⟨rfl, b⟩
  rewrite [cR b scl] at sc0 sc1 sc2 sc3 sc4 sc5 sc6 sc7
  replace scl := lK b scl
  replace cc := bK cc b
  clear b
  go_wp2_with fail
  refine (C3 _).mono ?_
  rintro e w4 ⟨rfl, b⟩
  rewrite [cR b scl] at sc0 sc1 sc2 sc3 sc4 sc5 sc6 sc7
  replace scl := lK b scl
  replace cc := bK cc b
  clear b
  go_wp2_with fail
  have bD : Below w4.heap.size w4 w4.drew := below_drewN (Below.refl _ w4) 1
  rewrite [cR bD scl] at sc0 sc1 sc2 sc3 sc4 sc5 sc6 sc7
  replace scl := lK bD scl
  replace cc := bK cc bD
  clear bD
  refine wp_region_held_drew (S := fun w' => w'.cell? ⟨w.heap.size, 0, none⟩ = some (.int .i64 kd) ∧ w'.cell? ⟨w.heap.size, 1, none⟩ = some (.int .i64 ba) ∧ w'.cell? ⟨w.heap.size, 2, none⟩ = some (.int .i64 ra) ∧ w'.cell? ⟨w.heap.size, 3, none⟩ = some (.int .i64 en) ∧ w'.cell? ⟨w.heap.size, 4, none⟩ = some (.int .i64 wa) ∧ w'.cell? ⟨w.heap.size, 5, none⟩ = some (.int .i64 ev) ∧ w'.cell? ⟨w.heap.size, 6, none⟩ = some (.int .i64 la) ∧ w'.cell? ⟨w.heap.size, 7, none⟩ = some (.int .i64 po)) (by kernel_rfl) ?_ (fun hHeld => ?_)
  · exact ⟨sc0, sc1, sc2, sc3, sc4, sc5, sc6, sc7⟩
  refine tY (i := 0) (v := ?_) rfl ?_ hHeld ?_
  rotate_left
  · (intro w hSw; (try dsimp only at hSw); go_simp; (try with_reducible rfl))
  try simp only [Act.put, pT]
  refine tY (i := 1) (v := ?_) rfl ?_ hHeld ?_
  rotate_left
  · (intro w hSw; (try dsimp only at hSw); go_simp; (try with_reducible rfl))
  try simp only [Act.put, pT]
  refine wpAnyH_ready (rs := [2]) (by kernel_rfl) (by simp) ?_
  refine AllReadyH.cons rfl (fun K hK => ?_) AllReadyH.nil
  (try simp only [pT])
  rw [if_pos (by rfl)]
  go_simp
  go_at_call 12
  refine (C4 _).mono ?_
  rintro e w5 ⟨rfl, b⟩
  rewrite [cR b scl] at sc0 sc1 sc2 sc3 sc4 sc5 sc6 sc7
  replace scl := lK b scl
  replace cc := bK cc b
  clear b
  refine hK.out _ _ ?_ (fun hHeld => ?_)
  · exact ⟨sc0, sc1, sc2, sc3, sc4, sc5, sc6, sc7⟩
  clear hK K
  try simp only [Act.put, pT]
  refine tY (i := 3) (v := ?_) rfl ?_ hHeld ?_
  rotate_left
  · (intro w hSw; (try dsimp only at hSw); go_simp; (try with_reducible rfl))
  try simp only [Act.put, pT]
  refine tU (i := 4) rfl hHeld ?_
  try simp only [Act.put, pT]
  refine tU (i := 5) rfl hHeld ?_
  try simp only [Act.put, pT]
  refine tU (i := 6) rfl hHeld ?_
  try simp only [Act.put, pT]
  refine tY (i := 7) (v := ?_) rfl ?_ hHeld ?_
  rotate_left
  · (intro w hSw; (try dsimp only at hSw); go_simp; (try with_reducible rfl))
  try simp only [Act.put, pT]
  refine tY (i := 8) (v := ?_) rfl ?_ hHeld ?_
  rotate_left
  · (intro w hSw; (try dsimp only at hSw); go_simp; (try with_reducible rfl))
  try simp only [Act.put, pT]
  refine tU (i := 9) rfl hHeld ?_
  try simp only [Act.put, pT]
  refine tU (i := 10) rfl hHeld ?_
  try simp only [Act.put, pT]
  refine tU (i := 11) rfl hHeld ?_
  try simp only [Act.put, pT]
  refine tU (i := 12) rfl hHeld ?_
  try simp only [Act.put, pT]
  refine tU (i := 13) rfl hHeld ?_
  try simp only [Act.put, pT]
  refine tY (i := 14) (v := ?_) rfl ?_ hHeld ?_
  rotate_left
  · (intro w hSw; (try dsimp only at hSw); go_simp; (try with_reducible rfl))
  try simp only [Act.put, pT]
  refine tY (i := 15) (v := ?_) rfl ?_ hHeld ?_
  rotate_left
  · (intro w hSw; (try dsimp only at hSw); go_simp; (try with_reducible rfl))
  try simp only [Act.put, pT]
  refine wpAnyH_done (by kernel_rfl) ?_ _
  clear hHeld
  go_wp2_with fail
  go_ret
  exact ⟨rfl, cc⟩

theorem rRight15_d5 {w : World} {kd ba ra en wa ev la po f : Int} (q0 : (0 ≤ f ∧ f ≤ 40)) (q1 : (0 ≤ kd ∧ kd ≤ 3)) (q2 : ¬ ba < 0) (q3 : (0 ≤ wa ∧ wa ≤ 1000000)) (q4 : (1 ≤ ev ∧ ev ≤ 1000000)) (q5 : ¬ 0 ≤ ra) (e2 : kd = 2) :
    Calls Tryz.prog 8 #[.agg #[.int .i64 kd, .int .i64 ba, .int .i64 ra, .int .i64 en, .int .i64 wa, .int .i64 ev, .int .i64 la, .int .i64 po], .int .i64 f] w (GotV w (.bool false)) := by
  have C0 := fun W : World => rin15_true (w := W) q0
  have C1 := fun W : World => rin15_true (w := W) q1
  have t2 : decide (ba < 0) = false := decide_eq_false q2
  have C3 := fun W : World => rin15_true (w := W) q3
  have C4 := fun W : World => rin15_true (w := W) q4
  have t5 : decide (0 ≤ ra) = false := decide_eq_false q5
  have s2 : ((kd : Int) == 2) = true := beq_iff_eq.2 e2
  clear q0 q1 q2 q3 q4 q5 e2
  have cc := Below.refl w.heap.size w
  go_enter Tryz.func8, Tryz.ntmps8
  go_wp2_with fail
  generalize hv_ : w.alloc (.cells #[.int .i64 kd, .int .i64 ba, .int .i64 ra, .int .i64 en, .int .i64 wa, .int .i64 ev, .int .i64 la, .int .i64 po] 23) = v1
  have bA : Below w.heap.size w v1 := by rw [← hv_]; exact ((Below.refl _ w).alloc (by simp) _)
  replace cc := bK cc bA
  clear bA
  have sc0 : v1.cell? ⟨w.heap.size, 0, none⟩ = some (.int .i64 kd) := by simp [← hv_, go_sem]
  have sc1 : v1.cell? ⟨w.heap.size, 1, none⟩ = some (.int .i64 ba) := by simp [← hv_, go_sem]
  have sc2 : v1.cell? ⟨w.heap.size, 2, none⟩ = some (.int .i64 ra) := by simp [← hv_, go_sem]
  have sc3 : v1.cell? ⟨w.heap.size, 3, none⟩ = some (.int .i64 en) := by simp [← hv_, go_sem]
  have sc4 : v1.cell? ⟨w.heap.size, 4, none⟩ = some (.int .i64 wa) := by simp [← hv_, go_sem]
  have sc5 : v1.cell? ⟨w.heap.size, 5, none⟩ = some (.int .i64 ev) := by simp [← hv_, go_sem]
  have sc6 : v1.cell? ⟨w.heap.size, 6, none⟩ = some (.int .i64 la) := by simp [← hv_, go_sem]
  have sc7 : v1.cell? ⟨w.heap.size, 7, none⟩ = some (.int .i64 po) := by simp [← hv_, go_sem]
  have scl : w.heap.size < v1.heap.size := by simp [← hv_] <;> omega
  clear hv_
  refine (C0 _).mono ?_
  rintro e w2 ⟨rfl, b⟩
  rewrite [cR b scl] at sc0 sc1 sc2 sc3 sc4 sc5 sc6 sc7
  replace scl := lK b scl
  replace cc := bK cc b
  clear b
  go_wp2_with fail
  refine (C1 _).mono ?_
  rintro e w3 ⟨rfl, b⟩
  rewrite [cR b scl] at sc0 sc1 sc2 sc3 sc4 sc5 sc6 sc7
  replace scl := lK b scl
  replace cc := bK cc b
  clear b
  go_wp2_with fail
  refine (C3 _).mono ?_
  rintro e w4 ⟨rfl, b⟩
  rewrite [cR b scl] at sc0 sc1 sc2 sc3 sc4 sc5 sc6 sc7
  replace scl := lK b scl
  replace cc := bK cc b
  clear b
  go_wp2_with fail
  have bD : Below w4.heap.size w4 w4.drew := below_drewN (Below.refl _ w4) 1
  rewrite [cR bD scl] at sc0 sc1 sc2 sc3 sc4 sc5 sc6 sc7
  replace scl := lK bD scl
  replace cc := bK cc bD
  clear bD
  refine wp_region_held_drew (S := fun w' => w'.cell? ⟨w.heap.size, 0, none⟩ = some (.int .i64 kd) ∧ w'.cell? ⟨w.heap.size, 1, none⟩ = some (.int .i64 ba) ∧ w'.cell? ⟨w.heap.size, 2, none⟩ = some (.int .i64 ra) ∧ w'.cell? ⟨w.heap.size, 3, none⟩ = some (.int .i64 en) ∧ w'.cell? ⟨w.heap.size, 4, none⟩ = some (.int .i64 wa) ∧ w'.cell? ⟨w.heap.size, 5, none⟩ = some (.int .i64 ev) ∧ w'.cell? ⟨w.heap.size, 6, none⟩ = some (.int .i64 la) ∧ w'.cell? ⟨w.heap.size, 7, none⟩ = some (.int .i64 po)) (by kernel_rfl) ?_ (fun hHeld => ?_)
  · exact ⟨sc0, sc1, sc2, sc3, sc4, sc5, sc6, sc7⟩
  refine tY (i := 0) (v := ?_) rfl ?_ hHeld ?_
  rotate_left
  · (intro w hSw; (try dsimp only at hSw); go_simp; (try with_reducible rfl))
  try simp only [Act.put, pT]
  refine tY (i := 1) (v := ?_) rfl ?_ hHeld ?_
  rotate_left
  · (intro w hSw; (try dsimp only at hSw); go_simp; (try with_reducible rfl))
  try simp only [Act.put, pT]
  refine wpAnyH_ready (rs := [2]) (by kernel_rfl) (by simp) ?_
  refine AllReadyH.cons rfl (fun K hK => ?_) AllReadyH.nil
  (try simp only [pT])
  rw [if_pos (by rfl)]
  go_simp
  go_at_call 12
  refine (C4 _).mono ?_
  rintro e w5 ⟨rfl, b⟩
  rewrite [cR b scl] at sc0 sc1 sc2 sc3 sc4 sc5 sc6 sc7
  replace scl := lK b scl
  replace cc := bK cc b
  clear b
  refine hK.out _ _ ?_ (fun hHeld => ?_)
  · exact ⟨sc0, sc1, sc2, sc3, sc4, sc5, sc6, sc7⟩
  clear hK K
  try simp only [Act.put, pT]
  refine tY (i := 3) (v := ?_) rfl ?_ hHeld ?_
  rotate_left
  · (intro w hSw; (try dsimp only at hSw); go_simp; (try with_reducible rfl))
  try simp only [Act.put, pT]
  refine tY (i := 4) (v := ?_) rfl ?_ hHeld ?_
  rotate_left
  · (intro w hSw; (try dsimp only at hSw); go_simp; (try with_reducible rfl))
  try simp only [Act.put, pT]
  refine tY (i := 5) (v := ?_) rfl ?_ hHeld ?_
  rotate_left
  · (intro w hSw; (try dsimp only at hSw); go_simp; (try with_reducible rfl))
  try simp only [Act.put, pT]
  refine tY (i := 6) (v := ?_) rfl ?_ hHeld ?_
  rotate_left
  · (intro w hSw; (try dsimp only at hSw); go_simp; (try with_reducible rfl))
  try simp only [Act.put, pT]
  refine tY (i := 7) (v := ?_) rfl ?_ hHeld ?_
  rotate_left
  · (intro w hSw; (try dsimp only at hSw); go_simp; (try with_reducible rfl))
  try simp only [Act.put, pT]
  refine tY (i := 8) (v := ?_) rfl ?_ hHeld ?_
  rotate_left
  · (intro w hSw; (try dsimp only at hSw); go_simp; (try with_reducible rfl))
  try simp only [Act.put, pT]
  refine tU (i := 9) rfl hHeld ?_
  try simp only [Act.put, pT]
  refine tU (i := 10) rfl hHeld ?_
  try simp only [Act.put, pT]
  refine tU (i := 11) rfl hHeld ?_
  try simp only [Act.put, pT]
  refine tU (i := 12) rfl hHeld ?_
  try simp only [Act.put, pT]
  refine tU (i := 13) rfl hHeld ?_
  try simp only [Act.put, pT]
  refine tY (i := 14) (v := ?_) rfl ?_ hHeld ?_
  rotate_left
  · (intro w hSw; (try dsimp only at hSw); go_simp; (try with_reducible rfl))
  try simp only [Act.put, pT]
  refine tY (i := 15) (v := ?_) rfl ?_ hHeld ?_
  rotate_left
  · (intro w hSw; (try dsimp only at hSw); go_simp; (try with_reducible rfl))
  try simp only [Act.put, pT]
  refine wpAnyH_done (by kernel_rfl) ?_ _
  clear hHeld
  go_wp2_with fail
  go_ret
  exact ⟨rfl, cc⟩

theorem rRight15_d6 {w : World} {kd ba ra en wa ev la po f : Int} {D : Int} (hD : ((2 ^ f.toNat : Nat) : Int) = D) (q0 : (0 ≤ f ∧ f ≤ 40)) (q1 : (0 ≤ kd ∧ kd ≤ 3)) (q2 : ¬ ba < 0) (q3 : (0 ≤ wa ∧ wa ≤ 1000000)) (q4 : (1 ≤ ev ∧ ev ≤ 1000000)) (q5 : 0 ≤ ra) (q6 : ¬ ra ≤ D) (e2 : kd = 2) :
    Calls Tryz.prog 8 #[.agg #[.int .i64 kd, .int .i64 ba, .int .i64 ra, .int .i64 en, .int .i64 wa, .int .i64 ev, .int .i64 la, .int .i64 po], .int .i64 f] w (GotV w (.bool false)) := by
  have C0 := fun W : World => rin15_true (w := W) q0
  have C1 := fun W : World => rin15_true (w := W) q1
  have t2 : decide (ba < 0) = false := decide_eq_false q2
  have C3 := fun W : World => rin15_true (w := W) q3
  have C4 := fun W : World => rin15_true (w := W) q4
  have t5 : decide (0 ≤ ra) = true := decide_eq_true q5
  have t6 : decide (ra ≤ D) = false := decide_eq_false q6
  have s2 : ((kd : Int) == 2) = true := beq_iff_eq.2 e2
  have CO := fun W : World => rOne15_N (w := W) q0.1 q0.2
  rw [hD] at CO
  clear q0 q1 q2 q3 q4 q5 q6 e2
  have cc := Below.refl w.heap.size w
  go_enter Tryz.func8, Tryz.ntmps8
  go_wp2_with fail
  generalize hv_ : w.alloc (.cells #[.int .i64 kd, .int .i64 ba, .int .i64 ra, .int .i64 en, .int .i64 wa, .int .i64 ev, .int .i64 la, .int .i64 po] 23) = v1
  have bA : Below w.heap.size w v1 := by rw [← hv_]; exact ((Below.refl _ w).alloc (by simp) _)
  replace cc := bK cc bA
  clear bA
  have sc0 : v1.cell? ⟨w.heap.size, 0, none⟩ = some (.int .i64 kd) := by simp [← hv_, go_sem]
  have sc1 : v1.cell? ⟨w.heap.size, 1, none⟩ = some (.int .i64 ba) := by simp [← hv_, go_sem]
  have sc2 : v1.cell? ⟨w.heap.size, 2, none⟩ = some (.int .i64 ra) := by simp [← hv_, go_sem]
  have sc3 : v1.cell? ⟨w.heap.size, 3, none⟩ = some (.int .i64 en) := by simp [← hv_, go_sem]
  have sc4 : v1.cell? ⟨w.heap.size, 4, none⟩ = some (.int .i64 wa) := by simp [← hv_, go_sem]
  have sc5 : v1.cell? ⟨w.heap.size, 5, none⟩ = some (.int .i64 ev) := by simp [← hv_, go_sem]
  have sc6 : v1.cell? ⟨w.heap.size, 6, none⟩ = some (.int .i64 la) := by simp [← hv_, go_sem]
  have sc7 : v1.cell? ⟨w.heap.size, 7, none⟩ = some (.int .i64 po) := by simp [← hv_, go_sem]
  have scl : w.heap.size < v1.heap.size := by simp [← hv_] <;> omega
  clear hv_
  refine (C0 _).mono ?_
  rintro e w2 ⟨rfl, b⟩
  rewrite [cR b scl] at sc0 sc1 sc2 sc3 sc4 sc5 sc6 sc7
  replace scl := lK b scl
  replace cc := bK cc b
  clear b
  go_wp2_with fail
  refine (C1 _).mono ?_
  rintro e w3 ⟨rfl, b⟩
  rewrite [cR b scl] at sc0 sc1 sc2 sc3 sc4 sc5 sc6 sc7
  replace scl := lK b scl
  replace cc := bK cc b
  clear b
  go_wp2_with fail
  refine (C3 _).mono ?_
  rintro e w4 ⟨rfl, b⟩
  rewrite [cR b scl] at sc0 sc1 sc2 sc3 sc4 sc5 sc6 sc7
  replace scl := lK b scl
  replace cc := bK cc b
  clear b
  go_wp2_with fail
  have bD : Below w4.heap.size w4 w4.drew := below_drewN (Below.refl _ w4) 1
  rewrite [cR bD scl] at sc0 sc1 sc2 sc3 sc4 sc5 sc6 sc7
  replace scl := lK bD scl
  replace cc := bK cc bD
  clear bD
  refine wp_region_held_drew (S := fun w' => w'.cell? ⟨w.heap.size, 0, none⟩ = some (.int .i64 kd) ∧ w'.cell? ⟨w.heap.size, 1, none⟩ = some (.int .i64 ba) ∧ w'.cell? ⟨w.heap.size, 2, none⟩ = some (.int .i64 ra) ∧ w'.cell? ⟨w.heap.size, 3, none⟩ = some (.int .i64 en) ∧ w'.cell? ⟨w.heap.size, 4, none⟩ = some (.int .i64 wa) ∧ w'.cell? ⟨w.heap.size, 5, none⟩ = some (.int .i64 ev) ∧ w'.cell? ⟨w.heap.size, 6, none⟩ = some (.int .i64 la) ∧ w'.cell? ⟨w.heap.size, 7, none⟩ = some (.int .i64 po)) (by kernel_rfl) ?_ (fun hHeld => ?_)
  · exact ⟨sc0, sc1, sc2, sc3, sc4, sc5, sc6, sc7⟩
  refine tY (i := 0) (v := ?_) rfl ?_ hHeld ?_
  rotate_left
  · (intro w hSw; (try dsimp only at hSw); go_simp; (try with_reducible rfl))
  try simp only [Act.put, pT]
  refine tY (i := 1) (v := ?_) rfl ?_ hHeld ?_
  rotate_left
  · (intro w hSw; (try dsimp only at hSw); go_simp; (try with_reducible rfl))
  try simp only [Act.put, pT]
  refine wpAnyH_ready (rs := [2]) (by kernel_rfl) (by simp) ?_
  refine AllReadyH.cons rfl (fun K hK => ?_) AllReadyH.nil
  (try simp only [pT])
  rw [if_pos (by rfl)]
  go_simp
  go_at_call 12
  refine (C4 _).mono ?_
  rintro e w5 ⟨rfl, b⟩
  rewrite [cR b scl] at sc0 sc1 sc2 sc3 sc4 sc5 sc6 sc7
  replace scl := lK b scl
  replace cc := bK cc b
  clear b
  refine hK.out _ _ ?_ (fun hHeld => ?_)
  · exact ⟨sc0, sc1, sc2, sc3, sc4, sc5, sc6, sc7⟩
  clear hK K
  try simp only [Act.put, pT]
  refine tY (i := 3) (v := ?_) rfl ?_ hHeld ?_
  rotate_left
  · (intro w hSw; (try dsimp only at hSw); go_simp; (try with_reducible rfl))
  try simp only [Act.put, pT]
  refine tY (i := 4) (v := ?_) rfl ?_ hHeld ?_
  rotate_left
  · (intro w hSw; (try dsimp only at hSw); go_simp; (try with_reducible rfl))
  try simp only [Act.put, pT]
  refine tY (i := 5) (v := ?_) rfl ?_ hHeld ?_
  rotate_left
  · (intro w hSw; (try dsimp only at hSw); go_simp; (try with_reducible rfl))
  try simp only [Act.put, pT]
  refine tY (i := 6) (v := ?_) rfl ?_ hHeld ?_
  rotate_left
  · (intro w hSw; (try dsimp only at hSw); go_simp; (try with_reducible rfl))
  try simp only [Act.put, pT]
  refine tY (i := 7) (v := ?_) rfl ?_ hHeld ?_
  rotate_left
  · (intro w hSw; (try dsimp only at hSw); go_simp; (try with_reducible rfl))
  try simp only [Act.put, pT]
  refine tY (i := 8) (v := ?_) rfl ?_ hHeld ?_
  rotate_left
  · (intro w hSw; (try dsimp only at hSw); go_simp; (try with_reducible rfl))
  try simp only [Act.put, pT]
  refine tY (i := 9) (v := ?_) rfl ?_ hHeld ?_
  rotate_left
  · (intro w hSw; (try dsimp only at hSw); go_simp; (try with_reducible rfl))
  try simp only [Act.put, pT]
  refine tY (i := 10) (v := ?_) rfl ?_ hHeld ?_
  rotate_left
  · (intro w hSw; (try dsimp only at hSw); go_simp; (try with_reducible rfl))
  try simp only [Act.put, pT]
  refine tY (i := 11) (v := ?_) rfl ?_ hHeld ?_
  rotate_left
  · (intro w hSw; (try dsimp only at hSw); go_simp; (try with_reducible rfl))
  try simp only [Act.put, pT]
  refine wpAnyH_ready (rs := [12]) (by kernel_rfl) (by simp) ?_
  refine AllReadyH.cons rfl (fun K hK => ?_) AllReadyH.nil
  (try simp only [pT])
  rw [if_pos (by rfl)]
  go_simp
  go_at_call 17
  refine (CO _).mono ?_
  rintro e w6 ⟨rfl, b⟩
  rewrite [cR b scl] at sc0 sc1 sc2 sc3 sc4 sc5 sc6 sc7
  replace scl := lK b scl
  replace cc := bK cc b
  clear b
  refine hK.out _ _ ?_ (fun hHeld => ?_)
  · exact ⟨sc0, sc1, sc2, sc3, sc4, sc5, sc6, sc7⟩
  clear hK K
  try simp only [Act.put, pT]
  refine tY (i := 13) (v := ?_) rfl ?_ hHeld ?_
  rotate_left
  · (intro w hSw; (try dsimp only at hSw); go_simp; (try with_reducible rfl))
  try simp only [Act.put, pT]
  refine tY (i := 14) (v := ?_) rfl ?_ hHeld ?_
  rotate_left
  · (intro w hSw; (try dsimp only at hSw); go_simp; (try with_reducible rfl))
  try simp only [Act.put, pT]
  refine tY (i := 15) (v := ?_) rfl ?_ hHeld ?_
  rotate_left
  · (intro w hSw; (try dsimp only at hSw); go_simp; (try with_reducible rfl))
  try simp only [Act.put, pT]
  refine wpAnyH_done (by kernel_rfl) ?_ _
  clear hHeld
  go_wp2_with fail
  go_ret
  exact ⟨rfl, cc⟩

theorem rRight15_dy {w : World} {kd ba ra en wa ev la po f : Int} {D : Int} (hD : ((2 ^ f.toNat : Nat) : Int) = D) (q0 : (0 ≤ f ∧ f ≤ 40)) (q1 : (0 ≤ kd ∧ kd ≤ 3)) (q2 : ¬ ba < 0) (q3 : (0 ≤ wa ∧ wa ≤ 1000000)) (q4 : (1 ≤ ev ∧ ev ≤ 1000000)) (q5 : 0 ≤ ra) (q6 : ra ≤ D) (e2 : kd = 2) :
    Calls Tryz.prog 8 #[.agg #[.int .i64 kd, .int .i64 ba, .int .i64 ra, .int .i64 en, .int .i64 wa, .int .i64 ev, .int .i64 la, .int .i64 po], .int .i64 f] w (GotV w (.bool true)) := by
  have C0 := fun W : World => rin15_true (w := W) q0
  have C1 := fun W : World => rin15_true (w := W) q1
  have t2 : decide (ba < 0) = false := decide_eq_false q2
  have C3 := fun W : World => rin15_true (w := W) q3
  have C4 := fun W : World => rin15_true (w := W) q4
  have t5 : decide (0 ≤ ra) = true := decide_eq_true q5
  have t6 : decide (ra ≤ D) = true := decide_eq_true q6
  have s2 : ((kd : Int) == 2) = true := beq_iff_eq.2 e2
  have CO := fun W : World => rOne15_N (w := W) q0.1 q0.2
  rw [hD] at CO
  clear q0 q1 q2 q3 q4 q5 q6 e2
  have cc := Below.refl w.heap.size w
  go_enter Tryz.func8, Tryz.ntmps8
  go_wp2_with fail
  generalize hv_ : w.alloc (.cells #[.int .i64 kd, .int .i64 ba, .int .i64 ra, .int .i64 en, .int .i64 wa, .int .i64 ev, .int .i64 la, .int .i64 po] 23) = v1
  have bA : Below w.heap.size w v1 := by rw [← hv_]; exact ((Below.refl _ w).alloc (by simp) _)
  replace cc := bK cc bA
  clear bA
  have sc0 : v1.cell? ⟨w.heap.size, 0, none⟩ = some (.int .i64 kd) := by simp [← hv_, go_sem]
  have sc1 : v1.cell? ⟨w.heap.size, 1, none⟩ = some (.int .i64 ba) := by simp [← hv_, go_sem]
  have sc2 : v1.cell? ⟨w.heap.size, 2, none⟩ = some (.int .i64 ra) := by simp [← hv_, go_sem]
  have sc3 : v1.cell? ⟨w.heap.size, 3, none⟩ = some (.int .i64 en) := by simp [← hv_, go_sem]
  have sc4 : v1.cell? ⟨w.heap.size, 4, none⟩ = some (.int .i64 wa) := by simp [← hv_, go_sem]
  have sc5 : v1.cell? ⟨w.heap.size, 5, none⟩ = some (.int .i64 ev) := by simp [← hv_, go_sem]
  have sc6 : v1.cell? ⟨w.heap.size, 6, none⟩ = some (.int .i64 la) := by simp [← hv_, go_sem]
  have sc7 : v1.cell? ⟨w.heap.size, 7, none⟩ = some (.int .i64 po) := by simp [← hv_, go_sem]
  have scl : w.heap.size < v1.heap.size := by simp [← hv_] <;> omega
  clear hv_
  refine (C0 _).mono ?_
  rintro e w2 ⟨rfl, b⟩
  rewrite [cR b scl] at sc0 sc1 sc2 sc3 sc4 sc5 sc6 sc7
  replace scl := lK b scl
  replace cc := bK cc b
  clear b
  go_wp2_with fail
  refine (C1 _).mono ?_
  rintro e w3 ⟨rfl, b⟩
  rewrite [cR b scl] at sc0 sc1 sc2 sc3 sc4 sc5 sc6 sc7
  replace scl := lK b scl
  replace cc := bK cc b
  clear b
  go_wp2_with fail
  refine (C3 _).mono ?_
  rintro e w4 ⟨rfl, b⟩
  rewrite [cR b scl] at sc0 sc1 sc2 sc3 sc4 sc5 sc6 sc7
  replace scl := lK b scl
  replace cc := bK cc b
  clear b
  go_wp2_with fail
  have bD : Below w4.heap.size w4 w4.drew := below_drewN (Below.refl _ w4) 1
  rewrite [cR bD scl] at sc0 sc1 sc2 sc3 sc4 sc5 sc6 sc7
  replace scl := lK bD scl
  replace cc := bK cc bD
  clear bD
  refine wp_region_held_drew (S := fun w' => w'.cell? ⟨w.heap.size, 0, none⟩ = some (.int .i64 kd) ∧ w'.cell? ⟨w.heap.size, 1, none⟩ = some (.int .i64 ba) ∧ w'.cell? ⟨w.heap.size, 2, none⟩ = some (.int .i64 ra) ∧ w'.cell? ⟨w.heap.size, 3, none⟩ = some (.int .i64 en) ∧ w'.cell? ⟨w.heap.size, 4, none⟩ = some (.int .i64 wa) ∧ w'.cell? ⟨w.heap.size, 5, none⟩ = some (.int .i64 ev) ∧ w'.cell? ⟨w.heap.size, 6, none⟩ = some (.int .i64 la) ∧ w'.cell? ⟨w.heap.size, 7, none⟩ = some (.int .i64 po)) (by kernel_rfl) ?_ (fun hHeld => ?_)
  · exact ⟨sc0, sc1, sc2, sc3, sc4, sc5, sc6, sc7⟩
  refine tY (i := 0) (v := ?_) rfl ?_ hHeld ?_
  rotate_left
  · (intro w hSw; (try dsimp only at hSw); go_simp; (try with_reducible rfl))
  try simp only [Act.put, pT]
  refine tY (i := 1) (v := ?_) rfl ?_ hHeld ?_
  rotate_left
  · (intro w hSw; (try dsimp only at hSw); go_simp; (try with_reducible rfl))
  try simp only [Act.put, pT]
  refine wpAnyH_ready (rs := [2]) (by kernel_rfl) (by simp) ?_
  refine AllReadyH.cons rfl (fun K hK => ?_) AllReadyH.nil
  (try simp only [pT])
  rw [if_pos (by rfl)]
  go_simp
  go_at_call 12
  refine (C4 _).mono ?_
  rintro e w5 ⟨rfl, b⟩
  rewrite [cR b scl] at sc0 sc1 sc2 sc3 sc4 sc5 sc6 sc7
  replace scl := lK b scl
  replace cc := bK cc b
  clear b
  refine hK.out _ _ ?_ (fun hHeld => ?_)
  · exact ⟨sc0, sc1, sc2, sc3, sc4, sc5, sc6, sc7⟩
  clear hK K
  try simp only [Act.put, pT]
  refine tY (i := 3) (v := ?_) rfl ?_ hHeld ?_
  rotate_left
  · (intro w hSw; (try dsimp only at hSw); go_simp; (try with_reducible rfl))
  try simp only [Act.put, pT]
  refine tY (i := 4) (v := ?_) rfl ?_ hHeld ?_
  rotate_left
  · (intro w hSw; (try dsimp only at hSw); go_simp; (try with_reducible rfl))
  try simp only [Act.put, pT]
  refine tY (i := 5) (v := ?_) rfl ?_ hHeld ?_
  rotate_left
  · (intro w hSw; (try dsimp only at hSw); go_simp; (try with_reducible rfl))
  try simp only [Act.put, pT]
  refine tY (i := 6) (v := ?_) rfl ?_ hHeld ?_
  rotate_left
  · (intro w hSw; (try dsimp only at hSw); go_simp; (try with_reducible rfl))
  try simp only [Act.put, pT]
  refine tY (i := 7) (v := ?_) rfl ?_ hHeld ?_
  rotate_left
  · (intro w hSw; (try dsimp only at hSw); go_simp; (try with_reducible rfl))
  try simp only [Act.put, pT]
  refine tY (i := 8) (v := ?_) rfl ?_ hHeld ?_
  rotate_left
  · (intro w hSw; (try dsimp only at hSw); go_simp; (try with_reducible rfl))
  try simp only [Act.put, pT]
  refine tY (i := 9) (v := ?_) rfl ?_ hHeld ?_
  rotate_left
  · (intro w hSw; (try dsimp only at hSw); go_simp; (try with_reducible rfl))
  try simp only [Act.put, pT]
  refine tY (i := 10) (v := ?_) rfl ?_ hHeld ?_
  rotate_left
  · (intro w hSw; (try dsimp only at hSw); go_simp; (try with_reducible rfl))
  try simp only [Act.put, pT]
  refine tY (i := 11) (v := ?_) rfl ?_ hHeld ?_
  rotate_left
  · (intro w hSw; (try dsimp only at hSw); go_simp; (try with_reducible rfl))
  try simp only [Act.put, pT]
  refine wpAnyH_ready (rs := [12]) (by kernel_rfl) (by simp) ?_
  refine AllReadyH.cons rfl (fun K hK => ?_) AllReadyH.nil
  (try simp only [pT])
  rw [if_pos (by rfl)]
  go_simp
  go_at_call 17
  refine (CO _).mono ?_
  rintro e w6 ⟨rfl, b⟩
  rewrite [cR b scl] at sc0 sc1 sc2 sc3 sc4 sc5 sc6 sc7
  replace scl := lK b scl
  replace cc := bK cc b
  clear b
  refine hK.out _ _ ?_ (fun hHeld => ?_)
  · exact ⟨sc0, sc1, sc2, sc3, sc4, sc5, sc6, sc7⟩
  clear hK K
  try simp only [Act.put, pT]
  refine tY (i := 13) (v := ?_) rfl ?_ hHeld ?_
  rotate_left
  · (intro w hSw; (try dsimp only at hSw); go_simp; (try with_reducible rfl))
  try simp only [Act.put, pT]
  refine tY (i := 14) (v := ?_) rfl ?_ hHeld ?_
  rotate_left
  · (intro w hSw; (try dsimp only at hSw); go_simp; (try with_reducible rfl))
  try simp only [Act.put, pT]
  refine tY (i := 15) (v := ?_) rfl ?_ hHeld ?_
  rotate_left
  · (intro w hSw; (try dsimp only at hSw); go_simp; (try with_reducible rfl))
  try simp only [Act.put, pT]
  refine wpAnyH_done (by kernel_rfl) ?_ _
  clear hHeld
  go_wp2_with fail
  go_ret
  exact ⟨rfl, cc⟩

theorem rRight15_p7 {w : World} {kd ba ra en wa ev la po f : Int} (q0 : (0 ≤ f ∧ f ≤ 40)) (q1 : (0 ≤ kd ∧ kd ≤ 3)) (q2 : ¬ ba < 0) (q3 : (0 ≤ wa ∧ wa ≤ 1000000)) (q7 : ¬ (1 ≤ la ∧ la ≤ 1000000)) (e2 : ¬ kd = 2) (e3 : kd = 3) :
    Calls Tryz.prog 8 #[.agg #[.int .i64 kd, .int .i64 ba, .int .i64 ra, .int .i64 en, .int .i64 wa, .int .i64 ev, .int .i64 la, .int .i64 po], .int .i64 f] w (GotV w (.bool false)) := by
  have C0 := fun W : World => rin15_true (w := W) q0
  have C1 := fun W : World => rin15_true (w := W) q1
  have t2 : decide (ba < 0) = false := decide_eq_false q2
  have C3 := fun W : World => rin15_true (w := W) q3
  have C7 := fun W : World => rin15_false (w := W) q7
  have s2 : ((kd : Int) == 2) = false := beq_eq_false_iff_ne.2 e2
  have s3 : ((kd : Int) == 3) = true := beq_iff_eq.2 e3
  clear q0 q1 q2 q3 q7 e2 e3
  have cc := Below.refl w.heap.size w
  go_enter Tryz.func8, Tryz.ntmps8
  go_wp2_with fail
  generalize hv_ : w.alloc (.cells #[.int .i64 kd, .int .i64 ba, .int .i64 ra, .int .i64 en, .int .i64 wa, .int .i64 ev, .int .i64 la, .int .i64 po] 23) = v1
  have bA : Below w.heap.size w v1 := by rw [← hv_]; exact ((Below.refl _ w).alloc (by simp) _)
  replace cc := bK cc bA
  clear bA
  have sc0 : v1.cell? ⟨w.heap.size, 0, none⟩ = some (.int .i64 kd) := by simp [← hv_, go_sem]
  have sc1 : v1.cell? ⟨w.heap.size, 1, none⟩ = some (.int .i64 ba) := by simp [← hv_, go_sem]
  have sc2 : v1.cell? ⟨w.heap.size, 2, none⟩ = some (.int .i64 ra) := by simp [← hv_, go_sem]
  have sc3 : v1.cell? ⟨w.heap.size, 3, none⟩ = some (.int .i64 en) := by simp [← hv_, go_sem]
  have sc4 : v1.cell? ⟨w.heap.size, 4, none⟩ = some (.int .i64 wa) := by simp [← hv_, go_sem]
  have sc5 : v1.cell? ⟨w.heap.size, 5, none⟩ = some (.int .i64 ev) := by simp [← hv_, go_sem]
  have sc6 : v1.cell? ⟨w.heap.size, 6, none⟩ = some (.int .i64 la) := by simp [← hv_, go_sem]
  have sc7 : v1.cell? ⟨w.heap.size, 7, none⟩ = some (.int .i64 po) := by simp [← hv_, go_sem]
  have scl : w.heap.size < v1.heap.size := by simp [← hv_] <;> omega
  clear hv_
  refine (C0 _).mono ?_
  rintro e w2 ⟨rfl, b⟩
  rewrite [cR b scl] at sc0 sc1 sc2 sc3 sc4 sc5 sc6 sc7
  replace scl := lK b scl
  replace cc := bK cc b
  clear b
  go_wp2_with fail
  refine (C1 _).mono ?_
  rintro e w3 ⟨rfl, b⟩
  rewrite [cR b scl] at sc0 sc1 sc2 sc3 sc4 sc5 sc6 sc7
  replace scl := lK b scl
  replace cc := bK cc b
  clear b
  go_wp2_with fail
  refine (C3 _).mono ?_
  rintro e w4 ⟨rfl, b⟩
  rewrite [cR b scl] at sc0 sc1 sc2 sc3 sc4 sc5 sc6 sc7
  replace scl := lK b scl
  replace cc := bK cc b
  clear b
  go_wp2_with fail
  refine (C7 _).mono ?_
  rintro e w5 ⟨rfl, b⟩
  rewrite [cR b scl] at sc0 sc1 sc2 sc3 sc4 sc5 sc6 sc7
  replace scl := lK b scl
  replace cc := bK cc b
  clear b
  go_wp2_with fail
  go_ret
  exact ⟨rfl, cc⟩

theorem rRight15_p8 {w : World} {kd ba ra en wa ev la po f : Int} (q0 : (0 ≤ f ∧ f ≤ 40)) (q1 : (0 ≤ kd ∧ kd ≤ 3)) (q2 : ¬ ba < 0) (q3 : (0 ≤ wa ∧ wa ≤ 1000000)) (q7 : (1 ≤ la ∧ la ≤ 1000000)) (q8 : ¬ (1 ≤ po ∧ po ≤ 8)) (e2 : ¬ kd = 2) (e3 : kd = 3) :
    Calls Tryz.prog 8 #[.agg #[.int .i64 kd, .int .i64 ba, .int .i64 ra, .int .i64 en, .int .i64 wa, .int .i64 ev, .int .i64 la, .int .i64 po], .int .i64 f] w (GotV w (.bool false)) := by
  have C0 := fun W : World => rin15_true (w := W) q0
  have C1 := fun W : World => rin15_true (w := W) q1
  have t2 : decide (ba < 0) = false := decide_eq_false q2
  have C3 := fun W : World => rin15_true (w := W) q3
  have C7 := fun W : World => rin15_true (w := W) q7
  have C8 := fun W : World => rin15_false (w := W) q8
  have s2 : ((kd : Int) == 2) = false := beq_eq_false_iff_ne.2 e2
  have s3 : ((kd : Int) == 3) = true := beq_iff_eq.2 e3
  clear q0 q1 q2 q3 q7 q8 e2 e3
  have cc := Below.refl w.heap.size w
  go_enter Tryz.func8, Tryz.ntmps8
  go_wp2_with fail
  generalize hv_ : w.alloc (.cells #[.int .i64 kd, .int .i64 ba, .int .i64 ra, .int .i64 en, .int .i64 wa, .int .i64 ev, .int .i64 la, .int .i64 po] 23) = v1
  have bA : Below w.heap.size w v1 := by rw [← hv_]; exact ((Below.refl _ w).alloc (by simp) _)
  replace cc := bK cc bA
  clear bA
  have sc0 : v1.cell? ⟨w.heap.size, 0, none⟩ = some (.int .i64 kd) := by simp [← hv_, go_sem]
  have sc1 : v1.cell? ⟨w.heap.size, 1, none⟩ = some (.int .i64 ba) := by simp [← hv_, go_sem]
  have sc2 : v1.cell? ⟨w.heap.size, 2, none⟩ = some (.int .i64 ra) := by simp [← hv_, go_sem]
  have sc3 : v1.cell? ⟨w.heap.size, 3, none⟩ = some (.int .i64 en) := by simp [← hv_, go_sem]
  have sc4 : v1.cell? ⟨w.heap.size, 4, none⟩ = some (.int .i64 wa) := by simp [← hv_, go_sem]
  have sc5 : v1.cell? ⟨w.heap.size, 5, none⟩ = some (.int .i64 ev) := by simp [← hv_, go_sem]
  have sc6 : v1.cell? ⟨w.heap.size, 6, none⟩ = some (.int .i64 la) := by simp [← hv_, go_sem]
  have sc7 : v1.cell? ⟨w.heap.size, 7, none⟩ = some (.int .i64 po) := by simp [← hv_, go_sem]
  have scl : w.heap.size < v1.heap.size := by simp [← hv_] <;> omega
  clear hv_
  refine (C0 _).mono ?_
  rintro e w2 ⟨rfl, b⟩
  rewrite [cR b scl] at sc0 sc1 sc2 sc3 sc4 sc5 sc6 sc7
  replace scl := lK b scl
  replace cc := bK cc b
  clear b
  go_wp2_with fail
  refine (C1 _).mono ?_
  rintro e w3 ⟨rfl, b⟩
  rewrite [cR b scl] at sc0 sc1 sc2 sc3 sc4 sc5 sc6 sc7
  replace scl := lK b scl
  replace cc := bK cc b
  clear b
  go_wp2_with fail
  refine (C3 _).mono ?_
  rintro e w4 ⟨rfl, b⟩
  rewrite [cR b scl] at sc0 sc1 sc2 sc3 sc4 sc5 sc6 sc7
  replace scl := lK b scl
  replace cc := bK cc b
  clear b
  go_wp2_with fail
  refine (C7 _).mono ?_
  rintro e w5 ⟨rfl, b⟩
  rewrite [cR b scl] at sc0 sc1 sc2 sc3 sc4 sc5 sc6 sc7
  replace scl := lK b scl
  replace cc := bK cc b
  clear b
  go_wp2_with fail
  refine (C8 _).mono ?_
  rintro e w6 ⟨rfl, b⟩
  rewrite [cR b scl] at sc0 sc1 sc2 sc3 sc4 sc5 sc6 sc7
  replace scl := lK b scl
  replace cc := bK cc b
  clear b
  go_wp2_with fail
  go_ret
  exact ⟨rfl, cc⟩

theorem rRight15_p9 {w : World} {kd ba ra en wa ev la po f : Int} (q0 : (0 ≤ f ∧ f ≤ 40)) (q1 : (0 ≤ kd ∧ kd ≤ 3)) (q2 : ¬ ba < 0) (q3 : (0 ≤ wa ∧ wa ≤ 1000000)) (q7 : (1 ≤ la ∧ la ≤ 1000000)) (q8 : (1 ≤ po ∧ po ≤ 8)) (q9 : ¬ 0 ≤ en) (e2 : ¬ kd = 2) (e3 : kd = 3) :
    Calls Tryz.prog 8 #[.agg #[.int .i64 kd, .int .i64 ba, .int .i64 ra, .int .i64 en, .int .i64 wa, .int .i64 ev, .int .i64 la, .int .i64 po], .int .i64 f] w (GotV w (.bool false)) := by
  have C0 := fun W : World => rin15_true (w := W) q0
  have C1 := fun W : World => rin15_true (w := W) q1
  have t2 : decide (ba < 0) = false := decide_eq_false q2
  have C3 := fun W : World => rin15_true (w := W) q3
  have C7 := fun W : World => rin15_true (w := W) q7
  have C8 := fun W : World => rin15_true (w := W) q8
  have t9 : decide (0 ≤ en) = false := decide_eq_false q9
  have s2 : ((kd : Int) == 2) = false := beq_eq_false_iff_ne.2 e2
  have s3 : ((kd : Int) == 3) = true := beq_iff_eq.2 e3
  clear q0 q1 q2 q3 q7 q8 q9 e2 e3
  have cc := Below.refl w.heap.size w
  go_enter Tryz.func8, Tryz.ntmps8
  go_wp2_with fail
  generalize hv_ : w.alloc (.cells #[.int .i64 kd, .int .i64 ba, .int .i64 ra, .int .i64 en, .int .i64 wa, .int .i64 ev, .int .i64 la, .int .i64 po] 23) = v1
  have bA : Below w.heap.size w v1 := by rw [← hv_]; exact ((Below.refl _ w).alloc (by simp) _)
  replace cc := bK cc bA
  clear bA
  have sc0 : v1.cell? ⟨w.heap.size, 0, none⟩ = some (.int .i64 kd) := by simp [← hv_, go_sem]
  have sc1 : v1.cell? ⟨w.heap.size, 1, none⟩ = some (.int .i64 ba) := by simp [← hv_, go_sem]
  have sc2 : v1.cell? ⟨w.heap.size, 2, none⟩ = some (.int .i64 ra) := by simp [← hv_, go_sem]
  have sc3 : v1.cell? ⟨w.heap.size, 3, none⟩ = some (.int .i64 en) := by simp [← hv_, go_sem]
  have sc4 : v1.cell? ⟨w.heap.size, 4, none⟩ = some (.int .i64 wa) := by simp [← hv_, go_sem]
  have sc5 : v1.cell? ⟨w.heap.size, 5, none⟩ = some (.int .i64 ev) := by simp [← hv_, go_sem]
  have sc6 : v1.cell? ⟨w.heap.size, 6, none⟩ = some (.int .i64 la) := by simp [← hv_, go_sem]
  have sc7 : v1.cell? ⟨w.heap.size, 7, none⟩ = some (.int .i64 po) := by simp [← hv_, go_sem]
  have scl : w.heap.size < v1.heap.size := by simp [← hv_] <;> omega
  clear hv_
  refine (C0 _).mono ?_
  rintro e w2 ⟨rfl, b⟩
  rewrite [cR b scl] at sc0 sc1 sc2 sc3 sc4 sc5 sc6 sc7
  replace scl := lK b scl
  replace cc := bK cc b
  clear b
  go_wp2_with fail
  refine (C1 _).mono ?_
  rintro e w3 ⟨rfl, b⟩
  rewrite [cR b scl] at sc0 sc1 sc2 sc3 sc4 sc5 sc6 sc7
  replace scl := lK b scl
  replace cc := bK cc b
  clear b
  go_wp2_with fail
  refine (C3 _).mono ?_
  rintro e w4 ⟨rfl, b⟩
  rewrite [cR b scl] at sc0 sc1 sc2 sc3 sc4 sc5 sc6 sc7
  replace scl := lK b scl
  replace cc := bK cc b
  clear b
  go_wp2_with fail
  refine (C7 _).mono ?_
  rintro e w5 ⟨rfl, b⟩
  rewrite [cR b scl] at sc0 sc1 sc2 sc3 sc4 sc5 sc6 sc7
  replace scl := lK b scl
  replace cc := bK cc b
  clear b
  go_wp2_with fail
  refine (C8 _).mono ?_
  rintro e w6 ⟨rfl, b⟩
  rewrite [cR b scl] at sc0 sc1 sc2 sc3 sc4 sc5 sc6 sc7
  replace scl := lK b scl
  replace cc := bK cc b
  clear b
  go_wp2_with fail
  go_ret
  exact ⟨rfl, cc⟩

theorem rRight15_p10 {w : World} {kd ba ra en wa ev la po f : Int} (q0 : (0 ≤ f ∧ f ≤ 40)) (q1 : (0 ≤ kd ∧ kd ≤ 3)) (q2 : ¬ ba < 0) (q3 : (0 ≤ wa ∧ wa ≤ 1000000)) (q7 : (1 ≤ la ∧ la ≤ 1000000)) (q8 : (1 ≤ po ∧ po ≤ 8)) (q9 : 0 ≤ en) (q10 : ¬ en ≤ ba) (e2 : ¬ kd = 2) (e3 : kd = 3) :
    Calls Tryz.prog 8 #[.agg #[.int .i64 kd, .int .i64 ba, .int .i64 ra, .int .i64 en, .int .i64 wa, .int .i64 ev, .int .i64 la, .int .i64 po], .int .i64 f] w (GotV w (.bool false)) := by
  have C0 := fun W : World => rin15_true (w := W) q0
  have C1 := fun W : World => rin15_true (w := W) q1
  have t2 : decide (ba < 0) = false := decide_eq_false q2
  have C3 := fun W : World => rin15_true (w := W) q3
  have C7 := fun W : World => rin15_true (w := W) q7
  have C8 := fun W : World => rin15_true (w := W) q8
  have t9 : decide (0 ≤ en) = true := decide_eq_true q9
  have t10 : decide (en ≤ ba) = false := decide_eq_false q10
  have s2 : ((kd : Int) == 2) = false := beq_eq_false_iff_ne.2 e2
  have s3 : ((kd : Int) == 3) = true := beq_iff_eq.2 e3
  clear q0 q1 q2 q3 q7 q8 q9 q10 e2 e3
  have cc := Below.refl w.heap.size w
  go_enter Tryz.func8, Tryz.ntmps8
  go_wp2_with fail
  generalize hv_ : w.alloc (.cells #[.int .i64 kd, .int .i64 ba, .int .i64 ra, .int .i64 en, .int .i64 wa, .int .i64 ev, .int .i64 la, .int .i64 po] 23) = v1
  have bA : Below w.heap.size w v1 := by rw [← hv_]; exact ((Below.refl _ w).alloc (by simp) _)
  replace cc := bK cc bA
  clear bA
  have sc0 : v1.cell? ⟨w.heap.size, 0, none⟩ = some (.int .i64 kd) := by simp [← hv_, go_sem]
  have sc1 : v1.cell? ⟨w.heap.size, 1, none⟩ = some (.int .i64 ba) := by simp [← hv_, go_sem]
  have sc2 : v1.cell? ⟨w.heap.size, 2, none⟩ = some (.int .i64 ra) := by simp [← hv_, go_sem]
  have sc3 : v1.cell? ⟨w.heap.size, 3, none⟩ = some (.int .i64 en) := by simp [← hv_, go_sem]
  have sc4 : v1.cell? ⟨w.heap.size, 4, none⟩ = some (.int .i64 wa) := by simp [← hv_, go_sem]
  have sc5 : v1.cell? ⟨w.heap.size, 5, none⟩ = some (.int .i64 ev) := by simp [← hv_, go_sem]
  have sc6 : v1.cell? ⟨w.heap.size, 6, none⟩ = some (.int .i64 la) := by simp [← hv_, go_sem]
  have sc7 : v1.cell? ⟨w.heap.size, 7, none⟩ = some (.int .i64 po) := by simp [← hv_, go_sem]
  have scl : w.heap.size < v1.heap.size := by simp [← hv_] <;> omega
  clear hv_
  refine (C0 _).mono ?_
  rintro e w2 ⟨rfl, b⟩
  rewrite [cR b scl] at sc0 sc1 sc2 sc3 sc4 sc5 sc6 sc7
  replace scl := lK b scl
  replace cc := bK cc b
  clear b
  go_wp2_with fail
  refine (C1 _).mono ?_
  rintro e w3 ⟨rfl, b⟩
  rewrite [cR b scl] at sc0 sc1 sc2 sc3 sc4 sc5 sc6 sc7
  replace scl := lK b scl
  replace cc := bK cc b
  clear b
  go_wp2_with fail
  refine (C3 _).mono ?_
  rintro e w4 ⟨rfl, b⟩
  rewrite [cR b scl] at sc0 sc1 sc2 sc3 sc4 sc5 sc6 sc7
  replace scl := lK b scl
  replace cc := bK cc b
  clear b
  go_wp2_with fail
  refine (C7 _).mono ?_
  rintro e w5 ⟨rfl, b⟩
  rewrite [cR b scl] at sc0 sc1 sc2 sc3 sc4 sc5 sc6 sc7
  replace scl := lK b scl
  replace cc := bK cc b
  clear b
  go_wp2_with fail
  refine (C8 _).mono ?_
  rintro e w6 ⟨rfl, b⟩
  rewrite [cR b scl] at sc0 sc1 sc2 sc3 sc4 sc5 sc6 sc7
  replace scl := lK b scl
  replace cc := bK cc b
  clear b
  go_wp2_with fail
  go_ret
  exact ⟨rfl, cc⟩

theorem rRight15_py {w : World} {kd ba ra en wa ev la po f : Int} (q0 : (0 ≤ f ∧ f ≤ 40)) (q1 : (0 ≤ kd ∧ kd ≤ 3)) (q2 : ¬ ba < 0) (q3 : (0 ≤ wa ∧ wa ≤ 1000000)) (q7 : (1 ≤ la ∧ la ≤ 1000000)) (q8 : (1 ≤ po ∧ po ≤ 8)) (q9 : 0 ≤ en) (q10 : en ≤ ba) (e2 : ¬ kd = 2) (e3 : kd = 3) :
    Calls Tryz.prog 8 #[.agg #[.int .i64 kd, .int .i64 ba, .int .i64 ra, .int .i64 en, .int .i64 wa, .int .i64 ev, .int .i64 la, .int .i64 po], .int .i64 f] w (GotV w (.bool true)) := by
  have C0 := fun W : World => rin15_true (w := W) q0
  have C1 := fun W : World => rin15_true (w := W) q1
  have t2 : decide (ba < 0) = false := decide_eq_false q2
  have C3 := fun W : World => rin15_true (w := W) q3
  have C7 := fun W : World => rin15_true (w := W) q7
  have C8 := fun W : World => rin15_true (w := W) q8
  have t9 : decide (0 ≤ en) = true := decide_eq_true q9
  have t10 : decide (en ≤ ba) = true := decide_eq_true q10
  have s2 : ((kd : Int) == 2) = false := beq_eq_false_iff_ne.2 e2
  have s3 : ((kd : Int) == 3) = true := beq_iff_eq.2 e3
  clear q0 q1 q2 q3 q7 q8 q9 q10 e2 e3
  have cc := Below.refl w.heap.size w
  go_enter Tryz.func8, Tryz.ntmps8
  go_wp2_with fail
  generalize hv_ : w.alloc (.cells #[.int .i64 kd, .int .i64 ba, .int .i64 ra, .int .i64 en, .int .i64 wa, .int .i64 ev, .int .i64 la, .int .i64 po] 23) = v1
  have bA : Below w.heap.size w v1 := by rw [← hv_]; exact ((Below.refl _ w).alloc (by simp) _)
  replace cc := bK cc bA
  clear bA
  have sc0 : v1.cell? ⟨w.heap.size, 0, none⟩ = some (.int .i64 kd) := by simp [← hv_, go_sem]
  have sc1 : v1.cell? ⟨w.heap.size, 1, none⟩ = some (.int .i64 ba) := by simp [← hv_, go_sem]
  have sc2 : v1.cell? ⟨w.heap.size, 2, none⟩ = some (.int .i64 ra) := by simp [← hv_, go_sem]
  have sc3 : v1.cell? ⟨w.heap.size, 3, none⟩ = some (.int .i64 en) := by simp [← hv_, go_sem]
  have sc4 : v1.cell? ⟨w.heap.size, 4, none⟩ = some (.int .i64 wa) := by simp [← hv_, go_sem]
  have sc5 : v1.cell? ⟨w.heap.size, 5, none⟩ = some (.int .i64 ev) := by simp [← hv_, go_sem]
  have sc6 : v1.cell? ⟨w.heap.size, 6, none⟩ = some (.int .i64 la) := by simp [← hv_, go_sem]
  have sc7 : v1.cell? ⟨w.heap.size, 7, none⟩ = some (.int .i64 po) := by simp [← hv_, go_sem]
  have scl : w.heap.size < v1.heap.size := by simp [← hv_] <;> omega
  clear hv_
  refine (C0 _).mono ?_
  rintro e w2 ⟨rfl, b⟩
  rewrite [cR b scl] at sc0 sc1 sc2 sc3 sc4 sc5 sc6 sc7
  replace scl := lK b scl
  replace cc := bK cc b
  clear b
  go_wp2_with fail
  refine (C1 _).mono ?_
  rintro e w3 ⟨rfl, b⟩
  rewrite [cR b scl] at sc0 sc1 sc2 sc3 sc4 sc5 sc6 sc7
  replace scl := lK b scl
  replace cc := bK cc b
  clear b
  go_wp2_with fail
  refine (C3 _).mono ?_
  rintro e w4 ⟨rfl, b⟩
  rewrite [cR b scl] at sc0 sc1 sc2 sc3 sc4 sc5 sc6 sc7
  replace scl := lK b scl
  replace cc := bK cc b
  clear b
  go_wp2_with fail
  refine (C7 _).mono ?_
  rintro e w5 ⟨rfl, b⟩
  rewrite [cR b scl] at sc0 sc1 sc2 sc3 sc4 sc5 sc6 sc7
  replace scl := lK b scl
  replace cc := bK cc b
  clear b
  go_wp2_with fail
  refine (C8 _).mono ?_
  rintro e w6 ⟨rfl, b⟩
  rewrite [cR b scl] at sc0 sc1 sc2 sc3 sc4 sc5 sc6 sc7
  replace scl := lK b scl
  replace cc := bK cc b
  clear b
  go_wp2_with fail
  go_ret
  exact ⟨rfl, cc⟩

theorem rRight15_N {w : World} {kd ba ra en wa ev la po f : Int} : Calls Tryz.prog 8 #[.agg #[.int .i64 kd, .int .i64 ba, .int .i64 ra, .int .i64 en, .int .i64 wa, .int .i64 ev, .int .i64 la, .int .i64 po], .int .i64 f] w (GotV w (.bool (decide (OkR f kd ba ra en wa ev la po)))) := by
  by_cases q0 : 0 ≤ f ∧ f ≤ 40
  rotate_left
  · rw [decide_eq_false (fun h => q0 h.1)]; exact rRight15_n0 q0
  by_cases q1 : 0 ≤ kd ∧ kd ≤ 3
  rotate_left
  · rw [decide_eq_false (fun h => q1 h.2.1)]; exact rRight15_n1 q0 q1
  by_cases q2 : ba < 0
  · rw [decide_eq_false (fun h => by have := h.2.2.1; omega)]; exact rRight15_n2 q0 q1 q2
  by_cases q3 : 0 ≤ wa ∧ wa ≤ 1000000
  rotate_left
  · rw [decide_eq_false (fun h => q3 h.2.2.2.1)]; exact rRight15_n3 q0 q1 q2 q3
  by_cases e2 : kd = 2
  · by_cases q4 : 1 ≤ ev ∧ ev ≤ 1000000
    rotate_left
    · rw [decide_eq_false (fun h => q4 (h.2.2.2.2.1 e2).1)]; exact rRight15_d4 q0 q1 q2 q3 q4 e2
    by_cases q5 : 0 ≤ ra
    rotate_left
    · rw [decide_eq_false (fun h => q5 (h.2.2.2.2.1 e2).2.1)]; exact rRight15_d5 q0 q1 q2 q3 q4 q5 e2
    by_cases q6 : ra ≤ ((2 ^ f.toNat : Nat) : Int)
    rotate_left
    · rw [decide_eq_false (fun h => q6 (h.2.2.2.2.1 e2).2.2)]; exact rRight15_d6 rfl q0 q1 q2 q3 q4 q5 q6 e2
    rw [decide_eq_true (show OkR f kd ba ra en wa ev la po from ⟨q0, q1, by omega, q3, fun _ => ⟨q4, q5, q6⟩, fun e => by omega⟩)]
    exact rRight15_dy rfl q0 q1 q2 q3 q4 q5 q6 e2
  by_cases e3 : kd = 3
  · by_cases q7 : 1 ≤ la ∧ la ≤ 1000000
    rotate_left
    · rw [decide_eq_false (fun h => q7 (h.2.2.2.2.2 e3).1)]; exact rRight15_p7 q0 q1 q2 q3 q7 e2 e3
    by_cases q8 : 1 ≤ po ∧ po ≤ 8
    rotate_left
    · rw [decide_eq_false (fun h => q8 (h.2.2.2.2.2 e3).2.1)]; exact rRight15_p8 q0 q1 q2 q3 q7 q8 e2 e3
    by_cases q9 : 0 ≤ en
    rotate_left
    · rw [decide_eq_false (fun h => q9 (h.2.2.2.2.2 e3).2.2.1)]; exact rRight15_p9 q0 q1 q2 q3 q7 q8 q9 e2 e3
    by_cases q10 : en ≤ ba
    rotate_left
    · rw [decide_eq_false (fun h => q10 (h.2.2.2.2.2 e3).2.2.2)]; exact rRight15_p10 q0 q1 q2 q3 q7 q8 q9 q10 e2 e3
    rw [decide_eq_true (show OkR f kd ba ra en wa ev la po from ⟨q0, q1, by omega, q3, fun e => by omega, fun _ => ⟨q7, q8, q9, q10⟩⟩)]
    exact rRight15_py q0 q1 q2 q3 q7 q8 q9 q10 e2 e3
  rw [decide_eq_true (show OkR f kd ba ra en wa ev la po from ⟨q0, q1, by omega, q3, fun e => absurd e e2, fun e => absurd e e3⟩)]
  exact rRight15_y q0 q1 q2 q3 e2 e3

end Go.Proofs.YtmaolhajeoigpaaGreat

/-
  The contracts of the third reference: power, Pow, Root, Up.
-/
namespace Go.Proofs.YtmaolhajeoigpaaGreat
set_option maxRecDepth 100000
set_option maxHeartbeats 4000000
open Go.RowKit

theorem rpow3_N {w : World} {A : Option Addr} {n c x k : Nat} (ha : Num w A n c x) (hx : (limbs x).length ≤ 1000) (hk : k ≤ 16) : Calls Tryz.prog 66 #[.slice A n c, .int .i64 (k : Int)] w (GotN w (x ^ k)) := by
  go_enter Tryz.func66, Tryz.ntmps66
  go_wp2_with fail
  refine (rof_N w 1 B64_gt).mono ?_
  rintro e w1 ⟨A1, n1, c1, rfl, h1, b1⟩
  go_wp2_with fail
  go_loopw [5, 6] (fun ov iv wr => ∃ (j : Nat) (A' : Option Addr) (n' c' : Nat), j ≤ k ∧ iv = .int .i64 (j : Int) ∧ ov = .slice A' n' c' ∧ Num wr A' n' c' (x ^ j) ∧ Below w.heap.size w wr) (fun _ iv _ => k - (intOf iv).toNat)
  case atStart => exact ⟨0, A1, n1, c1, Nat.zero_le _, rfl, rfl, h1, b1⟩
  case round =>
    obtain ⟨j, A', n', c', hj, rfl, rfl, hN, hb⟩ := hrel
    have hl := limbs_length_pow hx j
    have ha' := ha.on hb
    by_cases hlt : j < k
    · have hl2 : (limbs (x ^ j)).length ≤ 1000000 := by omega
      clear hl
      go_wp2_with fail
      refine (rmul_N hN ha' hl2 (by omega)).mono ?_
      rintro e w2 ⟨A2, n2, c2, rfl, h2, b2⟩
      rw [← Nat.pow_succ] at h2
      go_wp2_with fail
      go_roundw
      case rel => exact ⟨j + 1, A2, n2, c2, by omega, by go_num, rfl, h2, hb.trans (b2.mono hb.size)⟩
      case measure => simp [intOf]; omega
    · obtain rfl : j = k := by omega
      clear hl
      go_wp2_with fail
      go_ret
      exact ⟨_, _, _, rfl, hN, hb⟩

theorem rroot_no (w : World) (A : Option Addr) (n c : Nat) (k : Int) (hk : k < 1 ∨ 16 < k) : Calls Tryz.prog 32 #[.slice A n c, .int .i64 k] w (GotV w (.tuple #[.slice none 0 0, .int .i64 1])) := by
  rcases hk with h | h
  · go_enter Tryz.func32, Tryz.ntmps32
    go_wp2
    go_ret2
    exact ⟨rfl, Below.refl _ _⟩
  · have h0 : ¬ k < 1 := by omega
    go_enter Tryz.func32, Tryz.ntmps32
    go_wp2
    go_ret2
    exact ⟨rfl, Below.refl _ _⟩

theorem num_none (w : World) (A : Option Addr) (c : Nat) : Num w A 0 c 0 := by
  unfold Num
  rw [limbs_zero]
  exact Lim.nil _ _ _ _
theorem blen_len {x m : Nat} (h : (limbs x).length ≤ m) : blen x ≤ 64 * m := by
  refine blen_le ?_
  have := lt_of_limbs_length h
  rw [B64_pow2] at this
  exact this
theorem limbs_two_pow {i m : Nat} (h : i < 64 * m) : (limbs (2 ^ i)).length ≤ m := by
  refine limbs_length_le ?_
  rw [B64_pow2]
  exact (Nat.pow_lt_pow_iff_right (by omega)).2 h

theorem rroot_N {w : World} {A : Option Addr} {n c x k : Nat} (ha : Num w A n c x) (hx : (limbs x).length ≤ 300) (h1 : 1 ≤ k) (hk : k ≤ 16) : Calls Tryz.prog 32 #[.slice A n c, .int .i64 (k : Int)] w (GotP w (iroot k x) 0) := by
  have hk0 : ¬ k = 0 := by omega
  obtain ⟨b, hb⟩ : ∃ b, blen x = b := ⟨_, rfl⟩
  have hb2 : b ≤ 19200 := by
    rw [← hb]
    exact blen_len hx
  obtain ⟨q, hq⟩ : ∃ q, q = b / k := ⟨_, rfl⟩
  have hq2 : q ≤ 19200 := by rw [hq]; exact Nat.le_trans (Nat.div_le_self _ _) hb2
  have hst : x < (0 + 2 ^ (q + 1)) ^ k := by rw [hq, ← hb]; exact root_start hk0 (lt_blen x)
  have hw : IntKind.i64.wrap ((b : Int) / (k : Int)) = (q : Int) := by
    have h2 : ((b / k : Nat) : Int) = (b : Int) / (k : Int) := by simp
    rw [hq, ← h2, IntWalk.i64_in _ (by omega)]
  have d1 : decide ((k : Int) < 1) = false := by simp; omega
  have d2 : decide (16 < (k : Int)) = false := by simp; omega
  have HB := Lib.hid hb
  have HST := Lib.hid hst
  clear hb hst hq
  go_enter Tryz.func32, Tryz.ntmps32
  go_wp2_with fail
  refine (rbits_N (Num.on ha ((Below.refl _ w).alloc (Nat.le_refl _) _)) (by omega)).mono ?_
  rintro e w1 ⟨rfl, b1⟩
  rw [HB.out]
  have hB1 : Below w.heap.size w w1 := ((Below.refl _ w).alloc (Nat.le_refl _) _).trans (b1.mono (by simp))
  go_wp2_with fail
  clear hw b1
  go_loopw [6, 7] (fun ov iv wr => ∃ (j : Nat) (A' : Option Addr) (n' c' r : Nat), j ≤ q + 1 ∧ iv = .int .i64 ((j : Int) - 1) ∧ ov = .slice A' n' c' ∧ Num wr A' n' c' r ∧ Hid (r ^ k ≤ x) ∧ Hid (x < (r + 2 ^ j) ^ k) ∧ Below w.heap.size w wr) (fun _ iv _ => (intOf iv + 1).toNat)
  case atStart => exact ⟨q + 1, _, _, _, 0, Nat.le_refl _, congrArg (Value.int .i64) (by omega), rfl, num_none _ _ _, Lib.hid (by rw [Nat.zero_pow (by omega)]; omega), HST, hB1⟩
  case round =>
    obtain ⟨j, A', n', c', r, hjq, hiv, rfl, hN, HR, HX, hB⟩ := hrel
    subst hiv
    have ha' := ha.on hB
    have hrx : r ≤ x := Nat.le_trans (self_le_pow r hk0) HR.out
    have hrl : (limbs r).length ≤ 300 := Nat.le_trans (limbs_length_mono hrx) hx
    clear hrx
    cases j with
    | zero =>
      rw [show (((0 : Nat) : Int) - 1) = -1 from rfl]
      have e : iroot k x = r := iroot_eq hk0 HR.out HX.out
      have HE := Lib.hid e
      clear e
      go_wp2_with fail
      go_ret2
      rw [HE.out]
      exact ⟨_, _, _, rfl, hN, hB⟩
    | succ i =>
      rw [show (((i + 1 : Nat) : Int) - 1) = (i : Int) by omega]
      have hi : i ≤ 19200 := by omega
      have hpl := limbs_two_pow (i := i) (m := 301) (by omega)
      have hml := limbs_length_add (Nat.le_trans hrl (by omega)) hpl
      have hpw := limbs_length_pow hml k
      have hpw2 : (limbs ((r + 2 ^ i) ^ k)).length ≤ 1000000 := by
        refine Nat.le_trans hpw ?_
        have : 302 * k ≤ 302 * 16 := Nat.mul_le_mul_left _ hk
        omega
      have HPL := Lib.hid hpl
      clear hpw hpl
      go_wp2_with fail
      refine (rof_N _ 1 B64_gt).mono ?_
      rintro e w2 ⟨A2, n2, c2, rfl, h2, b2⟩
      go_wp2_with fail
      refine (rshl_N h2 (by rw [limbs_one (by omega) B64_gt]; simp) (by omega)).mono ?_
      rintro e w3 ⟨A3, n3, c3, rfl, h3, b3⟩
      rw [Nat.one_mul] at h3
      have c3' := b2.trans (b3.mono b2.size)
      replace hN := hN.on c3'
      replace ha' := ha'.on c3'
      replace hB := hB.trans (c3'.mono hB.size)
      clear b2 b3 c3' h2
      go_wp2_with fail
      refine (radd_N hN h3 (by omega) (by have := HPL.out; omega)).mono ?_
      rintro e w4 ⟨A4, n4, c4, rfl, h4, b4⟩
      replace hN := hN.on b4
      replace ha' := ha'.on b4
      replace hB := bK hB b4
      clear b4 h3
      go_wp2_with fail
      refine (rpow3_N h4 (by omega) hk).mono ?_
      rintro e w5 ⟨A5, n5, c5, rfl, h5, b5⟩
      replace hN := hN.on b5
      replace ha' := ha'.on b5
      replace h4 := h4.on b5
      replace hB := bK hB b5
      clear b5
      go_wp2_with fail
      refine (rcmp_N h5 ha' (by omega) (by omega)).mono ?_
      rintro e w6 ⟨rfl, b6⟩
      replace hN := hN.on b6
      replace h4 := h4.on b6
      replace hB := bK hB b6
      clear b6 h5
      have hX2 := HX.out
      rw [root_step] at hX2
      have HX2 := Lib.hid hX2
      clear hX2 HX
      by_cases hle : (r + 2 ^ i) ^ k ≤ x
      · have hcm : cmpN ((r + 2 ^ i) ^ k) x ≤ 0 := by
          rcases Nat.lt_or_ge ((r + 2 ^ i) ^ k) x with h | h
          · rw [cmpN_lt h]; omega
          · rw [cmpN_zero.2 (by omega)]; omega
        have HLE := Lib.hid hle
        clear hle
        go_wp2_with fail
        go_roundw
        case rel => exact ⟨i, A4, n4, c4, r + 2 ^ i, by omega, rfl, rfl, h4, HLE, HX2, hB⟩
        case measure => simp [intOf]
      · have hcm : ¬ cmpN ((r + 2 ^ i) ^ k) x ≤ 0 := by rw [cmpN_gt (by omega)]; omega
        have HLT : Hid (x < (r + 2 ^ i) ^ k) := Lib.hid (by omega)
        clear hle
        go_wp2_with fail
        go_roundw
        case rel => exact ⟨i, A', n', c', r, by omega, rfl, rfl, hN, HR, HLT, hB⟩
        case measure => simp [intOf]
theorem len_iroot {x k m : Nat} (h1 : 1 ≤ k) (hx : (limbs x).length ≤ m) : (limbs (iroot k x)).length ≤ m := Nat.le_trans (limbs_length_mono (iroot_le x (by omega))) hx
theorem len_uroot {x k m : Nat} (h1 : 1 ≤ k) (hx : (limbs x).length ≤ m) : (limbs (uroot k x)).length ≤ m := Nat.le_trans (limbs_length_mono (uroot_le_self x (by omega))) hx
theorem len_irootp {x k m : Nat} (h1 : 1 ≤ k) (hx : (limbs x).length ≤ m) : (limbs (iroot k x ^ k)).length ≤ m := Nat.le_trans (limbs_length_mono (iroot_pow x (by omega))) hx

end Go.Proofs.YtmaolhajeoigpaaGreat

/-
  The contract of the fifteenth reference: fell.
-/
namespace Go.Proofs.YtmaolhajeoigpaaGreat
set_option maxRecDepth 100000
open Go.RowKit
set_option linter.unusedVariables false
set_option linter.unusedSimpArgs false

/-- The greater of a number and 1. -/
def mx15 (x : Int) : Int := max x 1
theorem mx15_run {P : Program} (w : World) (ts : Array TypeId) (t : TypeId) (x : Int) : (Builtin.max_ ts t #[.int .i64 x, .int .i64 1]).run P w = .ok (.int .i64 (mx15 x)) w := by
  rw [run_max_int2]
  congr 2
  unfold mx15
  split <;> omega
attribute [local go_sem ↓] mx15_run

set_option maxHeartbeats 8000000 in
theorem rfell15_N {w : World} {kd ba ra en wa ev la po t : Int} (h0 : 0 ≤ wa) (h2 : wa ≤ 1000000) (hb : 0 ≤ ba) (hi : I64 ba) (ht : wa < t) (h1 : 1 ≤ t) (h3 : t ≤ 1000000) :
    Calls Tryz.prog 14 #[.agg #[.int .i64 kd, .int .i64 ba, .int .i64 ra, .int .i64 en, .int .i64 wa, .int .i64 ev, .int .i64 la, .int .i64 po], .int .i64 t] w (GotV w (.int .i64 (fellR ba wa t))) := by
  obtain ⟨bn, rfl⟩ : ∃ n : Nat, ba = (n : Int) := ⟨ba.toNat, by omega⟩
  obtain ⟨tn, rfl⟩ : ∃ n : Nat, t = (n : Int) := ⟨t.toNat, by omega⟩
  obtain ⟨mn, em⟩ : ∃ n : Nat, mx15 wa = (n : Int) := ⟨(mx15 wa).toNat, by unfold mx15; omega⟩
  have hm1 : 1 ≤ mn ∧ mn ≤ 1000000 := by unfold mx15 at em; omega
  obtain ⟨f0, f1⟩ := fell_le hb ht h1
  have HF : Hid (fellR (bn : Int) wa (tn : Int) = ((iroot 2 (bn * bn * mn / tn) : Nat) : Int)) := Lib.hid (by unfold fellR; rw [show max wa 1 = (mn : Int) from em, Int.toNat_natCast, Int.toNat_natCast, Int.toNat_natCast])
  rw [HF.out] at f0 f1 ⊢
  obtain ⟨r, er⟩ : ∃ r, iroot 2 (bn * bn * mn / tn) = r := ⟨_, rfl⟩
  rw [er] at f0 f1 ⊢
  have b64 : bn < B64 := by unfold I64 at hi; unfold B64; omega
  have m64 : mn < B64 := by unfold B64; omega
  have n64 : tn < B64 := by unfold B64; omega
  have CB := fun W : World => rof_N W bn b64
  have CM := fun W : World => rof_N W mn m64
  have CT := fun W : World => rof_N W tn n64
  have lb := len_one b64
  have lm := len_one m64
  have lt := len_one n64
  have lbb := limbs_length_mul lb lb
  have lbm := limbs_length_mul lbb lm
  have ln : (limbs (bn * bn * mn / tn)).length ≤ 300 := Nat.le_trans (limbs_length_mono (Nat.div_le_self _ _)) (by omega)
  have k1 : IntKind.u64.wrap (bn : Int) = (bn : Int) := by rw [IntKind.wrap_u64]; unfold B64 at b64; omega
  have k2 : IntKind.u64.wrap (mx15 wa) = (mn : Int) := by rw [em, IntKind.wrap_u64]; omega
  have k3 : IntKind.u64.wrap (tn : Int) = (tn : Int) := by rw [IntKind.wrap_u64]; omega
  have k4 : IntKind.u64.wrap (mn : Int) = (mn : Int) := by rw [IntKind.wrap_u64]; omega
  have ir : I64 (r : Int) := by unfold I64 at hi ⊢; omega
  have tn0 : tn ≠ 0 := by omega
  have CR := fun {W : World} {A : Option Addr} {n c : Nat} (h : Num W A n c (bn * bn * mn / tn)) => rroot_N (k := 2) h ln (by omega) (by omega)
  rw [er] at CR
  have HLB := Lib.hid lb
  have HLBB := Lib.hid lbb
  have HLBM := Lib.hid lbm
  have HLM := Lib.hid lm
  have HLT := Lib.hid lt
  have HIR := Lib.hid ir
  have HTN := Lib.hid tn0
  clear hb ht h1 h2 hi f0 f1 b64 m64 n64 hm1 lb lbb lbm lm lt ln er ir tn0 HF h0
  have cc := Below.refl w.heap.size w
  go_enter Tryz.func14, Tryz.ntmps14
  go_wp2_with fail
  generalize hv_ : w.alloc (.cells #[.int .i64 kd, .int .i64 (bn : Int), .int .i64 ra, .int .i64 en, .int .i64 wa, .int .i64 ev, .int .i64 la, .int .i64 po] 23) = v1
  have bA : Below w.heap.size w v1 := by rw [← hv_]; exact ((Below.refl _ w).alloc (by simp) _)
  replace cc := bK cc bA
  clear bA
  have sc0 : v1.cell? ⟨w.heap.size, 0, none⟩ = some (.int .i64 kd) := by simp [← hv_, go_sem]
  have sc1 : v1.cell? ⟨w.heap.size, 1, none⟩ = some (.int .i64 (bn : Int)) := by simp [← hv_, go_sem]
  have sc2 : v1.cell? ⟨w.heap.size, 2, none⟩ = some (.int .i64 ra) := by simp [← hv_, go_sem]
  have sc3 : v1.cell? ⟨w.heap.size, 3, none⟩ = some (.int .i64 en) := by simp [← hv_, go_sem]
  have sc4 : v1.cell? ⟨w.heap.size, 4, none⟩ = some (.int .i64 wa) := by simp [← hv_, go_sem]
  have sc5 : v1.cell? ⟨w.heap.size, 5, none⟩ = some (.int .i64 ev) := by simp [← hv_, go_sem]
  have sc6 : v1.cell? ⟨w.heap.size, 6, none⟩ = some (.int .i64 la) := by simp [← hv_, go_sem]
  have sc7 : v1.cell? ⟨w.heap.size, 7, none⟩ = some (.int .i64 po) := by simp [← hv_, go_sem]
  have scl : w.heap.size < v1.heap.size := by simp [← hv_] <;> omega
  clear hv_
  go_wp2_with fail
  refine (CB _).mono ?_
  rintro e w2 ⟨Ab, nb, cb, rfl, hb, b⟩
  rewrite [cR b scl] at sc0 sc1 sc2 sc3 sc4 sc5 sc6 sc7
  replace scl := lK b scl
  replace cc := bK cc b
  clear b
  go_wp2_with fail
  refine (CM _).mono ?_
  rintro e w3 ⟨Am, nm, cm, rfl, hm, b⟩
  replace hb := hb.on b
  rewrite [cR b scl] at sc0 sc1 sc2 sc3 sc4 sc5 sc6 sc7
  replace scl := lK b scl
  replace cc := bK cc b
  clear b
  go_wp2_with fail
  refine (rmul_N hb hb (Nat.le_trans HLB.out (by omega)) (Nat.le_trans HLB.out (by omega))).mono ?_
  rintro e w4 ⟨Ap, np, cp, rfl, hp, b⟩
  replace hb := hb.on b
  replace hm := hm.on b
  rewrite [cR b scl] at sc0 sc1 sc2 sc3 sc4 sc5 sc6 sc7
  replace scl := lK b scl
  replace cc := bK cc b
  clear b
  go_wp2_with fail
  refine (rmul_N hp hm (Nat.le_trans HLBB.out (by omega)) (Nat.le_trans HLM.out (by omega))).mono ?_
  rintro e w5 ⟨Aq, nq, cq, rfl, hq, b⟩
  replace hb := hb.on b
  replace hm := hm.on b
  replace hp := hp.on b
  rewrite [cR b scl] at sc0 sc1 sc2 sc3 sc4 sc5 sc6 sc7
  replace scl := lK b scl
  replace cc := bK cc b
  clear b
  go_wp2_with fail
  refine (CT _).mono ?_
  rintro e w6 ⟨As, ns, cs, rfl, hs, b⟩
  replace hb := hb.on b
  replace hm := hm.on b
  replace hp := hp.on b
  replace hq := hq.on b
  rewrite [cR b scl] at sc0 sc1 sc2 sc3 sc4 sc5 sc6 sc7
  replace scl := lK b scl
  replace cc := bK cc b
  clear b
  go_wp2_with fail
  refine (rdiv_N hq hs (Nat.le_trans HLBM.out (by omega)) (Nat.le_trans HLT.out (by omega)) HTN.out).mono ?_
  rintro e w7 ⟨Ad, nd, cd, Ae, ne_, ce, rfl, hd, he, b⟩
  replace hb := hb.on b
  replace hm := hm.on b
  replace hp := hp.on b
  replace hq := hq.on b
  replace hs := hs.on b
  rewrite [cR b scl] at sc0 sc1 sc2 sc3 sc4 sc5 sc6 sc7
  replace scl := lK b scl
  replace cc := bK cc b
  clear b
  clear he
  go_wp2_with fail
  refine (CR hd).mono ?_
  rintro e w8 ⟨Ar, nr_, cr, rfl, hr, b⟩
  replace hb := hb.on b
  replace hm := hm.on b
  replace hp := hp.on b
  replace hq := hq.on b
  replace hs := hs.on b
  replace hd := hd.on b
  rewrite [cR b scl] at sc0 sc1 sc2 sc3 sc4 sc5 sc6 sc7
  replace scl := lK b scl
  replace cc := bK cc b
  clear b
  have hz : Zn w8 false Ar nr_ cr (r : Int) := ⟨by rw [Int.natAbs_natCast]; exact hr, by simp⟩
  go_wp2_with fail
  refine (rzint_yes hz HIR.out).mono ?_
  rintro e w9 ⟨rfl, b⟩
  replace hz := hz.on b
  rewrite [cR b scl] at sc0 sc1 sc2 sc3 sc4 sc5 sc6 sc7
  replace scl := lK b scl
  replace cc := bK cc b
  clear b
  go_wp2_with fail
  go_ret
  exact ⟨rfl, cc⟩

end Go.Proofs.YtmaolhajeoigpaaGreat

/-
  Plain arithmetic: Newton's guesses of a root go down to it, and stay no less than it.
-/
namespace Go.Proofs.YtmaolhajeoigpaaGreat

theorem twice_le (r x : Nat) : 2 * (r * x) ≤ r * r + x * x := by
  rcases Nat.le_total r x with h | h
  · obtain ⟨d, rfl⟩ := Nat.le.dest h
    simp only [Nat.mul_add, Nat.add_mul, Nat.mul_comm d r]
    have := Nat.zero_le (d * d)
    omega
  · obtain ⟨d, rfl⟩ := Nat.le.dest h
    simp only [Nat.mul_add, Nat.add_mul, Nat.mul_comm d x]
    have := Nat.zero_le (d * d)
    omega

/-- The mean of j times x and once r to the power of j + 1 by x to the power of j is no less than r. -/
theorem means (r x j : Nat) : (j + 1) * (r * x ^ j) ≤ r ^ (j + 1) + j * (x * x ^ j) := by
  induction j with
  | zero => simp
  | succ j ih =>
    have h1 := Nat.mul_le_mul_left ((j + 1) * x ^ j) (twice_le r x)
    have h2 := Nat.mul_le_mul_left r ih
    rw [Nat.pow_succ r (j + 1), Nat.pow_succ x j]
    generalize x ^ j = X at *
    generalize r ^ (j + 1) = R at *
    have e1 : (j + 1) * X * (2 * (r * x)) = 2 * (j * (r * x * X)) + 2 * (r * x * X) := by
      rw [show (j + 1) * X * (2 * (r * x)) = 2 * ((j + 1) * (r * x * X)) by ac_rfl, Nat.add_mul, Nat.one_mul, Nat.mul_add]
    have e2 : (j + 1) * X * (r * r + x * x) = (j + 1) * (r * r * X) + (j + 1) * (x * x * X) := by
      rw [Nat.mul_add]; congr 1 <;> ac_rfl
    have e3 : r * ((j + 1) * (r * X)) = (j + 1) * (r * r * X) := by ac_rfl
    have e4 : r * (R + j * (x * X)) = R * r + j * (r * x * X) := by
      rw [Nat.mul_add]; congr 1 <;> ac_rfl
    have e5 : (j + 1 + 1) * (r * (X * x)) = j * (r * x * X) + 2 * (r * x * X) := by
      rw [show r * (X * x) = r * x * X by ac_rfl, Nat.add_assoc, Nat.add_mul]
    have e6 : (j + 1) * (x * (X * x)) = (j + 1) * (x * x * X) := by
      congr 1; ac_rfl
    rw [e1, e2] at h1
    rw [e3, e4] at h2
    rw [e5, e6]
    omega

/-- The next guess. -/
def newton (a k x : Nat) : Nat := (x * (k - 1) + a / x ^ (k - 1)) / k

theorem newton_ge {a k r x : Nat} (h1 : 1 ≤ k) (hr : r ^ k ≤ a) (hx : x ≠ 0) : r ≤ newton a k x := by
  obtain ⟨j, rfl⟩ : ∃ j, k = j + 1 := ⟨k - 1, by omega⟩
  unfold newton
  rw [Nat.add_sub_cancel, Nat.le_div_iff_mul_le (by omega)]
  have hX : 0 < x ^ j := Nat.pow_pos (by omega)
  have hq : a < x ^ j * (a / x ^ j + 1) := by
    have h2 := Nat.div_add_mod a (x ^ j)
    have h3 := Nat.mod_lt a hX
    rw [Nat.mul_add, Nat.mul_one]
    omega
  have hm := means r x j
  refine Nat.le_of_lt_succ (Nat.lt_of_mul_lt_mul_right (a := x ^ j) ?_)
  generalize a / x ^ j = q at *
  generalize x ^ j = X at *
  have e1 : r * (j + 1) * X = (j + 1) * (r * X) := by ac_rfl
  have e2 : (x * j + q).succ * X = j * (x * X) + (q + 1) * X := by
    rw [Nat.succ_eq_add_one, Nat.add_assoc, Nat.add_mul]; congr 1; ac_rfl
  rw [e1, e2]
  have e3 : X * (q + 1) = (q + 1) * X := Nat.mul_comm _ _
  omega

theorem newton_lt {a k x : Nat} (h1 : 1 ≤ k) (hx : x ≠ 0) (h : a < x ^ k) : newton a k x < x := by
  obtain ⟨j, rfl⟩ : ∃ j, k = j + 1 := ⟨k - 1, by omega⟩
  unfold newton
  rw [Nat.add_sub_cancel, Nat.div_lt_iff_lt_mul (by omega)]
  have hX : 0 < x ^ j := Nat.pow_pos (by omega)
  have hq : a / x ^ j < x := by
    rw [Nat.div_lt_iff_lt_mul hX, Nat.mul_comm, ← Nat.pow_succ]
    exact h
  rw [Nat.mul_add, Nat.mul_one]
  omega

theorem newton_end {a k x : Nat} (h1 : 1 ≤ k) (hx : x ≠ 0) (h : x ^ k ≤ a) : x ≤ newton a k x := by
  obtain ⟨j, rfl⟩ : ∃ j, k = j + 1 := ⟨k - 1, by omega⟩
  unfold newton
  rw [Nat.add_sub_cancel, Nat.le_div_iff_mul_le (by omega)]
  have hX : 0 < x ^ j := Nat.pow_pos (by omega)
  have hq : x ≤ a / x ^ j := by
    rw [Nat.le_div_iff_mul_le hX, Nat.mul_comm, ← Nat.pow_succ]
    exact h
  rw [Nat.mul_add, Nat.mul_one]
  omega

/-- A power of 2 that is above the root. -/
theorem above_root {a k b : Nat} (h1 : 1 ≤ k) (ha : a < 2 ^ b) : a < (2 ^ ((b + k - 1) / k)) ^ k := by
  refine Nat.lt_of_lt_of_le ha ?_
  rw [← Nat.pow_mul]
  refine Nat.pow_le_pow_right (by omega) ?_
  have h2 := Nat.div_add_mod (b + k - 1) k
  have h3 := Nat.mod_lt (b + k - 1) (show k > 0 by omega)
  rw [Nat.mul_comm] at h2
  omega

theorem above_bits {k b m : Nat} (h1 : 1 ≤ k) (hk : k ≤ 16) (hb : b ≤ m) : (b + k - 1) / k * k ≤ m + 15 := by
  have := Nat.div_mul_le_self (b + k - 1) k
  omega

end Go.Proofs.YtmaolhajeoigpaaGreat

/-
  The contracts of root's inner functions: isExponent, power, quotient, above.
-/
namespace Go.Proofs.YtmaolhajeoigpaaGreat
set_option maxRecDepth 100000
set_option maxHeartbeats 4000000
open Go.RowKit

theorem isExp_yes (w : World) (k : Nat) (h1 : 1 ≤ k) (hk : k ≤ 16) : Calls Tryz.prog 80 #[.int .i64 (k : Int)] w fun e w' => e = .returned (.bool true) ∧ w = w' := by
  have d1 : decide (1 ≤ (k : Int)) = true := by simp; omega
  have d2 : decide ((k : Int) ≤ 16) = true := by simp; omega
  go_enter Tryz.func80, Tryz.ntmps80
  go_wp2
  go_ret
  exact ⟨rfl, rfl⟩
theorem isExp_no (w : World) (k : Int) (hk : k < 1 ∨ 16 < k) : Calls Tryz.prog 80 #[.int .i64 k] w fun e w' => e = .returned (.bool false) ∧ w = w' := by
  rcases hk with h | h
  · have d1 : decide (1 ≤ k) = false := by simp; omega
    go_enter Tryz.func80, Tryz.ntmps80
    go_wp2
    go_ret
    exact ⟨rfl, rfl⟩
  · have d1 : decide (1 ≤ k) = true := by simp; omega
    have d2 : decide (k ≤ 16) = false := by simp; omega
    go_enter Tryz.func80, Tryz.ntmps80
    go_wp2
    go_ret
    exact ⟨rfl, rfl⟩

theorem tpow_N {w : World} {A : Option Addr} {n c x k : Nat} (ha : Num w A n c x) (hx : (limbs x).length ≤ 1000) (hk : k ≤ 16) : Calls Tryz.prog 84 #[.slice A n c, .int .i64 (k : Int)] w (GotN w (x ^ k)) := by
  go_enter Tryz.func84, Tryz.ntmps84
  go_wp2_with fail
  refine (of_N w 1 B64_gt).mono ?_
  rintro e w1 ⟨A1, n1, c1, rfl, h1, b1⟩
  go_wp2_with fail
  go_loopw [5, 8] (fun ov iv wr => ∃ (j : Nat) (A' : Option Addr) (n' c' : Nat), j ≤ k ∧ iv = .int .i64 (j : Int) ∧ ov = .slice A' n' c' ∧ Num wr A' n' c' (x ^ j) ∧ Below w.heap.size w wr) (fun _ iv _ => k - (intOf iv).toNat)
  case atStart => exact ⟨0, A1, n1, c1, Nat.zero_le _, rfl, rfl, h1, b1⟩
  case round =>
    obtain ⟨j, A', n', c', hj, rfl, rfl, hN, hb⟩ := hrel
    have hl := limbs_length_pow hx j
    have ha' := ha.on hb
    by_cases hlt : j < k
    · have hl2 : (limbs (x ^ j)).length ≤ 1000000 := by omega
      clear hl
      go_wp2_with fail
      refine (mul_N hN ha' (by omega) (by omega)).mono ?_
      rintro e w2 ⟨A2, n2, c2, rfl, h2, b2⟩
      rw [← Nat.pow_succ] at h2
      go_wp2_with fail
      go_roundw
      case rel => exact ⟨j + 1, A2, n2, c2, by omega, by go_num, rfl, h2, hb.trans (b2.mono hb.size)⟩
      case measure => simp [intOf]; omega
    · obtain rfl : j = k := by omega
      clear hl
      go_wp2_with fail
      go_ret
      exact ⟨_, _, _, rfl, hN, hb⟩

theorem quot_N {w : World} {A B : Option Addr} {n c m d x y : Nat} (ha : Num w A n c x) (hb : Num w B m d y) (hx : (limbs x).length ≤ 300) (hy : (limbs y).length ≤ 300) (hy0 : y ≠ 0) : Calls Tryz.prog 107 #[.slice A n c, .slice B m d] w (GotN w (x / y)) := by
  go_enter Tryz.func107, Tryz.ntmps107
  go_wp2_with fail
  refine (ddiv_N ha hb hx hy hy0).mono ?_
  rintro e w1 ⟨A1, n1, c1, B1, m1, d1, rfl, h3, h4, b1⟩
  go_wp2_with fail
  go_ret
  exact ⟨_, _, _, rfl, h3, b1⟩

theorem wrap_one {r : Nat} (hr : r < 64) : IntKind.u64.wrap (2 ^ r) = (pw r : Int) := by
  have h1 := pw_lt hr
  rw [IntKind.wrap_u64]
  have e : ((2 : Int) ^ r) = ((pw r : Nat) : Int) := by unfold pw; simp
  rw [e]
  unfold B64 at h1
  omega

theorem above_N {w : World} {A : Option Addr} {n c x k : Nat} (ha : Num w A n c x) (hx : (limbs x).length ≤ 298) (h1 : 1 ≤ k) (hk : k ≤ 16) : Calls Tryz.prog 110 #[.slice A n c, .int .i64 (k : Int)] w (GotN w (2 ^ ((blen x + k - 1) / k))) := by
  obtain ⟨i0, hi, hz0, hz1, hz2⟩ := info_parts info24
  have hk0 : ¬ k = 0 := by omega
  obtain ⟨b, hb⟩ : ∃ b, blen x = b := ⟨_, rfl⟩
  have hb2 : b ≤ 19072 := by
    rw [← hb]
    exact blen_len hx
  obtain ⟨q, hq⟩ : ∃ q, q = (b + k - 1) / k := ⟨_, rfl⟩
  have hq2 : q ≤ 19200 := by rw [hq]; exact Nat.le_trans (Nat.div_le_self _ _) (by omega)
  obtain ⟨s, hs⟩ : ∃ s, s = q / 64 := ⟨_, rfl⟩
  obtain ⟨r, hr⟩ : ∃ r, r = q % 64 := ⟨_, rfl⟩
  have hr2 : r < 64 := by omega
  have hs2 : s ≤ 300 := by omega
  have hw' : ((b : Int) + (k : Int) - 1) / (k : Int) = (q : Int) := by
    rw [hq, Int.natCast_ediv]
    congr 1
    omega
  have hws' : (q : Int) / 64 = (s : Int) := by omega
  have hwr' : (q : Int) % 64 = (r : Int) := by omega
  have HONE := Lib.hid (wrap_one hr2)
  have hl : (List.replicate (s + 1) 0).set s (pw r) = limbs (2 ^ q) := by rw [hs, hr]; exact pw_limbs q
  rw [hb, ← hq]
  have HB := Lib.hid hb
  have HLL := Lib.hid hl
  clear hb hq hs hr hl
  go_enter Tryz.func110, Tryz.ntmps110
  go_wp2_with fail
  refine (bits_N ha (by omega)).mono ?_
  rintro e w1 ⟨rfl, b1⟩
  rw [HB.out]
  obtain ⟨t, ht⟩ : ∃ t, w1.heap.size = t := ⟨_, rfl⟩
  have HS := Lib.hid ht
  clear ht
  have hr3 : (0 : Int) ≤ (r : Int) := by omega
  have hr4 : (r : Int) ≤ 64 := by omega
  go_wp2_with (at_make; refine wpList_make_full _ rfl _ _ 47 rfl t 41 i0 (.int .u64 0) 1 Tryz.underlying47 hi hz0 hz1 .i64 .i64 _ _ (s + 1) rfl rfl (by omega) (by omega) (by rw [hz2]; omega) (by unfold maxLen; omega) (by rw [HS.out]; omega) ?_; intro w2 hown1 hgrow1; rw [made_zeros] at hown1; rw [HS.out] at hown1 ⊢; have hf := hown1.frozenAt s; have hc : w2.cell? ⟨t, s, none⟩ = some (.int .u64 0) := (by rw [hown1.cellAt s (by omega)]; simp [encD]); have hst := Lib.hid (hown1.stored s (.int .u64 (pw r : Int))); have HO := Lib.hid hown1; clear hown1)
  go_ret
  rw [HONE.out]
  have hrow := hst.out.1
  rw [show (Value.int IntKind.u64 (pw r : Int)) = encD (pw r) from rfl, ← List.map_set, HLL.out] at hrow
  refine ⟨_, _, _, rfl, Lim.of_own hrow (limbs_dig _), ?_⟩
  have hsz := HS.out
  exact b1.trans ((((Below.refl t w1).grown hgrow1 (by omega) (fun k h => by cases h)).grown hst.out.2 (by have := hgrow1.size; omega) (fun q e => by cases e; exact Nat.le_refl _)).mono (by have := b1.size; omega))

end Go.Proofs.YtmaolhajeoigpaaGreat

/-
  The contracts of root's guesses: the closure, goDown, rootOf; and of Root, Up, Pow.
-/
namespace Go.Proofs.YtmaolhajeoigpaaGreat
set_option maxRecDepth 100000
open Go.RowKit

theorem undrew3 {W w' : World} (hb : Below W.drew.heap.size W.drew w') : Below W.heap.size W w' := ⟨hb.os, hb.tape, hb.output, hb.size, hb.block⟩

set_option maxHeartbeats 4000000 in
theorem newt_N {w : World} {A X : Option Addr} {n c m d a x k ba bk : Nat} (hcA : w.cell? ⟨ba, 0, none⟩ = some (.slice A n c)) (hcK : w.cell? ⟨bk, 0, none⟩ = some (.int .i64 (k : Int))) (hba : ba < w.heap.size) (hbk : bk < w.heap.size) (ha : Num w A n c a) (hx : Num w X m d x) (la : (limbs a).length ≤ 299) (lx : (limbs x).length ≤ 299) (lp : (limbs (x ^ (k - 1))).length ≤ 300) (h1 : 1 ≤ k) (hk : k ≤ 16) (hx0 : x ≠ 0) (ls : (limbs (x * (k - 1) + a / x ^ (k - 1))).length ≤ 300) :
    Calls Tryz.prog 106 #[.slice X m d, .pointer (some ⟨ba, 0, none⟩), .pointer (some ⟨bk, 0, none⟩)] w (GotN w (newton a k x)) := by
  unfold newton
  obtain ⟨j, hj⟩ : ∃ j, k - 1 = j := ⟨_, rfl⟩
  rw [hj] at lp ls ⊢
  have hji : (k : Int) - 1 = (j : Int) := by omega
  have hjv : IntKind.i64.wrap (j : Int) = (j : Int) := IntWalk.i64_in _ (by omega)
  have hjw : IntKind.u64.wrap (j : Int) = (j : Int) := by rw [IntKind.wrap_u64]; omega
  have hkw : IntKind.u64.wrap (k : Int) = (k : Int) := by rw [IntKind.wrap_u64]; omega
  have hjk : j ≤ 16 := by omega
  have hp0 : x ^ j ≠ 0 := by have : 0 < x ^ j := Nat.pow_pos (by omega); omega
  have hk0 : k ≠ 0 := by omega
  have lq : (limbs (a / x ^ j)).length ≤ 300 := Nat.le_trans (limbs_length_mono (Nat.div_le_self _ _)) (by omega)
  have lk : (limbs k).length ≤ 1 := limbs_length_le (by rw [Nat.pow_one]; unfold B64; omega)
  have ljj : (limbs j).length ≤ 1 := limbs_length_le (by rw [Nat.pow_one]; unfold B64; omega)
  have lxj : (limbs (x * j)).length ≤ 300 := limbs_length_mul lx ljj
  have hkB : k < B64 := by unfold B64; omega
  have hjB : j < B64 := by unfold B64; omega
  have hD := below_drewN (Below.refl w.heap.size w) 1
  have haD : Num w.drew A n c a := ha.on hD
  have hxD : Num w.drew X m d x := hx.on hD
  clear hj hD
  go_enter Tryz.func106, Tryz.ntmps106
  go_wp2_with fail
  go_region_held3 (fun w' => w'.cell? ⟨ba, 0, none⟩ = some (.slice A n c) ∧ w'.cell? ⟨bk, 0, none⟩ = some (.int .i64 (k : Int)))
    (first | go_keep | exact ⟨cK qq hcA hba, cK qq hcK hbk⟩)
    (first
      | (go_at_call 84; (with_reducible refine (tpow_N hxD (by omega) hjk).mono ?_); rintro e v1 ⟨A1, n1, c1, rfl, h3, q1⟩; have qq := undrew3 q1; replace haD := haD.on q1; clear q1)
      | (go_at_call 107; (with_reducible refine (quot_N haD h3 (by omega) lp hp0).mono ?_); rintro e v2 ⟨A2, n2, c2, rfl, h4, q2⟩; replace qq := bK qq q2; clear q2))
  have hxV := hx.on qq
  have f2 := cK qq hcK hbk
  have hbk2 := Nat.lt_of_lt_of_le hbk qq.size
  clear haD hxD h3
  go_wp2_with fail
  refine (of_N _ j hjB).mono ?_
  rintro e v3 ⟨A3, n3, c3, rfl, h5, q3⟩
  replace hxV := hxV.on q3
  replace h4 := h4.on q3
  replace f2 := cK q3 f2 hbk2
  replace hbk2 := lK q3 hbk2
  replace qq := bK qq q3
  clear q3
  go_wp2_with fail
  refine (mul_N hxV h5 (by omega) (by omega)).mono ?_
  rintro e v4 ⟨A4, n4, c4, rfl, h6, q4⟩
  replace h4 := h4.on q4
  replace f2 := cK q4 f2 hbk2
  replace hbk2 := lK q4 hbk2
  replace qq := bK qq q4
  clear q4 h5
  go_wp2_with fail
  refine (add_N h6 h4 (by omega) (by omega)).mono ?_
  rintro e v5 ⟨A5, n5, c5, rfl, h7, q5⟩
  replace f2 := cK q5 f2 hbk2
  replace hbk2 := lK q5 hbk2
  replace qq := bK qq q5
  clear q5 h6 h4
  go_wp2_with fail
  refine (of_N _ k hkB).mono ?_
  rintro e v6 ⟨A6, n6, c6, rfl, h8, q6⟩
  replace h7 := h7.on q6
  replace qq := bK qq q6
  clear q6
  go_wp2_with fail
  refine (quot_N h7 h8 ls (by omega) hk0).mono ?_
  rintro e v7 ⟨A7, n7, c7, rfl, h9, q7⟩
  go_wp2_with fail
  go_ret
  exact ⟨_, _, _, rfl, h9, qq.trans (q7.mono qq.size)⟩

end Go.Proofs.YtmaolhajeoigpaaGreat

/-
  The contracts of root's guesses that go down, and of rootOf.
-/
namespace Go.Proofs.YtmaolhajeoigpaaGreat
set_option maxRecDepth 100000
open Go.RowKit

theorem sum_len {a x k : Nat} (la : (limbs a).length ≤ 100) (lx : (limbs x).length ≤ 110) (hk : k ≤ 16) (p : Nat) : (limbs (x * (k - 1) + a / p)).length ≤ 300 := by
  have h1 : (limbs (k - 1)).length ≤ 1 := limbs_length_le (by rw [Nat.pow_one]; unfold B64; omega)
  have h2 := limbs_length_mul lx h1
  have h3 : (limbs (a / p)).length ≤ 111 := Nat.le_trans (limbs_length_mono (Nat.div_le_self _ _)) (by omega)
  have h4 := limbs_length_add (k := 111) h2 h3
  omega

theorem iroot_ne {k a : Nat} (h1 : 1 ≤ k) (ha : a ≠ 0) : iroot k a ≠ 0 := by
  have := (le_iroot (k := k) (x := a) (r := 1) (by omega)).2 (by rw [Nat.one_pow]; omega)
  omega

set_option maxHeartbeats 4000000 in
theorem down_N {w : World} {A X : Option Addr} {n c m d a x0 k ba bk : Nat} (hcA : w.cell? ⟨ba, 0, none⟩ = some (.slice A n c)) (hcK : w.cell? ⟨bk, 0, none⟩ = some (.int .i64 (k : Int))) (hba : ba < w.heap.size) (hbk : bk < w.heap.size) (ha : Num w A n c a) (hx : Num w X m d x0) (la : (limbs a).length ≤ 100) (lx : (limbs x0).length ≤ 110) (lp : (limbs (x0 ^ (k - 1))).length ≤ 300) (h1 : 1 ≤ k) (hk : k ≤ 16) (ha0 : a ≠ 0) (hx0 : iroot k a ≤ x0) :
    Calls Tryz.prog 109 #[.slice X m d, .func (.func 106) #[] #[.pointer (some ⟨ba, 0, none⟩), .pointer (some ⟨bk, 0, none⟩)]] w (GotN w (iroot k a)) := by
  have hr0 := iroot_ne h1 ha0
  have hk0 : k ≠ 0 := by omega
  go_enter Tryz.func109, Tryz.ntmps109
  go_wp2_with fail
  go_loopg [0] x0 (fun g v wr => ∃ (X' : Option Addr) (m' d' : Nat), v = .slice X' m' d' ∧ Num wr X' m' d' g ∧ iroot k a ≤ g ∧ g ≤ x0 ∧ Below w.heap.size w wr)
  case atStart => exact ⟨X, m, d, rfl, hx, hx0, Nat.le_refl _, Below.refl _ _⟩
  case round =>
    obtain ⟨X', m', d', rfl, hN, hge, hle, hB⟩ := hrel
    have hg0 : gk ≠ 0 := by omega
    have lg : (limbs gk).length ≤ 110 := Nat.le_trans (limbs_length_mono hle) lx
    have lgp : (limbs (gk ^ (k - 1))).length ≤ 300 := Nat.le_trans (limbs_length_mono (pow_le _ hle)) lp
    have hn1 := newton_ge h1 (iroot_pow a hk0) hg0
    have lnn : (limbs (newton a k gk)).length ≤ 400 := by
      unfold newton
      exact Nat.le_trans (limbs_length_mono (Nat.div_le_self _ _)) (Nat.le_trans (sum_len la lg hk _) (by omega))
    have hcall := Lib.hid (newt_N (cK hB hcA hba) (cK hB hcK hbk) (Nat.lt_of_lt_of_le hba hB.size) (Nat.lt_of_lt_of_le hbk hB.size) (ha.on hB) hN (by omega) (by omega) lgp h1 hk hg0 (sum_len la lg hk _))
    clear lgp
    rcases Nat.lt_or_ge a (gk ^ k) with hlt | hge2
    · have hl2 := newton_lt h1 hg0 hlt
      obtain ⟨y, hy⟩ : ∃ y, newton a k gk = y := ⟨_, rfl⟩
      rw [hy] at hcall hn1 hl2 lnn
      clear hy hlt
      go_wp2_with fail
      refine hcall.out.mono ?_
      rintro e w1 ⟨A1, n1, c1, rfl, h3, b1⟩
      have hN1 := hN.on b1
      go_wp2_with fail
      refine (cmp_N h3 hN1 (by omega) (by omega)).mono ?_
      rintro e w2 ⟨rfl, b2⟩
      rw [cmpN_lt hl2]
      go_wp2_with fail
      go_roundg y
      case rel => exact ⟨_, _, _, rfl, h3.on b2, hn1, by omega, hB.trans ((b1.trans (b2.mono b1.size)).mono hB.size)⟩
      case measure => exact hl2
    · have hl2 := newton_end h1 hg0 hge2
      have he : iroot k a = gk := by have := (le_iroot hk0).2 hge2; omega
      rw [he]
      have hz : cmpN (newton a k gk) gk = 0 ∨ cmpN (newton a k gk) gk = 1 := by
        rcases Nat.lt_or_ge gk (newton a k gk) with h | h
        · exact .inr (cmpN_gt h)
        · exact .inl (cmpN_zero.2 (by omega))
      obtain ⟨y, hy⟩ : ∃ y, newton a k gk = y := ⟨_, rfl⟩
      rw [hy] at hcall hn1 hl2 lnn hz
      obtain ⟨z, hzz⟩ : ∃ z, cmpN y gk = z := ⟨_, rfl⟩
      rw [hzz] at hz
      have HZ := Lib.hid hzz
      have HC := Lib.hid hz
      clear hy hge2 he hz hzz
      go_wp2_with fail
      refine hcall.out.mono ?_
      rintro e w1 ⟨A1, n1, c1, rfl, h3, b1⟩
      have hN1 := hN.on b1
      go_wp2_with fail
      refine (cmp_N h3 hN1 (by omega) (by omega)).mono ?_
      rintro e w2 ⟨rfl, b2⟩
      rw [HZ.out]
      rcases HC.out with rfl | rfl
      all_goals
        go_wp2_with fail
        go_ret
        exact ⟨_, _, _, rfl, hN1.on b2, hB.trans ((b1.trans (b2.mono b1.size)).mono hB.size)⟩

end Go.Proofs.YtmaolhajeoigpaaGreat

/-
  The contract of rootOf.
-/
namespace Go.Proofs.YtmaolhajeoigpaaGreat
set_option maxRecDepth 100000
open Go.RowKit

theorem iroot_zero {k : Nat} (hk : k ≠ 0) : iroot k 0 = 0 := iroot_eq hk (by rw [Nat.zero_pow (by omega)]; omega) (by rw [Nat.zero_add, Nat.one_pow]; omega)

set_option maxHeartbeats 4000000 in
theorem rootof_N {w : World} {A : Option Addr} {n c x k : Nat} (ha : Num w A n c x) (hx : (limbs x).length ≤ 100) (h1 : 1 ≤ k) (hk : k ≤ 16) : Calls Tryz.prog 81 #[.slice A n c, .int .i64 (k : Int)] w (GotN w (iroot k x)) := by
  have hk0 : k ≠ 0 := by omega
  obtain ⟨W, hW⟩ : ∃ W, (w.alloc (.cells #[.slice A n c] 47)).alloc (.cells #[.int .i64 (k : Int)] 3) = W := ⟨_, rfl⟩
  obtain ⟨t, ht⟩ : ∃ t, w.heap.size = t := ⟨_, rfl⟩
  have hBW : Below t w W := by
    rw [← hW, ← ht]
    exact ((Below.refl _ w).alloc (Nat.le_refl _) _).alloc (by simp) _
  have hS : W.heap.size = t + 2 := by rw [← hW, ← ht]; simp
  have c1 : W.cell? ⟨t, 0, none⟩ = some (.slice A n c) := by rw [← hW, ← ht]; simp [go_sem]
  have c2 : W.cell? ⟨t + 1, 0, none⟩ = some (.int .i64 (k : Int)) := by rw [← hW, ← ht]; simp [go_sem]
  have f1 : W.frozen? ⟨t, 0, none⟩ = false := by rw [← hW, ← ht]; simp [go_sem]
  have haW := ha.on (by rw [ht]; exact hBW)
  have hshr0 : Calls Tryz.prog 105 #[.slice A n c, .int .i64 0] W (GotP W (x / 2 ^ 0) 0) := dshr_N (k := 0) haW (by omega) (by omega)
  have hshr := Lib.hid hshr0
  have HT := Lib.hid ht
  have HS := Lib.hid hS
  unfold GotN
  go_enter Tryz.func81, Tryz.ntmps81
  clear hS hshr0
  go_wp2_with fail
  clear hW ht
  refine hshr.out.mono ?_
  rintro e w1 ⟨A1, n1, m1, rfl, h3, b1⟩
  rw [Nat.pow_zero, Nat.div_one] at h3
  have d1 := (b1.cell (p := ⟨t, 0, none⟩) (by show t < _; rw [HS.out]; omega)).trans c1
  have d2 := (b1.cell (p := ⟨t + 1, 0, none⟩) (by show t + 1 < _; rw [HS.out]; omega)).trans c2
  have g1 := (b1.frozen (p := ⟨t, 0, none⟩) (by show t < _; rw [HS.out]; omega)).trans f1
  have hs1 : t + 2 ≤ w1.heap.size := by have := b1.size; rw [HS.out] at this; exact this
  have hB1 : Below t w w1 := hBW.trans (b1.mono (by rw [HS.out]; omega))
  clear c1 c2 f1 hBW b1 hshr haW
  have hl3 := h3.len
  by_cases hx0 : x = 0
  · subst hx0
    rw [limbs_zero] at hl3
    simp at hl3
    subst hl3
    go_wp2_with fail
    go_ret
    exact ⟨none, 0, 0, rfl, by rw [iroot_zero hk0]; exact num_none _ _ _, by rw [HT.out]; exact hB1.setCell (Nat.le_refl _) _⟩
  · have hn0 : ((n1 : Int) == 0) = false := by have := limbs_ne_nil hx0; simp; omega
    obtain ⟨w2, hw2⟩ : ∃ w2, w1.setCell ⟨t, 0, none⟩ (.slice A1 n1 m1) = w2 := ⟨_, rfl⟩
    have h3' : Num w2 A1 n1 m1 x := by rw [← hw2]; exact h3.set_other d1 (fun _ _ e => by cases e)
    have e1 : w2.cell? ⟨t, 0, none⟩ = some (.slice A1 n1 m1) := by rw [← hw2]; exact World.cell?_setCell_same _ _ _ d1
    have e2 : w2.cell? ⟨t + 1, 0, none⟩ = some (.int .i64 (k : Int)) := by rw [← hw2, World.cell?_setCell_other (h := fun e => by injection e with e3; omega)]; exact d2
    have hs2 : t + 2 ≤ w2.heap.size := by rw [← hw2]; simp; exact hs1
    have hB2 : Below t w w2 := by rw [← hw2]; exact hB1.setCell (Nat.le_refl _) _
    obtain ⟨q, hq⟩ : ∃ q, (blen x + k - 1) / k = q := ⟨_, rfl⟩
    have hbl := blen_len hx
    have hqk : q * k ≤ 6400 + 15 := by rw [← hq]; exact above_bits h1 hk (by omega)
    have hq1 : q ≤ 6415 := Nat.le_trans (Nat.le_mul_of_pos_right q (by omega)) hqk
    have hqp : q * (k - 1) ≤ 6415 := Nat.le_trans (Nat.mul_le_mul_left q (by omega)) hqk
    have lq : (limbs (2 ^ q)).length ≤ 110 := Nat.le_trans (limbs_two_pow (m := 110) (by omega)) (Nat.le_refl _)
    have lp : (limbs ((2 ^ q) ^ (k - 1))).length ≤ 300 := by rw [← Nat.pow_mul]; exact limbs_two_pow (m := 300) (by omega)
    have hge : iroot k x ≤ 2 ^ q := by
      rcases Nat.lt_or_ge (2 ^ q) (iroot k x) with h | h
      · have h5 := above_root (a := x) h1 (lt_blen x)
        rw [hq] at h5
        have h6 := pow_lt hk0 h
        have h7 := iroot_pow x hk0
        omega
      · exact h
    have hab : Calls Tryz.prog 110 #[.slice A1 n1 m1, .int .i64 (k : Int)] w2 (GotN w2 (2 ^ q)) := by rw [← hq]; exact above_N h3' (by omega) h1 hk
    have HAB := Lib.hid hab
    have HQ := Lib.hid hq
    clear hl3 hq h3 d2 hbl hqk hqp hab
    go_wp2_with fail
    clear d1
    refine HAB.out.mono ?_
    rintro e w3 ⟨A3, n3, c3, rfl, h4, b3⟩
    have hd := down_N ((b3.cell (p := ⟨t, 0, none⟩) (by show t < _; omega)).trans e1) ((b3.cell (p := ⟨t + 1, 0, none⟩) (by show t + 1 < _; omega)).trans e2) (Nat.lt_of_lt_of_le (show t < _ by omega) b3.size) (Nat.lt_of_lt_of_le (show t + 1 < _ by omega) b3.size) (h3'.on b3) h4 hx lq lp h1 hk hx0 hge
    have HD := Lib.hid hd
    have hB3 := hB2.trans (b3.mono (by omega))
    clear hd e1 e2 hw2
    go_wp2_with fail
    refine HD.out.mono ?_
    rintro e w4 ⟨A4, n4, c4, rfl, h5, b4⟩
    go_wp2_with fail
    go_ret
    exact ⟨_, _, _, rfl, h5, by rw [HT.out]; exact hB3.trans (b4.mono (by have := b3.size; omega))⟩

end Go.Proofs.YtmaolhajeoigpaaGreat

/-
  The contracts of package root in one style, over numbers.
-/
namespace Go.Proofs.YtmaolhajeoigpaaGreat
set_option maxRecDepth 100000
set_option maxHeartbeats 1000000
open Go.RowKit

theorem root_N {w : World} {A : Option Addr} {n c x k : Nat} (ha : Num w A n c x) (hx : (limbs x).length ≤ 100) (h1 : 1 ≤ k) (hk : k ≤ 16) : Calls Tryz.prog 44 #[.slice A n c, .int .i64 (k : Int)] w (GotP w (iroot k x) 0) := by
  go_enter Tryz.func44, Tryz.ntmps44
  go_wp2_with fail
  refine (isExp_yes _ k h1 hk).mono ?_
  rintro e w' ⟨rfl, rfl⟩
  go_wp2_with fail
  refine (rootof_N ha hx h1 hk).mono ?_
  rintro e w1 ⟨A1, n1, c1, rfl, hr, b1⟩
  go_wp2_with fail
  go_ret2
  exact ⟨_, _, _, rfl, hr, b1⟩
theorem root_no (w : World) (A : Option Addr) (n c : Nat) (k : Int) (hk : k < 1 ∨ 16 < k) : Calls Tryz.prog 44 #[.slice A n c, .int .i64 k] w (GotV w (.tuple #[.slice none 0 0, .int .i64 1])) := by
  have HK := Lib.hid hk
  clear hk
  go_enter Tryz.func44, Tryz.ntmps44
  go_wp2_with fail
  refine (isExp_no _ k HK.out).mono ?_
  rintro e w' ⟨rfl, rfl⟩
  go_wp2_with fail
  go_ret2
  exact ⟨rfl, Below.refl _ _⟩

theorem uroot_lt {k x : Nat} (h : iroot k x ^ k ≠ x) : uroot k x = iroot k x + 1 := by unfold uroot; rw [if_neg h]
theorem uroot_eq {k x : Nat} (h : iroot k x ^ k = x) : uroot k x = iroot k x := by unfold uroot; rw [if_pos h]

theorem pow_N {w : World} {A : Option Addr} {n c x k : Nat} (ha : Num w A n c x) (hx : (limbs x).length ≤ 100) (h1 : 1 ≤ k) (hk : k ≤ 16) : Calls Tryz.prog 47 #[.slice A n c, .int .i64 (k : Int)] w (GotP w (x ^ k) 0) := by
  go_enter Tryz.func47, Tryz.ntmps47
  go_wp2_with fail
  refine (isExp_yes _ k h1 hk).mono ?_
  rintro e w' ⟨rfl, rfl⟩
  go_wp2_with fail
  refine (tpow_N ha (by omega) hk).mono ?_
  rintro e w1 ⟨A1, n1, c1, rfl, hr, b1⟩
  go_wp2_with fail
  go_ret2
  exact ⟨_, _, _, rfl, hr, b1⟩
theorem pow_no (w : World) (A : Option Addr) (n c : Nat) (k : Int) (hk : k < 1 ∨ 16 < k) : Calls Tryz.prog 47 #[.slice A n c, .int .i64 k] w (GotV w (.tuple #[.slice none 0 0, .int .i64 1])) := by
  have HK := Lib.hid hk
  clear hk
  go_enter Tryz.func47, Tryz.ntmps47
  go_wp2_with fail
  refine (isExp_no _ k HK.out).mono ?_
  rintro e w' ⟨rfl, rfl⟩
  go_wp2_with fail
  go_ret2
  exact ⟨rfl, Below.refl _ _⟩

end Go.Proofs.YtmaolhajeoigpaaGreat
