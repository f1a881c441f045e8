/-
  Several texts in one: JSa.
-/
import Derived.Test.YtmaolhajeoigpaaGreatA7
import Derived.Test.YtmaolhajeoigpaaGreatA5
import Derived.Test.YtmaolhajeoigpaaGreatA3

/-
  The contracts of the landed sched: isStep, Right.
-/
namespace Go.Proofs.YtmaolhajeoigpaaGreat
set_option maxRecDepth 100000
set_option maxHeartbeats 8000000
open Go.RowKit
set_option linter.unusedVariables false
set_option linter.unusedSimpArgs false

theorem sStep_true {w : World} {n : Int} (h : 1 ≤ n ∧ n ≤ 1000000) :
    Calls Tryz.prog 9 #[.int .i64 n] w (GotV w (.bool true)) := by
  have cc := Below.refl w.heap.size w
  have t0 : decide (1 ≤ n) = true := decide_eq_true h.1
  have t1 : decide (n ≤ 1000000) = true := decide_eq_true h.2
  clear h
  go_enter Tryz.func9, Tryz.ntmps9
  go_wp2_with fail
  go_ret
  exact ⟨rfl, cc⟩

theorem sStep_false {w : World} {n : Int} (h : ¬ (1 ≤ n ∧ n ≤ 1000000)) :
    Calls Tryz.prog 9 #[.int .i64 n] w (GotV w (.bool false)) := by
  have cc := Below.refl w.heap.size w
  by_cases q : 1 ≤ n
  · have t0 : decide (1 ≤ n) = true := decide_eq_true q
    have t1 : decide (n ≤ 1000000) = false := decide_eq_false (fun e => h ⟨q, e⟩)
    clear h q
    go_enter Tryz.func9, Tryz.ntmps9
    go_wp2_with fail
    go_ret
    exact ⟨rfl, cc⟩
  · have t0 : decide (1 ≤ n) = false := decide_eq_false q
    clear h q
    go_enter Tryz.func9, Tryz.ntmps9
    go_wp2_with fail
    go_ret
    exact ⟨rfl, cc⟩

theorem sRight_n0 {w : World} {kd ba ra en wa ev la po f : Int} (q0 : f < 0) :
    Calls Tryz.prog 7 #[.agg #[.int .i64 kd, .int .i64 ba, .int .i64 ra, .int .i64 en, .int .i64 wa, .int .i64 ev, .int .i64 la, .int .i64 po], .int .i64 f] w (GotV w (.bool false)) := by
  have t0 : decide (f < 0) = true := decide_eq_true (by omega)
  clear q0
  have cc := Below.refl w.heap.size w
  go_enter Tryz.func7, Tryz.ntmps7
  go_wp2_with fail
  generalize hv_ : w.alloc (.cells #[.int .i64 kd, .int .i64 ba, .int .i64 ra, .int .i64 en, .int .i64 wa, .int .i64 ev, .int .i64 la, .int .i64 po] 23) = v1
  have bA : Below w.heap.size w v1 := by rw [← hv_]; exact ((Below.refl _ w).alloc (by simp) _)
  replace cc := bK cc bA
  clear bA
  have sc0 : v1.cell? ⟨w.heap.size, 0, none⟩ = some (.int .i64 kd) := by simp [← hv_, go_sem]
  have sc1 : v1.cell? ⟨w.heap.size, 1, none⟩ = some (.int .i64 ba) := by simp [← hv_, go_sem]
  have sc2 : v1.cell? ⟨w.heap.size, 2, none⟩ = some (.int .i64 ra) := by simp [← hv_, go_sem]
  have sc3 : v1.cell? ⟨w.heap.size, 3, none⟩ = some (.int .i64 en) := by simp [← hv_, go_sem]
  have sc4 : v1.cell? ⟨w.heap.size, 4, none⟩ = some (.int .i64 wa) := by simp [← hv_, go_sem]
  have sc5 : v1.cell? ⟨w.heap.size, 5, none⟩ = some (.int .i64 ev) := by simp [← hv_, go_sem]
  have sc6 : v1.cell? ⟨w.heap.size, 6, none⟩ = some (.int .i64 la) := by simp [← hv_, go_sem]
  have sc7 : v1.cell? ⟨w.heap.size, 7, none⟩ = some (.int .i64 po) := by simp [← hv_, go_sem]
  have scl : w.heap.size < v1.heap.size := by simp [← hv_] <;> omega
  clear hv_
  go_wp2_with fail
  go_ret
  exact ⟨rfl, cc⟩

theorem sRight_n1 {w : World} {kd ba ra en wa ev la po f : Int} (q0 : ¬ f < 0) (q1 : 40 < f) :
    Calls Tryz.prog 7 #[.agg #[.int .i64 kd, .int .i64 ba, .int .i64 ra, .int .i64 en, .int .i64 wa, .int .i64 ev, .int .i64 la, .int .i64 po], .int .i64 f] w (GotV w (.bool false)) := by
  have t0 : decide (f < 0) = false := decide_eq_false (by omega)
  have t1 : decide (40 < f) = true := decide_eq_true (by omega)
  clear q0 q1
  have cc := Below.refl w.heap.size w
  go_enter Tryz.func7, Tryz.ntmps7
  go_wp2_with fail
  generalize hv_ : w.alloc (.cells #[.int .i64 kd, .int .i64 ba, .int .i64 ra, .int .i64 en, .int .i64 wa, .int .i64 ev, .int .i64 la, .int .i64 po] 23) = v1
  have bA : Below w.heap.size w v1 := by rw [← hv_]; exact ((Below.refl _ w).alloc (by simp) _)
  replace cc := bK cc bA
  clear bA
  have sc0 : v1.cell? ⟨w.heap.size, 0, none⟩ = some (.int .i64 kd) := by simp [← hv_, go_sem]
  have sc1 : v1.cell? ⟨w.heap.size, 1, none⟩ = some (.int .i64 ba) := by simp [← hv_, go_sem]
  have sc2 : v1.cell? ⟨w.heap.size, 2, none⟩ = some (.int .i64 ra) := by simp [← hv_, go_sem]
  have sc3 : v1.cell? ⟨w.heap.size, 3, none⟩ = some (.int .i64 en) := by simp [← hv_, go_sem]
  have sc4 : v1.cell? ⟨w.heap.size, 4, none⟩ = some (.int .i64 wa) := by simp [← hv_, go_sem]
  have sc5 : v1.cell? ⟨w.heap.size, 5, none⟩ = some (.int .i64 ev) := by simp [← hv_, go_sem]
  have sc6 : v1.cell? ⟨w.heap.size, 6, none⟩ = some (.int .i64 la) := by simp [← hv_, go_sem]
  have sc7 : v1.cell? ⟨w.heap.size, 7, none⟩ = some (.int .i64 po) := by simp [← hv_, go_sem]
  have scl : w.heap.size < v1.heap.size := by simp [← hv_] <;> omega
  clear hv_
  go_wp2_with fail
  go_ret
  exact ⟨rfl, cc⟩

theorem sRight_n2 {w : World} {kd ba ra en wa ev la po f : Int} (q0 : ¬ f < 0) (q1 : ¬ 40 < f) (q2 : ba < 0) :
    Calls Tryz.prog 7 #[.agg #[.int .i64 kd, .int .i64 ba, .int .i64 ra, .int .i64 en, .int .i64 wa, .int .i64 ev, .int .i64 la, .int .i64 po], .int .i64 f] w (GotV w (.bool false)) := by
  have t0 : decide (f < 0) = false := decide_eq_false (by omega)
  have t1 : decide (40 < f) = false := decide_eq_false (by omega)
  have t2 : decide (ba < 0) = true := decide_eq_true (by omega)
  clear q0 q1 q2
  have cc := Below.refl w.heap.size w
  go_enter Tryz.func7, Tryz.ntmps7
  go_wp2_with fail
  generalize hv_ : w.alloc (.cells #[.int .i64 kd, .int .i64 ba, .int .i64 ra, .int .i64 en, .int .i64 wa, .int .i64 ev, .int .i64 la, .int .i64 po] 23) = v1
  have bA : Below w.heap.size w v1 := by rw [← hv_]; exact ((Below.refl _ w).alloc (by simp) _)
  replace cc := bK cc bA
  clear bA
  have sc0 : v1.cell? ⟨w.heap.size, 0, none⟩ = some (.int .i64 kd) := by simp [← hv_, go_sem]
  have sc1 : v1.cell? ⟨w.heap.size, 1, none⟩ = some (.int .i64 ba) := by simp [← hv_, go_sem]
  have sc2 : v1.cell? ⟨w.heap.size, 2, none⟩ = some (.int .i64 ra) := by simp [← hv_, go_sem]
  have sc3 : v1.cell? ⟨w.heap.size, 3, none⟩ = some (.int .i64 en) := by simp [← hv_, go_sem]
  have sc4 : v1.cell? ⟨w.heap.size, 4, none⟩ = some (.int .i64 wa) := by simp [← hv_, go_sem]
  have sc5 : v1.cell? ⟨w.heap.size, 5, none⟩ = some (.int .i64 ev) := by simp [← hv_, go_sem]
  have sc6 : v1.cell? ⟨w.heap.size, 6, none⟩ = some (.int .i64 la) := by simp [← hv_, go_sem]
  have sc7 : v1.cell? ⟨w.heap.size, 7, none⟩ = some (.int .i64 po) := by simp [← hv_, go_sem]
  have scl : w.heap.size < v1.heap.size := by simp [← hv_] <;> omega
  clear hv_
  go_wp2_with fail
  go_ret
  exact ⟨rfl, cc⟩

theorem sRight_n3 {w : World} {kd ba ra en wa ev la po f : Int} (q0 : ¬ f < 0) (q1 : ¬ 40 < f) (q2 : ¬ ba < 0) (q3 : wa < 0) :
    Calls Tryz.prog 7 #[.agg #[.int .i64 kd, .int .i64 ba, .int .i64 ra, .int .i64 en, .int .i64 wa, .int .i64 ev, .int .i64 la, .int .i64 po], .int .i64 f] w (GotV w (.bool false)) := by
  have t0 : decide (f < 0) = false := decide_eq_false (by omega)
  have t1 : decide (40 < f) = false := decide_eq_false (by omega)
  have t2 : decide (ba < 0) = false := decide_eq_false (by omega)
  have t3 : decide (wa < 0) = true := decide_eq_true (by omega)
  clear q0 q1 q2 q3
  have cc := Below.refl w.heap.size w
  go_enter Tryz.func7, Tryz.ntmps7
  go_wp2_with fail
  generalize hv_ : w.alloc (.cells #[.int .i64 kd, .int .i64 ba, .int .i64 ra, .int .i64 en, .int .i64 wa, .int .i64 ev, .int .i64 la, .int .i64 po] 23) = v1
  have bA : Below w.heap.size w v1 := by rw [← hv_]; exact ((Below.refl _ w).alloc (by simp) _)
  replace cc := bK cc bA
  clear bA
  have sc0 : v1.cell? ⟨w.heap.size, 0, none⟩ = some (.int .i64 kd) := by simp [← hv_, go_sem]
  have sc1 : v1.cell? ⟨w.heap.size, 1, none⟩ = some (.int .i64 ba) := by simp [← hv_, go_sem]
  have sc2 : v1.cell? ⟨w.heap.size, 2, none⟩ = some (.int .i64 ra) := by simp [← hv_, go_sem]
  have sc3 : v1.cell? ⟨w.heap.size, 3, none⟩ = some (.int .i64 en) := by simp [← hv_, go_sem]
  have sc4 : v1.cell? ⟨w.heap.size, 4, none⟩ = some (.int .i64 wa) := by simp [← hv_, go_sem]
  have sc5 : v1.cell? ⟨w.heap.size, 5, none⟩ = some (.int .i64 ev) := by simp [← hv_, go_sem]
  have sc6 : v1.cell? ⟨w.heap.size, 6, none⟩ = some (.int .i64 la) := by simp [← hv_, go_sem]
  have sc7 : v1.cell? ⟨w.heap.size, 7, none⟩ = some (.int .i64 po) := by simp [← hv_, go_sem]
  have scl : w.heap.size < v1.heap.size := by simp [← hv_] <;> omega
  clear hv_
  go_wp2_with fail
  go_ret
  exact ⟨rfl, cc⟩

theorem sRight_n4 {w : World} {kd ba ra en wa ev la po f : Int} (q0 : ¬ f < 0) (q1 : ¬ 40 < f) (q2 : ¬ ba < 0) (q3 : ¬ wa < 0) (q4 : 1000000 < wa) :
    Calls Tryz.prog 7 #[.agg #[.int .i64 kd, .int .i64 ba, .int .i64 ra, .int .i64 en, .int .i64 wa, .int .i64 ev, .int .i64 la, .int .i64 po], .int .i64 f] w (GotV w (.bool false)) := by
  have t0 : decide (f < 0) = false := decide_eq_false (by omega)
  have t1 : decide (40 < f) = false := decide_eq_false (by omega)
  have t2 : decide (ba < 0) = false := decide_eq_false (by omega)
  have t3 : decide (wa < 0) = false := decide_eq_false (by omega)
  have t4 : decide (1000000 < wa) = true := decide_eq_true (by omega)
  clear q0 q1 q2 q3 q4
  have cc := Below.refl w.heap.size w
  go_enter Tryz.func7, Tryz.ntmps7
  go_wp2_with fail
  generalize hv_ : w.alloc (.cells #[.int .i64 kd, .int .i64 ba, .int .i64 ra, .int .i64 en, .int .i64 wa, .int .i64 ev, .int .i64 la, .int .i64 po] 23) = v1
  have bA : Below w.heap.size w v1 := by rw [← hv_]; exact ((Below.refl _ w).alloc (by simp) _)
  replace cc := bK cc bA
  clear bA
  have sc0 : v1.cell? ⟨w.heap.size, 0, none⟩ = some (.int .i64 kd) := by simp [← hv_, go_sem]
  have sc1 : v1.cell? ⟨w.heap.size, 1, none⟩ = some (.int .i64 ba) := by simp [← hv_, go_sem]
  have sc2 : v1.cell? ⟨w.heap.size, 2, none⟩ = some (.int .i64 ra) := by simp [← hv_, go_sem]
  have sc3 : v1.cell? ⟨w.heap.size, 3, none⟩ = some (.int .i64 en) := by simp [← hv_, go_sem]
  have sc4 : v1.cell? ⟨w.heap.size, 4, none⟩ = some (.int .i64 wa) := by simp [← hv_, go_sem]
  have sc5 : v1.cell? ⟨w.heap.size, 5, none⟩ = some (.int .i64 ev) := by simp [← hv_, go_sem]
  have sc6 : v1.cell? ⟨w.heap.size, 6, none⟩ = some (.int .i64 la) := by simp [← hv_, go_sem]
  have sc7 : v1.cell? ⟨w.heap.size, 7, none⟩ = some (.int .i64 po) := by simp [← hv_, go_sem]
  have scl : w.heap.size < v1.heap.size := by simp [← hv_] <;> omega
  clear hv_
  go_wp2_with fail
  go_ret
  exact ⟨rfl, cc⟩

theorem sRight_k4 {w : World} {kd ba ra en wa ev la po f : Int} (q0 : ¬ f < 0) (q1 : ¬ 40 < f) (q2 : ¬ ba < 0) (q3 : ¬ wa < 0) (q4 : ¬ 1000000 < wa) (e : kd < 0 ∨ 3 < kd) :
    Calls Tryz.prog 7 #[.agg #[.int .i64 kd, .int .i64 ba, .int .i64 ra, .int .i64 en, .int .i64 wa, .int .i64 ev, .int .i64 la, .int .i64 po], .int .i64 f] w (GotV w (.bool false)) := by
  have t0 : decide (f < 0) = false := decide_eq_false (by omega)
  have t1 : decide (40 < f) = false := decide_eq_false (by omega)
  have t2 : decide (ba < 0) = false := decide_eq_false (by omega)
  have t3 : decide (wa < 0) = false := decide_eq_false (by omega)
  have t4 : decide (1000000 < wa) = false := decide_eq_false (by omega)
  have s0 : ((kd : Int) == 0) = false := beq_eq_false_iff_ne.2 (by omega)
  have s1 : ((kd : Int) == 1) = false := beq_eq_false_iff_ne.2 (by omega)
  have s2 : ((kd : Int) == 2) = false := beq_eq_false_iff_ne.2 (by omega)
  have s3 : ((kd : Int) == 3) = false := beq_eq_false_iff_ne.2 (by omega)
  clear q0 q1 q2 q3 q4 e
  have cc := Below.refl w.heap.size w
  go_enter Tryz.func7, Tryz.ntmps7
  go_wp2_with fail
  generalize hv_ : w.alloc (.cells #[.int .i64 kd, .int .i64 ba, .int .i64 ra, .int .i64 en, .int .i64 wa, .int .i64 ev, .int .i64 la, .int .i64 po] 23) = v1
  have bA : Below w.heap.size w v1 := by rw [← hv_]; exact ((Below.refl _ w).alloc (by simp) _)
  replace cc := bK cc bA
  clear bA
  have sc0 : v1.cell? ⟨w.heap.size, 0, none⟩ = some (.int .i64 kd) := by simp [← hv_, go_sem]
  have sc1 : v1.cell? ⟨w.heap.size, 1, none⟩ = some (.int .i64 ba) := by simp [← hv_, go_sem]
  have sc2 : v1.cell? ⟨w.heap.size, 2, none⟩ = some (.int .i64 ra) := by simp [← hv_, go_sem]
  have sc3 : v1.cell? ⟨w.heap.size, 3, none⟩ = some (.int .i64 en) := by simp [← hv_, go_sem]
  have sc4 : v1.cell? ⟨w.heap.size, 4, none⟩ = some (.int .i64 wa) := by simp [← hv_, go_sem]
  have sc5 : v1.cell? ⟨w.heap.size, 5, none⟩ = some (.int .i64 ev) := by simp [← hv_, go_sem]
  have sc6 : v1.cell? ⟨w.heap.size, 6, none⟩ = some (.int .i64 la) := by simp [← hv_, go_sem]
  have sc7 : v1.cell? ⟨w.heap.size, 7, none⟩ = some (.int .i64 po) := by simp [← hv_, go_sem]
  have scl : w.heap.size < v1.heap.size := by simp [← hv_] <;> omega
  clear hv_
  go_wp2_with fail
  go_ret
  exact ⟨rfl, cc⟩

theorem sRight_k0 {w : World} {kd ba ra en wa ev la po f : Int} (q0 : ¬ f < 0) (q1 : ¬ 40 < f) (q2 : ¬ ba < 0) (q3 : ¬ wa < 0) (q4 : ¬ 1000000 < wa) (e : kd = 0) :
    Calls Tryz.prog 7 #[.agg #[.int .i64 kd, .int .i64 ba, .int .i64 ra, .int .i64 en, .int .i64 wa, .int .i64 ev, .int .i64 la, .int .i64 po], .int .i64 f] w (GotV w (.bool true)) := by
  have t0 : decide (f < 0) = false := decide_eq_false (by omega)
  have t1 : decide (40 < f) = false := decide_eq_false (by omega)
  have t2 : decide (ba < 0) = false := decide_eq_false (by omega)
  have t3 : decide (wa < 0) = false := decide_eq_false (by omega)
  have t4 : decide (1000000 < wa) = false := decide_eq_false (by omega)
  have s0 : ((kd : Int) == 0) = true := beq_iff_eq.2 (by omega)
  clear q0 q1 q2 q3 q4 e
  have cc := Below.refl w.heap.size w
  go_enter Tryz.func7, Tryz.ntmps7
  go_wp2_with fail
  generalize hv_ : w.alloc (.cells #[.int .i64 kd, .int .i64 ba, .int .i64 ra, .int .i64 en, .int .i64 wa, .int .i64 ev, .int .i64 la, .int .i64 po] 23) = v1
  have bA : Below w.heap.size w v1 := by rw [← hv_]; exact ((Below.refl _ w).alloc (by simp) _)
  replace cc := bK cc bA
  clear bA
  have sc0 : v1.cell? ⟨w.heap.size, 0, none⟩ = some (.int .i64 kd) := by simp [← hv_, go_sem]
  have sc1 : v1.cell? ⟨w.heap.size, 1, none⟩ = some (.int .i64 ba) := by simp [← hv_, go_sem]
  have sc2 : v1.cell? ⟨w.heap.size, 2, none⟩ = some (.int .i64 ra) := by simp [← hv_, go_sem]
  have sc3 : v1.cell? ⟨w.heap.size, 3, none⟩ = some (.int .i64 en) := by simp [← hv_, go_sem]
  have sc4 : v1.cell? ⟨w.heap.size, 4, none⟩ = some (.int .i64 wa) := by simp [← hv_, go_sem]
  have sc5 : v1.cell? ⟨w.heap.size, 5, none⟩ = some (.int .i64 ev) := by simp [← hv_, go_sem]
  have sc6 : v1.cell? ⟨w.heap.size, 6, none⟩ = some (.int .i64 la) := by simp [← hv_, go_sem]
  have sc7 : v1.cell? ⟨w.heap.size, 7, none⟩ = some (.int .i64 po) := by simp [← hv_, go_sem]
  have scl : w.heap.size < v1.heap.size := by simp [← hv_] <;> omega
  clear hv_
  go_wp2_with fail
  go_ret
  exact ⟨rfl, cc⟩

theorem sRight_k1 {w : World} {kd ba ra en wa ev la po f : Int} (q0 : ¬ f < 0) (q1 : ¬ 40 < f) (q2 : ¬ ba < 0) (q3 : ¬ wa < 0) (q4 : ¬ 1000000 < wa) (e : kd = 1) :
    Calls Tryz.prog 7 #[.agg #[.int .i64 kd, .int .i64 ba, .int .i64 ra, .int .i64 en, .int .i64 wa, .int .i64 ev, .int .i64 la, .int .i64 po], .int .i64 f] w (GotV w (.bool true)) := by
  have t0 : decide (f < 0) = false := decide_eq_false (by omega)
  have t1 : decide (40 < f) = false := decide_eq_false (by omega)
  have t2 : decide (ba < 0) = false := decide_eq_false (by omega)
  have t3 : decide (wa < 0) = false := decide_eq_false (by omega)
  have t4 : decide (1000000 < wa) = false := decide_eq_false (by omega)
  have s0 : ((kd : Int) == 0) = false := beq_eq_false_iff_ne.2 (by omega)
  have s1 : ((kd : Int) == 1) = true := beq_iff_eq.2 (by omega)
  clear q0 q1 q2 q3 q4 e
  have cc := Below.refl w.heap.size w
  go_enter Tryz.func7, Tryz.ntmps7
  go_wp2_with fail
  generalize hv_ : w.alloc (.cells #[.int .i64 kd, .int .i64 ba, .int .i64 ra, .int .i64 en, .int .i64 wa, .int .i64 ev, .int .i64 la, .int .i64 po] 23) = v1
  have bA : Below w.heap.size w v1 := by rw [← hv_]; exact ((Below.refl _ w).alloc (by simp) _)
  replace cc := bK cc bA
  clear bA
  have sc0 : v1.cell? ⟨w.heap.size, 0, none⟩ = some (.int .i64 kd) := by simp [← hv_, go_sem]
  have sc1 : v1.cell? ⟨w.heap.size, 1, none⟩ = some (.int .i64 ba) := by simp [← hv_, go_sem]
  have sc2 : v1.cell? ⟨w.heap.size, 2, none⟩ = some (.int .i64 ra) := by simp [← hv_, go_sem]
  have sc3 : v1.cell? ⟨w.heap.size, 3, none⟩ = some (.int .i64 en) := by simp [← hv_, go_sem]
  have sc4 : v1.cell? ⟨w.heap.size, 4, none⟩ = some (.int .i64 wa) := by simp [← hv_, go_sem]
  have sc5 : v1.cell? ⟨w.heap.size, 5, none⟩ = some (.int .i64 ev) := by simp [← hv_, go_sem]
  have sc6 : v1.cell? ⟨w.heap.size, 6, none⟩ = some (.int .i64 la) := by simp [← hv_, go_sem]
  have sc7 : v1.cell? ⟨w.heap.size, 7, none⟩ = some (.int .i64 po) := by simp [← hv_, go_sem]
  have scl : w.heap.size < v1.heap.size := by simp [← hv_] <;> omega
  clear hv_
  go_wp2_with fail
  go_ret
  exact ⟨rfl, cc⟩

theorem sRight_d0 {w : World} {kd ba ra en wa ev la po f : Int} (q0 : ¬ f < 0) (q1 : ¬ 40 < f) (q2 : ¬ ba < 0) (q3 : ¬ wa < 0) (q4 : ¬ 1000000 < wa) (e : kd = 2) (p0 : ¬ (1 ≤ ev ∧ ev ≤ 1000000)) :
    Calls Tryz.prog 7 #[.agg #[.int .i64 kd, .int .i64 ba, .int .i64 ra, .int .i64 en, .int .i64 wa, .int .i64 ev, .int .i64 la, .int .i64 po], .int .i64 f] w (GotV w (.bool false)) := by
  have t0 : decide (f < 0) = false := decide_eq_false (by omega)
  have t1 : decide (40 < f) = false := decide_eq_false (by omega)
  have t2 : decide (ba < 0) = false := decide_eq_false (by omega)
  have t3 : decide (wa < 0) = false := decide_eq_false (by omega)
  have t4 : decide (1000000 < wa) = false := decide_eq_false (by omega)
  have s0 : ((kd : Int) == 0) = false := beq_eq_false_iff_ne.2 (by omega)
  have s1 : ((kd : Int) == 1) = false := beq_eq_false_iff_ne.2 (by omega)
  have s2 : ((kd : Int) == 2) = true := beq_iff_eq.2 (by omega)
  have CI := fun W : World => sStep_false (w := W) p0
  clear q0 q1 q2 q3 q4 e p0
  have cc := Below.refl w.heap.size w
  go_enter Tryz.func7, Tryz.ntmps7
  go_wp2_with fail
  generalize hv_ : w.alloc (.cells #[.int .i64 kd, .int .i64 ba, .int .i64 ra, .int .i64 en, .int .i64 wa, .int .i64 ev, .int .i64 la, .int .i64 po] 23) = v1
  have bA : Below w.heap.size w v1 := by rw [← hv_]; exact ((Below.refl _ w).alloc (by simp) _)
  replace cc := bK cc bA
  clear bA
  have sc0 : v1.cell? ⟨w.heap.size, 0, none⟩ = some (.int .i64 kd) := by simp [← hv_, go_sem]
  have sc1 : v1.cell? ⟨w.heap.size, 1, none⟩ = some (.int .i64 ba) := by simp [← hv_, go_sem]
  have sc2 : v1.cell? ⟨w.heap.size, 2, none⟩ = some (.int .i64 ra) := by simp [← hv_, go_sem]
  have sc3 : v1.cell? ⟨w.heap.size, 3, none⟩ = some (.int .i64 en) := by simp [← hv_, go_sem]
  have sc4 : v1.cell? ⟨w.heap.size, 4, none⟩ = some (.int .i64 wa) := by simp [← hv_, go_sem]
  have sc5 : v1.cell? ⟨w.heap.size, 5, none⟩ = some (.int .i64 ev) := by simp [← hv_, go_sem]
  have sc6 : v1.cell? ⟨w.heap.size, 6, none⟩ = some (.int .i64 la) := by simp [← hv_, go_sem]
  have sc7 : v1.cell? ⟨w.heap.size, 7, none⟩ = some (.int .i64 po) := by simp [← hv_, go_sem]
  have scl : w.heap.size < v1.heap.size := by simp [← hv_] <;> omega
  clear hv_
  go_wp2_with fail
  have bD : Below v1.heap.size v1 v1.drew := below_drewN (Below.refl _ v1) 1
  rewrite [cR bD scl] at sc0 sc1 sc2 sc3 sc4 sc5 sc6 sc7
  replace scl := lK bD scl
  replace cc := bK cc bD
  clear bD
  refine wp_region_held_drew (S := fun w' => w'.cell? ⟨w.heap.size, 0, none⟩ = some (.int .i64 kd) ∧ w'.cell? ⟨w.heap.size, 1, none⟩ = some (.int .i64 ba) ∧ w'.cell? ⟨w.heap.size, 2, none⟩ = some (.int .i64 ra) ∧ w'.cell? ⟨w.heap.size, 3, none⟩ = some (.int .i64 en) ∧ w'.cell? ⟨w.heap.size, 4, none⟩ = some (.int .i64 wa) ∧ w'.cell? ⟨w.heap.size, 5, none⟩ = some (.int .i64 ev) ∧ w'.cell? ⟨w.heap.size, 6, none⟩ = some (.int .i64 la) ∧ w'.cell? ⟨w.heap.size, 7, none⟩ = some (.int .i64 po)) (by kernel_rfl) ?_ (fun hHeld => ?_)
  · exact ⟨sc0, sc1, sc2, sc3, sc4, sc5, sc6, sc7⟩
  refine tY (i := 0) (v := ?_) rfl ?_ hHeld ?_
  rotate_left
  · (intro w hSw; (try dsimp only at hSw); go_simp; (try with_reducible rfl))
  try simp only [Act.put, pT]
  refine tY (i := 1) (v := ?_) rfl ?_ hHeld ?_
  rotate_left
  · (intro w hSw; (try dsimp only at hSw); go_simp; (try with_reducible rfl))
  try simp only [Act.put, pT]
  refine wpAnyH_ready (rs := [2]) (by kernel_rfl) (by simp) ?_
  refine AllReadyH.cons rfl (fun K hK => ?_) AllReadyH.nil
  (try simp only [pT])
  rw [if_pos (by rfl)]
  go_simp
  go_at_call 9
  refine (CI _).mono ?_
  rintro e w2 ⟨rfl, b⟩
  rewrite [cR b scl] at sc0 sc1 sc2 sc3 sc4 sc5 sc6 sc7
  replace scl := lK b scl
  replace cc := bK cc b
  clear b
  refine hK.out _ _ ?_ (fun hHeld => ?_)
  · exact ⟨sc0, sc1, sc2, sc3, sc4, sc5, sc6, sc7⟩
  clear hK K
  try simp only [Act.put, pT]
  refine tY (i := 3) (v := ?_) rfl ?_ hHeld ?_
  rotate_left
  · (intro w hSw; (try dsimp only at hSw); go_simp; (try with_reducible rfl))
  try simp only [Act.put, pT]
  refine tU (i := 4) rfl hHeld ?_
  try simp only [Act.put, pT]
  refine tU (i := 5) rfl hHeld ?_
  try simp only [Act.put, pT]
  refine tU (i := 6) rfl hHeld ?_
  try simp only [Act.put, pT]
  refine tY (i := 7) (v := ?_) rfl ?_ hHeld ?_
  rotate_left
  · (intro w hSw; (try dsimp only at hSw); go_simp; (try with_reducible rfl))
  try simp only [Act.put, pT]
  refine tY (i := 8) (v := ?_) rfl ?_ hHeld ?_
  rotate_left
  · (intro w hSw; (try dsimp only at hSw); go_simp; (try with_reducible rfl))
  try simp only [Act.put, pT]
  refine tU (i := 9) rfl hHeld ?_
  try simp only [Act.put, pT]
  refine tU (i := 10) rfl hHeld ?_
  try simp only [Act.put, pT]
  refine tU (i := 11) rfl hHeld ?_
  try simp only [Act.put, pT]
  refine tU (i := 12) rfl hHeld ?_
  try simp only [Act.put, pT]
  refine tU (i := 13) rfl hHeld ?_
  try simp only [Act.put, pT]
  refine tY (i := 14) (v := ?_) rfl ?_ hHeld ?_
  rotate_left
  · (intro w hSw; (try dsimp only at hSw); go_simp; (try with_reducible rfl))
  try simp only [Act.put, pT]
  refine tY (i := 15) (v := ?_) rfl ?_ hHeld ?_
  rotate_left
  · (intro w hSw; (try dsimp only at hSw); go_simp; (try with_reducible rfl))
  try simp only [Act.put, pT]
  refine wpAnyH_done (by kernel_rfl) ?_ _
  clear hHeld
  go_wp2_with fail
  go_ret
  exact ⟨rfl, cc⟩

theorem sRight_d1 {w : World} {kd ba ra en wa ev la po f : Int} (q0 : ¬ f < 0) (q1 : ¬ 40 < f) (q2 : ¬ ba < 0) (q3 : ¬ wa < 0) (q4 : ¬ 1000000 < wa) (e : kd = 2) (p0 : (1 ≤ ev ∧ ev ≤ 1000000)) (p1 : ra < 0) :
    Calls Tryz.prog 7 #[.agg #[.int .i64 kd, .int .i64 ba, .int .i64 ra, .int .i64 en, .int .i64 wa, .int .i64 ev, .int .i64 la, .int .i64 po], .int .i64 f] w (GotV w (.bool false)) := by
  have t0 : decide (f < 0) = false := decide_eq_false (by omega)
  have t1 : decide (40 < f) = false := decide_eq_false (by omega)
  have t2 : decide (ba < 0) = false := decide_eq_false (by omega)
  have t3 : decide (wa < 0) = false := decide_eq_false (by omega)
  have t4 : decide (1000000 < wa) = false := decide_eq_false (by omega)
  have s0 : ((kd : Int) == 0) = false := beq_eq_false_iff_ne.2 (by omega)
  have s1 : ((kd : Int) == 1) = false := beq_eq_false_iff_ne.2 (by omega)
  have s2 : ((kd : Int) == 2) = true := beq_iff_eq.2 (by omega)
  have CI := fun W : World => sStep_true (w := W) p0
  have u1 : decide (0 ≤ ra) = false := decide_eq_false (by omega)
  clear q0 q1 q2 q3 q4 e p0 p1
  have cc := Below.refl w.heap.size w
  go_enter Tryz.func7, Tryz.ntmps7
  go_wp2_with fail
  generalize hv_ : w.alloc (.cells #[.int .i64 kd, .int .i64 ba, .int .i64 ra, .int .i64 en, .int .i64 wa, .int .i64 ev, .int .i64 la, .int .i64 po] 23) = v1
  have bA : Below w.heap.size w v1 := by rw [← hv_]; exact ((Below.refl _ w).alloc (by simp) _)
  replace cc := bK cc bA
  clear bA
  have sc0 : v1.cell? ⟨w.heap.size, 0, none⟩ = some (.int .i64 kd) := by simp [← hv_, go_sem]
  have sc1 : v1.cell? ⟨w.heap.size, 1, none⟩ = some (.int .i64 ba) := by simp [← hv_, go_sem]
  have sc2 : v1.cell? ⟨w.heap.size, 2, none⟩ = some (.int .i64 ra) := by simp [← hv_, go_sem]
  have sc3 : v1.cell? ⟨w.heap.size, 3, none⟩ = some (.int .i64 en) := by simp [← hv_, go_sem]
  have sc4 : v1.cell? ⟨w.heap.size, 4, none⟩ = some (.int .i64 wa) := by simp [← hv_, go_sem]
  have sc5 : v1.cell? ⟨w.heap.size, 5, none⟩ = some (.int .i64 ev) := by simp [← hv_, go_sem]
  have sc6 : v1.cell? ⟨w.heap.size, 6, none⟩ = some (.int .i64 la) := by simp [← hv_, go_sem]
  have sc7 : v1.cell? ⟨w.heap.size, 7, none⟩ = some (.int .i64 po) := by simp [← hv_, go_sem]
  have scl : w.heap.size < v1.heap.size := by simp [← hv_] <;> omega
  clear hv_
  go_wp2_with fail
  have bD : Below v1.heap.size v1 v1.drew := below_drewN (Below.refl _ v1) 1
  rewrite [cR bD scl] at sc0 sc1 sc2 sc3 sc4 sc5 sc6 sc7
  replace scl := lK bD scl
  replace cc := bK cc bD
  clear bD
  refine wp_region_held_drew (S := fun w' => w'.cell? ⟨w.heap.size, 0, none⟩ = some (.int .i64 kd) ∧ w'.cell? ⟨w.heap.size, 1, none⟩ = some (.int .i64 ba) ∧ w'.cell? ⟨w.heap.size, 2, none⟩ = some (.int .i64 ra) ∧ w'.cell? ⟨w.heap.size, 3, none⟩ = some (.int .i64 en) ∧ w'.cell? ⟨w.heap.size, 4, none⟩ = some (.int .i64 wa) ∧ w'.cell? ⟨w.heap.size, 5, none⟩ = some (.int .i64 ev) ∧ w'.cell? ⟨w.heap.size, 6, none⟩ = some (.int .i64 la) ∧ w'.cell? ⟨w.heap.size, 7, none⟩ = some (.int .i64 po)) (by kernel_rfl) ?_ (fun hHeld => ?_)
  · exact ⟨sc0, sc1, sc2, sc3, sc4, sc5, sc6, sc7⟩
  refine tY (i := 0) (v := ?_) rfl ?_ hHeld ?_
  rotate_left
  · (intro w hSw; (try dsimp only at hSw); go_simp; (try with_reducible rfl))
  try simp only [Act.put, pT]
  refine tY (i := 1) (v := ?_) rfl ?_ hHeld ?_
  rotate_left
  · (intro w hSw; (try dsimp only at hSw); go_simp; (try with_reducible rfl))
  try simp only [Act.put, pT]
  refine wpAnyH_ready (rs := [2]) (by kernel_rfl) (by simp) ?_
  refine AllReadyH.cons rfl (fun K hK => ?_) AllReadyH.nil
  (try simp only [pT])
  rw [if_pos (by rfl)]
  go_simp
  go_at_call 9
  refine (CI _).mono ?_
  rintro e w2 ⟨rfl, b⟩
  rewrite [cR b scl] at sc0 sc1 sc2 sc3 sc4 sc5 sc6 sc7
  replace scl := lK b scl
  replace cc := bK cc b
  clear b
  refine hK.out _ _ ?_ (fun hHeld => ?_)
  · exact ⟨sc0, sc1, sc2, sc3, sc4, sc5, sc6, sc7⟩
  clear hK K
  try simp only [Act.put, pT]
  refine tY (i := 3) (v := ?_) rfl ?_ hHeld ?_
  rotate_left
  · (intro w hSw; (try dsimp only at hSw); go_simp; (try with_reducible rfl))
  try simp only [Act.put, pT]
  refine tY (i := 4) (v := ?_) rfl ?_ hHeld ?_
  rotate_left
  · (intro w hSw; (try dsimp only at hSw); go_simp; (try with_reducible rfl))
  try simp only [Act.put, pT]
  refine tY (i := 5) (v := ?_) rfl ?_ hHeld ?_
  rotate_left
  · (intro w hSw; (try dsimp only at hSw); go_simp; (try with_reducible rfl))
  try simp only [Act.put, pT]
  refine tY (i := 6) (v := ?_) rfl ?_ hHeld ?_
  rotate_left
  · (intro w hSw; (try dsimp only at hSw); go_simp; (try with_reducible rfl))
  try simp only [Act.put, pT]
  refine tY (i := 7) (v := ?_) rfl ?_ hHeld ?_
  rotate_left
  · (intro w hSw; (try dsimp only at hSw); go_simp; (try with_reducible rfl))
  try simp only [Act.put, pT]
  refine tY (i := 8) (v := ?_) rfl ?_ hHeld ?_
  rotate_left
  · (intro w hSw; (try dsimp only at hSw); go_simp; (try with_reducible rfl))
  try simp only [Act.put, pT]
  refine tU (i := 9) rfl hHeld ?_
  try simp only [Act.put, pT]
  refine tU (i := 10) rfl hHeld ?_
  try simp only [Act.put, pT]
  refine tU (i := 11) rfl hHeld ?_
  try simp only [Act.put, pT]
  refine tU (i := 12) rfl hHeld ?_
  try simp only [Act.put, pT]
  refine tU (i := 13) rfl hHeld ?_
  try simp only [Act.put, pT]
  refine tY (i := 14) (v := ?_) rfl ?_ hHeld ?_
  rotate_left
  · (intro w hSw; (try dsimp only at hSw); go_simp; (try with_reducible rfl))
  try simp only [Act.put, pT]
  refine tY (i := 15) (v := ?_) rfl ?_ hHeld ?_
  rotate_left
  · (intro w hSw; (try dsimp only at hSw); go_simp; (try with_reducible rfl))
  try simp only [Act.put, pT]
  refine wpAnyH_done (by kernel_rfl) ?_ _
  clear hHeld
  go_wp2_with fail
  go_ret
  exact ⟨rfl, cc⟩

theorem sRight_d2 {w : World} {kd ba ra en wa ev la po f : Int} {D : Int} (hD : ((2 ^ f.toNat : Nat) : Int) = D) (q0 : ¬ f < 0) (q1 : ¬ 40 < f) (q2 : ¬ ba < 0) (q3 : ¬ wa < 0) (q4 : ¬ 1000000 < wa) (e : kd = 2) (p0 : (1 ≤ ev ∧ ev ≤ 1000000)) (p1 : ¬ ra < 0) (p2 : ¬ ra ≤ D) :
    Calls Tryz.prog 7 #[.agg #[.int .i64 kd, .int .i64 ba, .int .i64 ra, .int .i64 en, .int .i64 wa, .int .i64 ev, .int .i64 la, .int .i64 po], .int .i64 f] w (GotV w (.bool false)) := by
  have t0 : decide (f < 0) = false := decide_eq_false (by omega)
  have t1 : decide (40 < f) = false := decide_eq_false (by omega)
  have t2 : decide (ba < 0) = false := decide_eq_false (by omega)
  have t3 : decide (wa < 0) = false := decide_eq_false (by omega)
  have t4 : decide (1000000 < wa) = false := decide_eq_false (by omega)
  have s0 : ((kd : Int) == 0) = false := beq_eq_false_iff_ne.2 (by omega)
  have s1 : ((kd : Int) == 1) = false := beq_eq_false_iff_ne.2 (by omega)
  have s2 : ((kd : Int) == 2) = true := beq_iff_eq.2 (by omega)
  have CI := fun W : World => sStep_true (w := W) p0
  have u1 : decide (0 ≤ ra) = true := decide_eq_true (by omega)
  have u2 : decide (ra ≤ D) = false := decide_eq_false p2
  obtain ⟨fn, rfl⟩ : ∃ n : Nat, f = (n : Int) := ⟨f.toNat, by omega⟩
  rw [Int.toNat_natCast] at hD
  have jf : fn ≤ 40 := by omega
  have h40 : 2 ^ fn ≤ 1099511627776 := Nat.le_trans (Nat.pow_le_pow_right (by omega) jf) (by decide)
  obtain ⟨Dn, eD⟩ : ∃ Dn, 2 ^ fn = Dn := ⟨_, rfl⟩
  rw [eD] at h40 hD
  subst hD
  have kf : IntKind.i64.wrap (2 ^ fn) = (Dn : Int) := by rw [show ((2 : Int) ^ fn) = ((2 ^ fn : Nat) : Int) by simp, eD]; exact IntWalk.i64_in _ (by omega)
  have kf2 : IntKind.i64.wrap (2 ^ min fn 64) = (Dn : Int) := by rw [Nat.min_eq_left (by omega)]; exact kf
  have jf0 : decide ((fn : Int) < 0) = false := decide_eq_false (by omega)
  have jf1 : ¬ ((fn : Int) < 0) := by omega
  clear eD h40
  clear q0 q1 q2 q3 q4 e p0 p1 p2
  have cc := Below.refl w.heap.size w
  go_enter Tryz.func7, Tryz.ntmps7
  go_wp2_with fail
  generalize hv_ : w.alloc (.cells #[.int .i64 kd, .int .i64 ba, .int .i64 ra, .int .i64 en, .int .i64 wa, .int .i64 ev, .int .i64 la, .int .i64 po] 23) = v1
  have bA : Below w.heap.size w v1 := by rw [← hv_]; exact ((Below.refl _ w).alloc (by simp) _)
  replace cc := bK cc bA
  clear bA
  have sc0 : v1.cell? ⟨w.heap.size, 0, none⟩ = some (.int .i64 kd) := by simp [← hv_, go_sem]
  have sc1 : v1.cell? ⟨w.heap.size, 1, none⟩ = some (.int .i64 ba) := by simp [← hv_, go_sem]
  have sc2 : v1.cell? ⟨w.heap.size, 2, none⟩ = some (.int .i64 ra) := by simp [← hv_, go_sem]
  have sc3 : v1.cell? ⟨w.heap.size, 3, none⟩ = some (.int .i64 en) := by simp [← hv_, go_sem]
  have sc4 : v1.cell? ⟨w.heap.size, 4, none⟩ = some (.int .i64 wa) := by simp [← hv_, go_sem]
  have sc5 : v1.cell? ⟨w.heap.size, 5, none⟩ = some (.int .i64 ev) := by simp [← hv_, go_sem]
  have sc6 : v1.cell? ⟨w.heap.size, 6, none⟩ = some (.int .i64 la) := by simp [← hv_, go_sem]
  have sc7 : v1.cell? ⟨w.heap.size, 7, none⟩ = some (.int .i64 po) := by simp [← hv_, go_sem]
  have scl : w.heap.size < v1.heap.size := by simp [← hv_] <;> omega
  clear hv_
  go_wp2_with fail
  have bD : Below v1.heap.size v1 v1.drew := below_drewN (Below.refl _ v1) 1
  rewrite [cR bD scl] at sc0 sc1 sc2 sc3 sc4 sc5 sc6 sc7
  replace scl := lK bD scl
  replace cc := bK cc bD
  clear bD
  refine wp_region_held_drew (S := fun w' => w'.cell? ⟨w.heap.size, 0, none⟩ = some (.int .i64 kd) ∧ w'.cell? ⟨w.heap.size, 1, none⟩ = some (.int .i64 ba) ∧ w'.cell? ⟨w.heap.size, 2, none⟩ = some (.int .i64 ra) ∧ w'.cell? ⟨w.heap.size, 3, none⟩ = some (.int .i64 en) ∧ w'.cell? ⟨w.heap.size, 4, none⟩ = some (.int .i64 wa) ∧ w'.cell? ⟨w.heap.size, 5, none⟩ = some (.int .i64 ev) ∧ w'.cell? ⟨w.heap.size, 6, none⟩ = some (.int .i64 la) ∧ w'.cell? ⟨w.heap.size, 7, none⟩ = some (.int .i64 po)) (by kernel_rfl) ?_ (fun hHeld => ?_)
  · exact ⟨sc0, sc1, sc2, sc3, sc4, sc5, sc6, sc7⟩
  refine tY (i := 0) (v := ?_) rfl ?_ hHeld ?_
  rotate_left
  · (intro w hSw; (try dsimp only at hSw); go_simp; (try with_reducible rfl))
  try simp only [Act.put, pT]
  refine tY (i := 1) (v := ?_) rfl ?_ hHeld ?_
  rotate_left
  · (intro w hSw; (try dsimp only at hSw); go_simp; (try with_reducible rfl))
  try simp only [Act.put, pT]
  refine wpAnyH_ready (rs := [2]) (by kernel_rfl) (by simp) ?_
  refine AllReadyH.cons rfl (fun K hK => ?_) AllReadyH.nil
  (try simp only [pT])
  rw [if_pos (by rfl)]
  go_simp
  go_at_call 9
  refine (CI _).mono ?_
  rintro e w2 ⟨rfl, b⟩
  rewrite [cR b scl] at sc0 sc1 sc2 sc3 sc4 sc5 sc6 sc7
  replace scl := lK b scl
  replace cc := bK cc b
  clear b
  refine hK.out _ _ ?_ (fun hHeld => ?_)
  · exact ⟨sc0, sc1, sc2, sc3, sc4, sc5, sc6, sc7⟩
  clear hK K
  try simp only [Act.put, pT]
  refine tY (i := 3) (v := ?_) rfl ?_ hHeld ?_
  rotate_left
  · (intro w hSw; (try dsimp only at hSw); go_simp; (try with_reducible rfl))
  try simp only [Act.put, pT]
  refine tY (i := 4) (v := ?_) rfl ?_ hHeld ?_
  rotate_left
  · (intro w hSw; (try dsimp only at hSw); go_simp; (try with_reducible rfl))
  try simp only [Act.put, pT]
  refine tY (i := 5) (v := ?_) rfl ?_ hHeld ?_
  rotate_left
  · (intro w hSw; (try dsimp only at hSw); go_simp; (try with_reducible rfl))
  try simp only [Act.put, pT]
  refine tY (i := 6) (v := ?_) rfl ?_ hHeld ?_
  rotate_left
  · (intro w hSw; (try dsimp only at hSw); go_simp; (try with_reducible rfl))
  try simp only [Act.put, pT]
  refine tY (i := 7) (v := ?_) rfl ?_ hHeld ?_
  rotate_left
  · (intro w hSw; (try dsimp only at hSw); go_simp; (try with_reducible rfl))
  try simp only [Act.put, pT]
  refine tY (i := 8) (v := ?_) rfl ?_ hHeld ?_
  rotate_left
  · (intro w hSw; (try dsimp only at hSw); go_simp; (try with_reducible rfl))
  try simp only [Act.put, pT]
  refine tY (i := 9) (v := ?_) rfl ?_ hHeld ?_
  rotate_left
  · (intro w hSw; (try dsimp only at hSw); go_simp; (try with_reducible rfl))
  try simp only [Act.put, pT]
  refine tY (i := 10) (v := ?_) rfl ?_ hHeld ?_
  rotate_left
  · (intro w hSw; (try dsimp only at hSw); go_simp; (try with_reducible rfl))
  try simp only [Act.put, pT]
  refine tY (i := 11) (v := ?_) rfl ?_ hHeld ?_
  rotate_left
  · (intro w hSw; (try dsimp only at hSw); go_simp; (try with_reducible rfl))
  try simp only [Act.put, pT]
  refine tY (i := 12) (v := ?_) rfl ?_ hHeld ?_
  rotate_left
  · (intro w hSw; (try dsimp only at hSw); go_simp; (try with_reducible rfl))
  try simp only [Act.put, pT]
  refine tY (i := 13) (v := ?_) rfl ?_ hHeld ?_
  rotate_left
  · (intro w hSw; (try dsimp only at hSw); go_simp; (try with_reducible rfl))
  try simp only [Act.put, pT]
  refine tY (i := 14) (v := ?_) rfl ?_ hHeld ?_
  rotate_left
  · (intro w hSw; (try dsimp only at hSw); go_simp; (try with_reducible rfl))
  try simp only [Act.put, pT]
  refine tY (i := 15) (v := ?_) rfl ?_ hHeld ?_
  rotate_left
  · (intro w hSw; (try dsimp only at hSw); go_simp; (try with_reducible rfl))
  try simp only [Act.put, pT]
  refine wpAnyH_done (by kernel_rfl) ?_ _
  clear hHeld
  go_wp2_with fail
  go_ret
  exact ⟨rfl, cc⟩

theorem sRight_dy {w : World} {kd ba ra en wa ev la po f : Int} {D : Int} (hD : ((2 ^ f.toNat : Nat) : Int) = D) (q0 : ¬ f < 0) (q1 : ¬ 40 < f) (q2 : ¬ ba < 0) (q3 : ¬ wa < 0) (q4 : ¬ 1000000 < wa) (e : kd = 2) (p0 : (1 ≤ ev ∧ ev ≤ 1000000)) (p1 : ¬ ra < 0) (p2 : ra ≤ D) :
    Calls Tryz.prog 7 #[.agg #[.int .i64 kd, .int .i64 ba, .int .i64 ra, .int .i64 en, .int .i64 wa, .int .i64 ev, .int .i64 la, .int .i64 po], .int .i64 f] w (GotV w (.bool true)) := by
  have t0 : decide (f < 0) = false := decide_eq_false (by omega)
  have t1 : decide (40 < f) = false := decide_eq_false (by omega)
  have t2 : decide (ba < 0) = false := decide_eq_false (by omega)
  have t3 : decide (wa < 0) = false := decide_eq_false (by omega)
  have t4 : decide (1000000 < wa) = false := decide_eq_false (by omega)
  have s0 : ((kd : Int) == 0) = false := beq_eq_false_iff_ne.2 (by omega)
  have s1 : ((kd : Int) == 1) = false := beq_eq_false_iff_ne.2 (by omega)
  have s2 : ((kd : Int) == 2) = true := beq_iff_eq.2 (by omega)
  have CI := fun W : World => sStep_true (w := W) p0
  have u1 : decide (0 ≤ ra) = true := decide_eq_true (by omega)
  have u2 : decide (ra ≤ D) = true := decide_eq_true p2
  obtain ⟨fn, rfl⟩ : ∃ n : Nat, f = (n : Int) := ⟨f.toNat, by omega⟩
  rw [Int.toNat_natCast] at hD
  have jf : fn ≤ 40 := by omega
  have h40 : 2 ^ fn ≤ 1099511627776 := Nat.le_trans (Nat.pow_le_pow_right (by omega) jf) (by decide)
  obtain ⟨Dn, eD⟩ : ∃ Dn, 2 ^ fn = Dn := ⟨_, rfl⟩
  rw [eD] at h40 hD
  subst hD
  have kf : IntKind.i64.wrap (2 ^ fn) = (Dn : Int) := by rw [show ((2 : Int) ^ fn) = ((2 ^ fn : Nat) : Int) by simp, eD]; exact IntWalk.i64_in _ (by omega)
  have kf2 : IntKind.i64.wrap (2 ^ min fn 64) = (Dn : Int) := by rw [Nat.min_eq_left (by omega)]; exact kf
  have jf0 : decide ((fn : Int) < 0) = false := decide_eq_false (by omega)
  have jf1 : ¬ ((fn : Int) < 0) := by omega
  clear eD h40
  clear q0 q1 q2 q3 q4 e p0 p1 p2
  have cc := Below.refl w.heap.size w
  go_enter Tryz.func7, Tryz.ntmps7
  go_wp2_with fail
  generalize hv_ : w.alloc (.cells #[.int .i64 kd, .int .i64 ba, .int .i64 ra, .int .i64 en, .int .i64 wa, .int .i64 ev, .int .i64 la, .int .i64 po] 23) = v1
  have bA : Below w.heap.size w v1 := by rw [← hv_]; exact ((Below.refl _ w).alloc (by simp) _)
  replace cc := bK cc bA
  clear bA
  have sc0 : v1.cell? ⟨w.heap.size, 0, none⟩ = some (.int .i64 kd) := by simp [← hv_, go_sem]
  have sc1 : v1.cell? ⟨w.heap.size, 1, none⟩ = some (.int .i64 ba) := by simp [← hv_, go_sem]
  have sc2 : v1.cell? ⟨w.heap.size, 2, none⟩ = some (.int .i64 ra) := by simp [← hv_, go_sem]
  have sc3 : v1.cell? ⟨w.heap.size, 3, none⟩ = some (.int .i64 en) := by simp [← hv_, go_sem]
  have sc4 : v1.cell? ⟨w.heap.size, 4, none⟩ = some (.int .i64 wa) := by simp [← hv_, go_sem]
  have sc5 : v1.cell? ⟨w.heap.size, 5, none⟩ = some (.int .i64 ev) := by simp [← hv_, go_sem]
  have sc6 : v1.cell? ⟨w.heap.size, 6, none⟩ = some (.int .i64 la) := by simp [← hv_, go_sem]
  have sc7 : v1.cell? ⟨w.heap.size, 7, none⟩ = some (.int .i64 po) := by simp [← hv_, go_sem]
  have scl : w.heap.size < v1.heap.size := by simp [← hv_] <;> omega
  clear hv_
  go_wp2_with fail
  have bD : Below v1.heap.size v1 v1.drew := below_drewN (Below.refl _ v1) 1
  rewrite [cR bD scl] at sc0 sc1 sc2 sc3 sc4 sc5 sc6 sc7
  replace scl := lK bD scl
  replace cc := bK cc bD
  clear bD
  refine wp_region_held_drew (S := fun w' => w'.cell? ⟨w.heap.size, 0, none⟩ = some (.int .i64 kd) ∧ w'.cell? ⟨w.heap.size, 1, none⟩ = some (.int .i64 ba) ∧ w'.cell? ⟨w.heap.size, 2, none⟩ = some (.int .i64 ra) ∧ w'.cell? ⟨w.heap.size, 3, none⟩ = some (.int .i64 en) ∧ w'.cell? ⟨w.heap.size, 4, none⟩ = some (.int .i64 wa) ∧ w'.cell? ⟨w.heap.size, 5, none⟩ = some (.int .i64 ev) ∧ w'.cell? ⟨w.heap.size, 6, none⟩ = some (.int .i64 la) ∧ w'.cell? ⟨w.heap.size, 7, none⟩ = some (.int .i64 po)) (by kernel_rfl) ?_ (fun hHeld => ?_)
  · exact ⟨sc0, sc1, sc2, sc3, sc4, sc5, sc6, sc7⟩
  refine tY (i := 0) (v := ?_) rfl ?_ hHeld ?_
  rotate_left
  · (intro w hSw; (try dsimp only at hSw); go_simp; (try with_reducible rfl))
  try simp only [Act.put, pT]
  refine tY (i := 1) (v := ?_) rfl ?_ hHeld ?_
  rotate_left
  · (intro w hSw; (try dsimp only at hSw); go_simp; (try with_reducible rfl))
  try simp only [Act.put, pT]
  refine wpAnyH_ready (rs := [2]) (by kernel_rfl) (by simp) ?_
  refine AllReadyH.cons rfl (fun K hK => ?_) AllReadyH.nil
  (try simp only [pT])
  rw [if_pos (by rfl)]
  go_simp
  go_at_call 9
  refine (CI _).mono ?_
  rintro e w2 ⟨rfl, b⟩
  rewrite [cR b scl] at sc0 sc1 sc2 sc3 sc4 sc5 sc6 sc7
  replace scl := lK b scl
  replace cc := bK cc b
  clear b
  refine hK.out _ _ ?_ (fun hHeld => ?_)
  · exact ⟨sc0, sc1, sc2, sc3, sc4, sc5, sc6, sc7⟩
  clear hK K
  try simp only [Act.put, pT]
  refine tY (i := 3) (v := ?_) rfl ?_ hHeld ?_
  rotate_left
  · (intro w hSw; (try dsimp only at hSw); go_simp; (try with_reducible rfl))
  try simp only [Act.put, pT]
  refine tY (i := 4) (v := ?_) rfl ?_ hHeld ?_
  rotate_left
  · (intro w hSw; (try dsimp only at hSw); go_simp; (try with_reducible rfl))
  try simp only [Act.put, pT]
  refine tY (i := 5) (v := ?_) rfl ?_ hHeld ?_
  rotate_left
  · (intro w hSw; (try dsimp only at hSw); go_simp; (try with_reducible rfl))
  try simp only [Act.put, pT]
  refine tY (i := 6) (v := ?_) rfl ?_ hHeld ?_
  rotate_left
  · (intro w hSw; (try dsimp only at hSw); go_simp; (try with_reducible rfl))
  try simp only [Act.put, pT]
  refine tY (i := 7) (v := ?_) rfl ?_ hHeld ?_
  rotate_left
  · (intro w hSw; (try dsimp only at hSw); go_simp; (try with_reducible rfl))
  try simp only [Act.put, pT]
  refine tY (i := 8) (v := ?_) rfl ?_ hHeld ?_
  rotate_left
  · (intro w hSw; (try dsimp only at hSw); go_simp; (try with_reducible rfl))
  try simp only [Act.put, pT]
  refine tY (i := 9) (v := ?_) rfl ?_ hHeld ?_
  rotate_left
  · (intro w hSw; (try dsimp only at hSw); go_simp; (try with_reducible rfl))
  try simp only [Act.put, pT]
  refine tY (i := 10) (v := ?_) rfl ?_ hHeld ?_
  rotate_left
  · (intro w hSw; (try dsimp only at hSw); go_simp; (try with_reducible rfl))
  try simp only [Act.put, pT]
  refine tY (i := 11) (v := ?_) rfl ?_ hHeld ?_
  rotate_left
  · (intro w hSw; (try dsimp only at hSw); go_simp; (try with_reducible rfl))
  try simp only [Act.put, pT]
  refine tY (i := 12) (v := ?_) rfl ?_ hHeld ?_
  rotate_left
  · (intro w hSw; (try dsimp only at hSw); go_simp; (try with_reducible rfl))
  try simp only [Act.put, pT]
  refine tY (i := 13) (v := ?_) rfl ?_ hHeld ?_
  rotate_left
  · (intro w hSw; (try dsimp only at hSw); go_simp; (try with_reducible rfl))
  try simp only [Act.put, pT]
  refine tY (i := 14) (v := ?_) rfl ?_ hHeld ?_
  rotate_left
  · (intro w hSw; (try dsimp only at hSw); go_simp; (try with_reducible rfl))
  try simp only [Act.put, pT]
  refine tY (i := 15) (v := ?_) rfl ?_ hHeld ?_
  rotate_left
  · (intro w hSw; (try dsimp only at hSw); go_simp; (try with_reducible rfl))
  try simp only [Act.put, pT]
  refine wpAnyH_done (by kernel_rfl) ?_ _
  clear hHeld
  go_wp2_with fail
  go_ret
  exact ⟨rfl, cc⟩

theorem sRight_p0 {w : World} {kd ba ra en wa ev la po f : Int} (q0 : ¬ f < 0) (q1 : ¬ 40 < f) (q2 : ¬ ba < 0) (q3 : ¬ wa < 0) (q4 : ¬ 1000000 < wa) (e : kd = 3) (p0 : ¬ (1 ≤ la ∧ la ≤ 1000000)) :
    Calls Tryz.prog 7 #[.agg #[.int .i64 kd, .int .i64 ba, .int .i64 ra, .int .i64 en, .int .i64 wa, .int .i64 ev, .int .i64 la, .int .i64 po], .int .i64 f] w (GotV w (.bool false)) := by
  have t0 : decide (f < 0) = false := decide_eq_false (by omega)
  have t1 : decide (40 < f) = false := decide_eq_false (by omega)
  have t2 : decide (ba < 0) = false := decide_eq_false (by omega)
  have t3 : decide (wa < 0) = false := decide_eq_false (by omega)
  have t4 : decide (1000000 < wa) = false := decide_eq_false (by omega)
  have s0 : ((kd : Int) == 0) = false := beq_eq_false_iff_ne.2 (by omega)
  have s1 : ((kd : Int) == 1) = false := beq_eq_false_iff_ne.2 (by omega)
  have s2 : ((kd : Int) == 2) = false := beq_eq_false_iff_ne.2 (by omega)
  have s3 : ((kd : Int) == 3) = true := beq_iff_eq.2 (by omega)
  have CI := fun W : World => sStep_false (w := W) p0
  clear q0 q1 q2 q3 q4 e p0
  have cc := Below.refl w.heap.size w
  go_enter Tryz.func7, Tryz.ntmps7
  go_wp2_with fail
  generalize hv_ : w.alloc (.cells #[.int .i64 kd, .int .i64 ba, .int .i64 ra, .int .i64 en, .int .i64 wa, .int .i64 ev, .int .i64 la, .int .i64 po] 23) = v1
  have bA : Below w.heap.size w v1 := by rw [← hv_]; exact ((Below.refl _ w).alloc (by simp) _)
  replace cc := bK cc bA
  clear bA
  have sc0 : v1.cell? ⟨w.heap.size, 0, none⟩ = some (.int .i64 kd) := by simp [← hv_, go_sem]
  have sc1 : v1.cell? ⟨w.heap.size, 1, none⟩ = some (.int .i64 ba) := by simp [← hv_, go_sem]
  have sc2 : v1.cell? ⟨w.heap.size, 2, none⟩ = some (.int .i64 ra) := by simp [← hv_, go_sem]
  have sc3 : v1.cell? ⟨w.heap.size, 3, none⟩ = some (.int .i64 en) := by simp [← hv_, go_sem]
  have sc4 : v1.cell? ⟨w.heap.size, 4, none⟩ = some (.int .i64 wa) := by simp [← hv_, go_sem]
  have sc5 : v1.cell? ⟨w.heap.size, 5, none⟩ = some (.int .i64 ev) := by simp [← hv_, go_sem]
  have sc6 : v1.cell? ⟨w.heap.size, 6, none⟩ = some (.int .i64 la) := by simp [← hv_, go_sem]
  have sc7 : v1.cell? ⟨w.heap.size, 7, none⟩ = some (.int .i64 po) := by simp [← hv_, go_sem]
  have scl : w.heap.size < v1.heap.size := by simp [← hv_] <;> omega
  clear hv_
  go_wp2_with fail
  refine (CI _).mono ?_
  rintro e w2 ⟨rfl, b⟩
  rewrite [cR b scl] at sc0 sc1 sc2 sc3 sc4 sc5 sc6 sc7
  replace scl := lK b scl
  replace cc := bK cc b
  clear b
  go_wp2_with fail
  go_ret
  exact ⟨rfl, cc⟩

theorem sRight_p1 {w : World} {kd ba ra en wa ev la po f : Int} (q0 : ¬ f < 0) (q1 : ¬ 40 < f) (q2 : ¬ ba < 0) (q3 : ¬ wa < 0) (q4 : ¬ 1000000 < wa) (e : kd = 3) (p0 : (1 ≤ la ∧ la ≤ 1000000)) (p1 : ¬ 1 ≤ po) :
    Calls Tryz.prog 7 #[.agg #[.int .i64 kd, .int .i64 ba, .int .i64 ra, .int .i64 en, .int .i64 wa, .int .i64 ev, .int .i64 la, .int .i64 po], .int .i64 f] w (GotV w (.bool false)) := by
  have t0 : decide (f < 0) = false := decide_eq_false (by omega)
  have t1 : decide (40 < f) = false := decide_eq_false (by omega)
  have t2 : decide (ba < 0) = false := decide_eq_false (by omega)
  have t3 : decide (wa < 0) = false := decide_eq_false (by omega)
  have t4 : decide (1000000 < wa) = false := decide_eq_false (by omega)
  have s0 : ((kd : Int) == 0) = false := beq_eq_false_iff_ne.2 (by omega)
  have s1 : ((kd : Int) == 1) = false := beq_eq_false_iff_ne.2 (by omega)
  have s2 : ((kd : Int) == 2) = false := beq_eq_false_iff_ne.2 (by omega)
  have s3 : ((kd : Int) == 3) = true := beq_iff_eq.2 (by omega)
  have CI := fun W : World => sStep_true (w := W) p0
  have u0 : decide (1 ≤ po) = false := decide_eq_false p1
  clear q0 q1 q2 q3 q4 e p0 p1
  have cc := Below.refl w.heap.size w
  go_enter Tryz.func7, Tryz.ntmps7
  go_wp2_with fail
  generalize hv_ : w.alloc (.cells #[.int .i64 kd, .int .i64 ba, .int .i64 ra, .int .i64 en, .int .i64 wa, .int .i64 ev, .int .i64 la, .int .i64 po] 23) = v1
  have bA : Below w.heap.size w v1 := by rw [← hv_]; exact ((Below.refl _ w).alloc (by simp) _)
  replace cc := bK cc bA
  clear bA
  have sc0 : v1.cell? ⟨w.heap.size, 0, none⟩ = some (.int .i64 kd) := by simp [← hv_, go_sem]
  have sc1 : v1.cell? ⟨w.heap.size, 1, none⟩ = some (.int .i64 ba) := by simp [← hv_, go_sem]
  have sc2 : v1.cell? ⟨w.heap.size, 2, none⟩ = some (.int .i64 ra) := by simp [← hv_, go_sem]
  have sc3 : v1.cell? ⟨w.heap.size, 3, none⟩ = some (.int .i64 en) := by simp [← hv_, go_sem]
  have sc4 : v1.cell? ⟨w.heap.size, 4, none⟩ = some (.int .i64 wa) := by simp [← hv_, go_sem]
  have sc5 : v1.cell? ⟨w.heap.size, 5, none⟩ = some (.int .i64 ev) := by simp [← hv_, go_sem]
  have sc6 : v1.cell? ⟨w.heap.size, 6, none⟩ = some (.int .i64 la) := by simp [← hv_, go_sem]
  have sc7 : v1.cell? ⟨w.heap.size, 7, none⟩ = some (.int .i64 po) := by simp [← hv_, go_sem]
  have scl : w.heap.size < v1.heap.size := by simp [← hv_] <;> omega
  clear hv_
  go_wp2_with fail
  refine (CI _).mono ?_
  rintro e w2 ⟨rfl, b⟩
  rewrite [cR b scl] at sc0 sc1 sc2 sc3 sc4 sc5 sc6 sc7
  replace scl := lK b scl
  replace cc := bK cc b
  clear b
  go_wp2_with fail
  go_ret
  exact ⟨rfl, cc⟩

theorem sRight_p2 {w : World} {kd ba ra en wa ev la po f : Int} (q0 : ¬ f < 0) (q1 : ¬ 40 < f) (q2 : ¬ ba < 0) (q3 : ¬ wa < 0) (q4 : ¬ 1000000 < wa) (e : kd = 3) (p0 : (1 ≤ la ∧ la ≤ 1000000)) (p1 : 1 ≤ po) (p2 : ¬ po ≤ 8) :
    Calls Tryz.prog 7 #[.agg #[.int .i64 kd, .int .i64 ba, .int .i64 ra, .int .i64 en, .int .i64 wa, .int .i64 ev, .int .i64 la, .int .i64 po], .int .i64 f] w (GotV w (.bool false)) := by
  have t0 : decide (f < 0) = false := decide_eq_false (by omega)
  have t1 : decide (40 < f) = false := decide_eq_false (by omega)
  have t2 : decide (ba < 0) = false := decide_eq_false (by omega)
  have t3 : decide (wa < 0) = false := decide_eq_false (by omega)
  have t4 : decide (1000000 < wa) = false := decide_eq_false (by omega)
  have s0 : ((kd : Int) == 0) = false := beq_eq_false_iff_ne.2 (by omega)
  have s1 : ((kd : Int) == 1) = false := beq_eq_false_iff_ne.2 (by omega)
  have s2 : ((kd : Int) == 2) = false := beq_eq_false_iff_ne.2 (by omega)
  have s3 : ((kd : Int) == 3) = true := beq_iff_eq.2 (by omega)
  have CI := fun W : World => sStep_true (w := W) p0
  have u0 : decide (1 ≤ po) = true := decide_eq_true p1
  have u1 : decide (po ≤ 8) = false := decide_eq_false p2
  clear q0 q1 q2 q3 q4 e p0 p1 p2
  have cc := Below.refl w.heap.size w
  go_enter Tryz.func7, Tryz.ntmps7
  go_wp2_with fail
  generalize hv_ : w.alloc (.cells #[.int .i64 kd, .int .i64 ba, .int .i64 ra, .int .i64 en, .int .i64 wa, .int .i64 ev, .int .i64 la, .int .i64 po] 23) = v1
  have bA : Below w.heap.size w v1 := by rw [← hv_]; exact ((Below.refl _ w).alloc (by simp) _)
  replace cc := bK cc bA
  clear bA
  have sc0 : v1.cell? ⟨w.heap.size, 0, none⟩ = some (.int .i64 kd) := by simp [← hv_, go_sem]
  have sc1 : v1.cell? ⟨w.heap.size, 1, none⟩ = some (.int .i64 ba) := by simp [← hv_, go_sem]
  have sc2 : v1.cell? ⟨w.heap.size, 2, none⟩ = some (.int .i64 ra) := by simp [← hv_, go_sem]
  have sc3 : v1.cell? ⟨w.heap.size, 3, none⟩ = some (.int .i64 en) := by simp [← hv_, go_sem]
  have sc4 : v1.cell? ⟨w.heap.size, 4, none⟩ = some (.int .i64 wa) := by simp [← hv_, go_sem]
  have sc5 : v1.cell? ⟨w.heap.size, 5, none⟩ = some (.int .i64 ev) := by simp [← hv_, go_sem]
  have sc6 : v1.cell? ⟨w.heap.size, 6, none⟩ = some (.int .i64 la) := by simp [← hv_, go_sem]
  have sc7 : v1.cell? ⟨w.heap.size, 7, none⟩ = some (.int .i64 po) := by simp [← hv_, go_sem]
  have scl : w.heap.size < v1.heap.size := by simp [← hv_] <;> omega
  clear hv_
  go_wp2_with fail
  refine (CI _).mono ?_
  rintro e w2 ⟨rfl, b⟩
  rewrite [cR b scl] at sc0 sc1 sc2 sc3 sc4 sc5 sc6 sc7
  replace scl := lK b scl
  replace cc := bK cc b
  clear b
  go_wp2_with fail
  go_ret
  exact ⟨rfl, cc⟩

theorem sRight_p3 {w : World} {kd ba ra en wa ev la po f : Int} (q0 : ¬ f < 0) (q1 : ¬ 40 < f) (q2 : ¬ ba < 0) (q3 : ¬ wa < 0) (q4 : ¬ 1000000 < wa) (e : kd = 3) (p0 : (1 ≤ la ∧ la ≤ 1000000)) (p1 : 1 ≤ po) (p2 : po ≤ 8) (p3 : ¬ 0 ≤ en) :
    Calls Tryz.prog 7 #[.agg #[.int .i64 kd, .int .i64 ba, .int .i64 ra, .int .i64 en, .int .i64 wa, .int .i64 ev, .int .i64 la, .int .i64 po], .int .i64 f] w (GotV w (.bool false)) := by
  have t0 : decide (f < 0) = false := decide_eq_false (by omega)
  have t1 : decide (40 < f) = false := decide_eq_false (by omega)
  have t2 : decide (ba < 0) = false := decide_eq_false (by omega)
  have t3 : decide (wa < 0) = false := decide_eq_false (by omega)
  have t4 : decide (1000000 < wa) = false := decide_eq_false (by omega)
  have s0 : ((kd : Int) == 0) = false := beq_eq_false_iff_ne.2 (by omega)
  have s1 : ((kd : Int) == 1) = false := beq_eq_false_iff_ne.2 (by omega)
  have s2 : ((kd : Int) == 2) = false := beq_eq_false_iff_ne.2 (by omega)
  have s3 : ((kd : Int) == 3) = true := beq_iff_eq.2 (by omega)
  have CI := fun W : World => sStep_true (w := W) p0
  have u0 : decide (1 ≤ po) = true := decide_eq_true p1
  have u1 : decide (po ≤ 8) = true := decide_eq_true p2
  have u2 : decide (0 ≤ en) = false := decide_eq_false p3
  clear q0 q1 q2 q3 q4 e p0 p1 p2 p3
  have cc := Below.refl w.heap.size w
  go_enter Tryz.func7, Tryz.ntmps7
  go_wp2_with fail
  generalize hv_ : w.alloc (.cells #[.int .i64 kd, .int .i64 ba, .int .i64 ra, .int .i64 en, .int .i64 wa, .int .i64 ev, .int .i64 la, .int .i64 po] 23) = v1
  have bA : Below w.heap.size w v1 := by rw [← hv_]; exact ((Below.refl _ w).alloc (by simp) _)
  replace cc := bK cc bA
  clear bA
  have sc0 : v1.cell? ⟨w.heap.size, 0, none⟩ = some (.int .i64 kd) := by simp [← hv_, go_sem]
  have sc1 : v1.cell? ⟨w.heap.size, 1, none⟩ = some (.int .i64 ba) := by simp [← hv_, go_sem]
  have sc2 : v1.cell? ⟨w.heap.size, 2, none⟩ = some (.int .i64 ra) := by simp [← hv_, go_sem]
  have sc3 : v1.cell? ⟨w.heap.size, 3, none⟩ = some (.int .i64 en) := by simp [← hv_, go_sem]
  have sc4 : v1.cell? ⟨w.heap.size, 4, none⟩ = some (.int .i64 wa) := by simp [← hv_, go_sem]
  have sc5 : v1.cell? ⟨w.heap.size, 5, none⟩ = some (.int .i64 ev) := by simp [← hv_, go_sem]
  have sc6 : v1.cell? ⟨w.heap.size, 6, none⟩ = some (.int .i64 la) := by simp [← hv_, go_sem]
  have sc7 : v1.cell? ⟨w.heap.size, 7, none⟩ = some (.int .i64 po) := by simp [← hv_, go_sem]
  have scl : w.heap.size < v1.heap.size := by simp [← hv_] <;> omega
  clear hv_
  go_wp2_with fail
  refine (CI _).mono ?_
  rintro e w2 ⟨rfl, b⟩
  rewrite [cR b scl] at sc0 sc1 sc2 sc3 sc4 sc5 sc6 sc7
  replace scl := lK b scl
  replace cc := bK cc b
  clear b
  go_wp2_with fail
  go_ret
  exact ⟨rfl, cc⟩

theorem sRight_p4 {w : World} {kd ba ra en wa ev la po f : Int} (q0 : ¬ f < 0) (q1 : ¬ 40 < f) (q2 : ¬ ba < 0) (q3 : ¬ wa < 0) (q4 : ¬ 1000000 < wa) (e : kd = 3) (p0 : (1 ≤ la ∧ la ≤ 1000000)) (p1 : 1 ≤ po) (p2 : po ≤ 8) (p3 : 0 ≤ en) (p4 : ¬ en ≤ ba) :
    Calls Tryz.prog 7 #[.agg #[.int .i64 kd, .int .i64 ba, .int .i64 ra, .int .i64 en, .int .i64 wa, .int .i64 ev, .int .i64 la, .int .i64 po], .int .i64 f] w (GotV w (.bool false)) := by
  have t0 : decide (f < 0) = false := decide_eq_false (by omega)
  have t1 : decide (40 < f) = false := decide_eq_false (by omega)
  have t2 : decide (ba < 0) = false := decide_eq_false (by omega)
  have t3 : decide (wa < 0) = false := decide_eq_false (by omega)
  have t4 : decide (1000000 < wa) = false := decide_eq_false (by omega)
  have s0 : ((kd : Int) == 0) = false := beq_eq_false_iff_ne.2 (by omega)
  have s1 : ((kd : Int) == 1) = false := beq_eq_false_iff_ne.2 (by omega)
  have s2 : ((kd : Int) == 2) = false := beq_eq_false_iff_ne.2 (by omega)
  have s3 : ((kd : Int) == 3) = true := beq_iff_eq.2 (by omega)
  have CI := fun W : World => sStep_true (w := W) p0
  have u0 : decide (1 ≤ po) = true := decide_eq_true p1
  have u1 : decide (po ≤ 8) = true := decide_eq_true p2
  have u2 : decide (0 ≤ en) = true := decide_eq_true p3
  have u3 : decide (en ≤ ba) = false := decide_eq_false p4
  clear q0 q1 q2 q3 q4 e p0 p1 p2 p3 p4
  have cc := Below.refl w.heap.size w
  go_enter Tryz.func7, Tryz.ntmps7
  go_wp2_with fail
  generalize hv_ : w.alloc (.cells #[.int .i64 kd, .int .i64 ba, .int .i64 ra, .int .i64 en, .int .i64 wa, .int .i64 ev, .int .i64 la, .int .i64 po] 23) = v1
  have bA : Below w.heap.size w v1 := by rw [← hv_]; exact ((Below.refl _ w).alloc (by simp) _)
  replace cc := bK cc bA
  clear bA
  have sc0 : v1.cell? ⟨w.heap.size, 0, none⟩ = some (.int .i64 kd) := by simp [← hv_, go_sem]
  have sc1 : v1.cell? ⟨w.heap.size, 1, none⟩ = some (.int .i64 ba) := by simp [← hv_, go_sem]
  have sc2 : v1.cell? ⟨w.heap.size, 2, none⟩ = some (.int .i64 ra) := by simp [← hv_, go_sem]
  have sc3 : v1.cell? ⟨w.heap.size, 3, none⟩ = some (.int .i64 en) := by simp [← hv_, go_sem]
  have sc4 : v1.cell? ⟨w.heap.size, 4, none⟩ = some (.int .i64 wa) := by simp [← hv_, go_sem]
  have sc5 : v1.cell? ⟨w.heap.size, 5, none⟩ = some (.int .i64 ev) := by simp [← hv_, go_sem]
  have sc6 : v1.cell? ⟨w.heap.size, 6, none⟩ = some (.int .i64 la) := by simp [← hv_, go_sem]
  have sc7 : v1.cell? ⟨w.heap.size, 7, none⟩ = some (.int .i64 po) := by simp [← hv_, go_sem]
  have scl : w.heap.size < v1.heap.size := by simp [← hv_] <;> omega
  clear hv_
  go_wp2_with fail
  refine (CI _).mono ?_
  rintro e w2 ⟨rfl, b⟩
  rewrite [cR b scl] at sc0 sc1 sc2 sc3 sc4 sc5 sc6 sc7
  replace scl := lK b scl
  replace cc := bK cc b
  clear b
  go_wp2_with fail
  go_ret
  exact ⟨rfl, cc⟩

theorem sRight_p5 {w : World} {kd ba ra en wa ev la po f : Int} (q0 : ¬ f < 0) (q1 : ¬ 40 < f) (q2 : ¬ ba < 0) (q3 : ¬ wa < 0) (q4 : ¬ 1000000 < wa) (e : kd = 3) (p0 : (1 ≤ la ∧ la ≤ 1000000)) (p1 : 1 ≤ po) (p2 : po ≤ 8) (p3 : 0 ≤ en) (p4 : en ≤ ba) :
    Calls Tryz.prog 7 #[.agg #[.int .i64 kd, .int .i64 ba, .int .i64 ra, .int .i64 en, .int .i64 wa, .int .i64 ev, .int .i64 la, .int .i64 po], .int .i64 f] w (GotV w (.bool true)) := by
  have t0 : decide (f < 0) = false := decide_eq_false (by omega)
  have t1 : decide (40 < f) = false := decide_eq_false (by omega)
  have t2 : decide (ba < 0) = false := decide_eq_false (by omega)
  have t3 : decide (wa < 0) = false := decide_eq_false (by omega)
  have t4 : decide (1000000 < wa) = false := decide_eq_false (by omega)
  have s0 : ((kd : Int) == 0) = false := beq_eq_false_iff_ne.2 (by omega)
  have s1 : ((kd : Int) == 1) = false := beq_eq_false_iff_ne.2 (by omega)
  have s2 : ((kd : Int) == 2) = false := beq_eq_false_iff_ne.2 (by omega)
  have s3 : ((kd : Int) == 3) = true := beq_iff_eq.2 (by omega)
  have CI := fun W : World => sStep_true (w := W) p0
  have u0 : decide (1 ≤ po) = true := decide_eq_true p1
  have u1 : decide (po ≤ 8) = true := decide_eq_true p2
  have u2 : decide (0 ≤ en) = true := decide_eq_true p3
  have u3 : decide (en ≤ ba) = true := decide_eq_true p4
  clear q0 q1 q2 q3 q4 e p0 p1 p2 p3 p4
  have cc := Below.refl w.heap.size w
  go_enter Tryz.func7, Tryz.ntmps7
  go_wp2_with fail
  generalize hv_ : w.alloc (.cells #[.int .i64 kd, .int .i64 ba, .int .i64 ra, .int .i64 en, .int .i64 wa, .int .i64 ev, .int .i64 la, .int .i64 po] 23) = v1
  have bA : Below w.heap.size w v1 := by rw [← hv_]; exact ((Below.refl _ w).alloc (by simp) _)
  replace cc := bK cc bA
  clear bA
  have sc0 : v1.cell? ⟨w.heap.size, 0, none⟩ = some (.int .i64 kd) := by simp [← hv_, go_sem]
  have sc1 : v1.cell? ⟨w.heap.size, 1, none⟩ = some (.int .i64 ba) := by simp [← hv_, go_sem]
  have sc2 : v1.cell? ⟨w.heap.size, 2, none⟩ = some (.int .i64 ra) := by simp [← hv_, go_sem]
  have sc3 : v1.cell? ⟨w.heap.size, 3, none⟩ = some (.int .i64 en) := by simp [← hv_, go_sem]
  have sc4 : v1.cell? ⟨w.heap.size, 4, none⟩ = some (.int .i64 wa) := by simp [← hv_, go_sem]
  have sc5 : v1.cell? ⟨w.heap.size, 5, none⟩ = some (.int .i64 ev) := by simp [← hv_, go_sem]
  have sc6 : v1.cell? ⟨w.heap.size, 6, none⟩ = some (.int .i64 la) := by simp [← hv_, go_sem]
  have sc7 : v1.cell? ⟨w.heap.size, 7, none⟩ = some (.int .i64 po) := by simp [← hv_, go_sem]
  have scl : w.heap.size < v1.heap.size := by simp [← hv_] <;> omega
  clear hv_
  go_wp2_with fail
  refine (CI _).mono ?_
  rintro e w2 ⟨rfl, b⟩
  rewrite [cR b scl] at sc0 sc1 sc2 sc3 sc4 sc5 sc6 sc7
  replace scl := lK b scl
  replace cc := bK cc b
  clear b
  go_wp2_with fail
  go_ret
  exact ⟨rfl, cc⟩

theorem sRight_N (w : World) {kd ba ra en wa ev la po f : Int} (hI : I64 kd ∧ I64 ba ∧ I64 ra ∧ I64 en ∧ I64 wa ∧ I64 ev ∧ I64 la ∧ I64 po ∧ I64 f) : Calls Tryz.prog 7 #[.agg #[.int .i64 kd, .int .i64 ba, .int .i64 ra, .int .i64 en, .int .i64 wa, .int .i64 ev, .int .i64 la, .int .i64 po], .int .i64 f] w (GotV w (.bool (decide (OkR f kd ba ra en wa ev la po)))) := by
  clear hI
  have no : ∀ {p : Prop} [Decidable p], ¬ p → Calls Tryz.prog 7 #[.agg #[.int .i64 kd, .int .i64 ba, .int .i64 ra, .int .i64 en, .int .i64 wa, .int .i64 ev, .int .i64 la, .int .i64 po], .int .i64 f] w (GotV w (.bool false)) → Calls Tryz.prog 7 #[.agg #[.int .i64 kd, .int .i64 ba, .int .i64 ra, .int .i64 en, .int .i64 wa, .int .i64 ev, .int .i64 la, .int .i64 po], .int .i64 f] w (GotV w (.bool (decide p))) := fun h c => by rw [decide_eq_false h]; exact c
  by_cases q0 : f < 0
  · exact no (fun h => by have := h.1; omega) (sRight_n0 q0)
  by_cases q1 : 40 < f
  · exact no (fun h => by have := h.1; omega) (sRight_n1 q0 q1)
  by_cases q2 : ba < 0
  · exact no (fun h => by have := h.2.2.1; omega) (sRight_n2 q0 q1 q2)
  by_cases q3 : wa < 0
  · exact no (fun h => by have := h.2.2.2.1; omega) (sRight_n3 q0 q1 q2 q3)
  by_cases q4 : 1000000 < wa
  · exact no (fun h => by have := h.2.2.2.1; omega) (sRight_n4 q0 q1 q2 q3 q4)
  by_cases e : kd < 0 ∨ 3 < kd
  · exact no (fun h => by have := h.2.1; omega) (sRight_k4 q0 q1 q2 q3 q4 e)
  by_cases e0 : kd = 0
  · rw [decide_eq_true ⟨by omega, by omega, by omega, by omega, fun h => by omega, fun h => by omega⟩]; exact sRight_k0 q0 q1 q2 q3 q4 e0
  by_cases e1 : kd = 1
  · rw [decide_eq_true ⟨by omega, by omega, by omega, by omega, fun h => by omega, fun h => by omega⟩]; exact sRight_k1 q0 q1 q2 q3 q4 e1
  by_cases e2 : kd = 2
  · by_cases p0 : 1 ≤ ev ∧ ev ≤ 1000000
    rotate_left
    · exact no (fun h => p0 (h.2.2.2.2.1 e2).1) (sRight_d0 q0 q1 q2 q3 q4 e2 p0)
    by_cases p1 : ra < 0
    · exact no (fun h => by have := (h.2.2.2.2.1 e2).2.1; omega) (sRight_d1 q0 q1 q2 q3 q4 e2 p0 p1)
    by_cases p2 : ra ≤ ((2 ^ f.toNat : Nat) : Int)
    rotate_left
    · exact no (fun h => p2 (h.2.2.2.2.1 e2).2.2) (sRight_d2 rfl q0 q1 q2 q3 q4 e2 p0 p1 p2)
    rw [decide_eq_true ⟨by omega, by omega, by omega, by omega, fun _ => ⟨p0, by omega, p2⟩, fun h => by omega⟩]
    exact sRight_dy rfl q0 q1 q2 q3 q4 e2 p0 p1 p2
  have e3 : kd = 3 := by omega
  by_cases p0 : 1 ≤ la ∧ la ≤ 1000000
  rotate_left
  · exact no (fun h => p0 (h.2.2.2.2.2 e3).1) (sRight_p0 q0 q1 q2 q3 q4 e3 p0)
  by_cases p1 : 1 ≤ po
  rotate_left
  · exact no (fun h => p1 (h.2.2.2.2.2 e3).2.1.1) (sRight_p1 q0 q1 q2 q3 q4 e3 p0 p1)
  by_cases p2 : po ≤ 8
  rotate_left
  · exact no (fun h => p2 (h.2.2.2.2.2 e3).2.1.2) (sRight_p2 q0 q1 q2 q3 q4 e3 p0 p1 p2)
  by_cases p3 : 0 ≤ en
  rotate_left
  · exact no (fun h => p3 (h.2.2.2.2.2 e3).2.2.1) (sRight_p3 q0 q1 q2 q3 q4 e3 p0 p1 p2 p3)
  by_cases p4 : en ≤ ba
  rotate_left
  · exact no (fun h => p4 (h.2.2.2.2.2 e3).2.2.2) (sRight_p4 q0 q1 q2 q3 q4 e3 p0 p1 p2 p3 p4)
  rw [decide_eq_true ⟨by omega, by omega, by omega, by omega, fun h => by omega, fun _ => ⟨p0, ⟨p1, p2⟩, p3, p4⟩⟩]
  exact sRight_p5 q0 q1 q2 q3 q4 e3 p0 p1 p2 p3 p4

end Go.Proofs.YtmaolhajeoigpaaGreat
