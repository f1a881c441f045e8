/-
  The walk of SchedWarm.
-/
import Derived.Test.YtmaolhajeoigpaaA9
import Derived.Test.YtmaolhajeoigpaaA10
import Derived.Test.YtmaolhajeoigpaaA2
import Derived.Test.YtmaolhajeoigpaaA3
namespace Go.Proofs.Ytmaolhajeoigpaa
set_option maxRecDepth 100000
set_option maxHeartbeats 8000000
open Go.RowKit
set_option linter.unusedVariables false
set_option linter.unusedSimpArgs false

theorem SchedWarm_n0 {w : World} {kd ba ra en wa ev la po t u f : Int} (hR0 : ¬ OkR f kd ba ra en wa ev la po) :
    Calls Try.prog 3 #[.agg #[.int .i64 kd, .int .i64 ba, .int .i64 ra, .int .i64 en, .int .i64 wa, .int .i64 ev, .int .i64 la, .int .i64 po], .agg #[.int .i64 t, .int .i64 u], .int .i64 f] w fun e w' => e = .returned (.bool true) ∧ Below w.heap.size w w' := by
  have CR0 : ∀ W : World, Calls Try.prog 8 #[.agg #[.int .i64 kd, .int .i64 ba, .int .i64 ra, .int .i64 en, .int .i64 wa, .int .i64 ev, .int .i64 la, .int .i64 po], .int .i64 f] W (GotV W (.bool false)) := fun W => by have h := rRight15_N (w := W) (f := f) (kd := kd) (ba := ba) (ra := ra) (en := en) (wa := wa) (ev := ev) (la := la) (po := po); rw [decide_eq_false hR0] at h; exact h
  clear hR0
  have cc := Below.refl w.heap.size w
  go_enter Try.func3, Try.ntmps3
  go_wp2_with fail
  generalize hv_ : (w.alloc (.cells #[.int .i64 kd, .int .i64 ba, .int .i64 ra, .int .i64 en, .int .i64 wa, .int .i64 ev, .int .i64 la, .int .i64 po] 23)).alloc (.cells #[.int .i64 t, .int .i64 u] 24) = v1
  have bA : Below w.heap.size w v1 := by rw [← hv_]; exact (((Below.refl _ w).alloc (by simp) _).alloc (by simp) _)
  replace cc := bK cc bA
  clear bA
  have sc0 : v1.cell? ⟨w.heap.size, 0, none⟩ = some (.int .i64 kd) := by simp [← hv_, go_sem]
  have sc1 : v1.cell? ⟨w.heap.size, 1, none⟩ = some (.int .i64 ba) := by simp [← hv_, go_sem]
  have sc2 : v1.cell? ⟨w.heap.size, 2, none⟩ = some (.int .i64 ra) := by simp [← hv_, go_sem]
  have sc3 : v1.cell? ⟨w.heap.size, 3, none⟩ = some (.int .i64 en) := by simp [← hv_, go_sem]
  have sc4 : v1.cell? ⟨w.heap.size, 4, none⟩ = some (.int .i64 wa) := by simp [← hv_, go_sem]
  have sc5 : v1.cell? ⟨w.heap.size, 5, none⟩ = some (.int .i64 ev) := by simp [← hv_, go_sem]
  have sc6 : v1.cell? ⟨w.heap.size, 6, none⟩ = some (.int .i64 la) := by simp [← hv_, go_sem]
  have sc7 : v1.cell? ⟨w.heap.size, 7, none⟩ = some (.int .i64 po) := by simp [← hv_, go_sem]
  have scl : w.heap.size < v1.heap.size := by simp [← hv_] <;> omega
  obtain ⟨pt0, pt1⟩ : Cs2 v1 (w.heap.size + 1) (.int .i64 t) (.int .i64 u) := by simp [Cs2, ← hv_, go_sem]
  have ptl : w.heap.size + 1 < v1.heap.size := by simp [← hv_] <;> omega
  clear hv_
  go_wp2_with fail
  refine (CR0 _).mono ?_
  rintro e w2 ⟨rfl, b⟩
  rewrite [cR b scl] at sc0 sc1 sc2 sc3 sc4 sc5 sc6 sc7
  replace scl := lK b scl
  rewrite [cR b ptl] at pt0 pt1
  replace ptl := lK b ptl
  replace cc := bK cc b
  clear b
  go_wp2_with fail
  refine (alive15_any _).mono ?_
  rintro e w3 ⟨rfl, b⟩
  rewrite [cR b scl] at sc0 sc1 sc2 sc3 sc4 sc5 sc6 sc7
  replace scl := lK b scl
  rewrite [cR b ptl] at pt0 pt1
  replace ptl := lK b ptl
  replace cc := bK cc b
  clear b
  go_wp2_with fail
  go_ret
  exact ⟨rfl, cc⟩

theorem SchedWarm_e0 {w : World} {kd ba ra en wa ev la po t u f : Int} (hR0 : OkR f kd ba ra en wa ev la po) (h0 : wa < 1) :
    Calls Try.prog 3 #[.agg #[.int .i64 kd, .int .i64 ba, .int .i64 ra, .int .i64 en, .int .i64 wa, .int .i64 ev, .int .i64 la, .int .i64 po], .agg #[.int .i64 t, .int .i64 u], .int .i64 f] w fun e w' => e = .returned (.bool true) ∧ Below w.heap.size w w' := by
  have CR0 : ∀ W : World, Calls Try.prog 8 #[.agg #[.int .i64 kd, .int .i64 ba, .int .i64 ra, .int .i64 en, .int .i64 wa, .int .i64 ev, .int .i64 la, .int .i64 po], .int .i64 f] W (GotV W (.bool true)) := fun W => by have h := rRight15_N (w := W) (f := f) (kd := kd) (ba := ba) (ra := ra) (en := en) (wa := wa) (ev := ev) (la := la) (po := po); rw [decide_eq_true hR0] at h; exact h
  have t0 : decide (wa < 1) = true := decide_eq_true h0
  clear hR0 h0
  have cc := Below.refl w.heap.size w
  go_enter Try.func3, Try.ntmps3
  go_wp2_with fail
  generalize hv_ : (w.alloc (.cells #[.int .i64 kd, .int .i64 ba, .int .i64 ra, .int .i64 en, .int .i64 wa, .int .i64 ev, .int .i64 la, .int .i64 po] 23)).alloc (.cells #[.int .i64 t, .int .i64 u] 24) = v1
  have bA : Below w.heap.size w v1 := by rw [← hv_]; exact (((Below.refl _ w).alloc (by simp) _).alloc (by simp) _)
  replace cc := bK cc bA
  clear bA
  have sc0 : v1.cell? ⟨w.heap.size, 0, none⟩ = some (.int .i64 kd) := by simp [← hv_, go_sem]
  have sc1 : v1.cell? ⟨w.heap.size, 1, none⟩ = some (.int .i64 ba) := by simp [← hv_, go_sem]
  have sc2 : v1.cell? ⟨w.heap.size, 2, none⟩ = some (.int .i64 ra) := by simp [← hv_, go_sem]
  have sc3 : v1.cell? ⟨w.heap.size, 3, none⟩ = some (.int .i64 en) := by simp [← hv_, go_sem]
  have sc4 : v1.cell? ⟨w.heap.size, 4, none⟩ = some (.int .i64 wa) := by simp [← hv_, go_sem]
  have sc5 : v1.cell? ⟨w.heap.size, 5, none⟩ = some (.int .i64 ev) := by simp [← hv_, go_sem]
  have sc6 : v1.cell? ⟨w.heap.size, 6, none⟩ = some (.int .i64 la) := by simp [← hv_, go_sem]
  have sc7 : v1.cell? ⟨w.heap.size, 7, none⟩ = some (.int .i64 po) := by simp [← hv_, go_sem]
  have scl : w.heap.size < v1.heap.size := by simp [← hv_] <;> omega
  obtain ⟨pt0, pt1⟩ : Cs2 v1 (w.heap.size + 1) (.int .i64 t) (.int .i64 u) := by simp [Cs2, ← hv_, go_sem]
  have ptl : w.heap.size + 1 < v1.heap.size := by simp [← hv_] <;> omega
  clear hv_
  go_wp2_with fail
  refine (CR0 _).mono ?_
  rintro e w2 ⟨rfl, b⟩
  rewrite [cR b scl] at sc0 sc1 sc2 sc3 sc4 sc5 sc6 sc7
  replace scl := lK b scl
  rewrite [cR b ptl] at pt0 pt1
  replace ptl := lK b ptl
  replace cc := bK cc b
  clear b
  go_wp2_with fail
  refine (alive15_any _).mono ?_
  rintro e w3 ⟨rfl, b⟩
  rewrite [cR b scl] at sc0 sc1 sc2 sc3 sc4 sc5 sc6 sc7
  replace scl := lK b scl
  rewrite [cR b ptl] at pt0 pt1
  replace ptl := lK b ptl
  replace cc := bK cc b
  clear b
  go_wp2_with fail
  go_ret
  exact ⟨rfl, cc⟩

theorem SchedWarm_e1 {w : World} {kd ba ra en wa ev la po t u f : Int} (hR0 : OkR f kd ba ra en wa ev la po) (h0 : ¬ wa < 1) (h1 : t < 1) :
    Calls Try.prog 3 #[.agg #[.int .i64 kd, .int .i64 ba, .int .i64 ra, .int .i64 en, .int .i64 wa, .int .i64 ev, .int .i64 la, .int .i64 po], .agg #[.int .i64 t, .int .i64 u], .int .i64 f] w fun e w' => e = .returned (.bool true) ∧ Below w.heap.size w w' := by
  have CR0 : ∀ W : World, Calls Try.prog 8 #[.agg #[.int .i64 kd, .int .i64 ba, .int .i64 ra, .int .i64 en, .int .i64 wa, .int .i64 ev, .int .i64 la, .int .i64 po], .int .i64 f] W (GotV W (.bool true)) := fun W => by have h := rRight15_N (w := W) (f := f) (kd := kd) (ba := ba) (ra := ra) (en := en) (wa := wa) (ev := ev) (la := la) (po := po); rw [decide_eq_true hR0] at h; exact h
  have t0 : decide (wa < 1) = false := decide_eq_false h0
  have t1 : decide (t < 1) = true := decide_eq_true h1
  clear hR0 h0 h1
  have cc := Below.refl w.heap.size w
  go_enter Try.func3, Try.ntmps3
  go_wp2_with fail
  generalize hv_ : (w.alloc (.cells #[.int .i64 kd, .int .i64 ba, .int .i64 ra, .int .i64 en, .int .i64 wa, .int .i64 ev, .int .i64 la, .int .i64 po] 23)).alloc (.cells #[.int .i64 t, .int .i64 u] 24) = v1
  have bA : Below w.heap.size w v1 := by rw [← hv_]; exact (((Below.refl _ w).alloc (by simp) _).alloc (by simp) _)
  replace cc := bK cc bA
  clear bA
  have sc0 : v1.cell? ⟨w.heap.size, 0, none⟩ = some (.int .i64 kd) := by simp [← hv_, go_sem]
  have sc1 : v1.cell? ⟨w.heap.size, 1, none⟩ = some (.int .i64 ba) := by simp [← hv_, go_sem]
  have sc2 : v1.cell? ⟨w.heap.size, 2, none⟩ = some (.int .i64 ra) := by simp [← hv_, go_sem]
  have sc3 : v1.cell? ⟨w.heap.size, 3, none⟩ = some (.int .i64 en) := by simp [← hv_, go_sem]
  have sc4 : v1.cell? ⟨w.heap.size, 4, none⟩ = some (.int .i64 wa) := by simp [← hv_, go_sem]
  have sc5 : v1.cell? ⟨w.heap.size, 5, none⟩ = some (.int .i64 ev) := by simp [← hv_, go_sem]
  have sc6 : v1.cell? ⟨w.heap.size, 6, none⟩ = some (.int .i64 la) := by simp [← hv_, go_sem]
  have sc7 : v1.cell? ⟨w.heap.size, 7, none⟩ = some (.int .i64 po) := by simp [← hv_, go_sem]
  have scl : w.heap.size < v1.heap.size := by simp [← hv_] <;> omega
  obtain ⟨pt0, pt1⟩ : Cs2 v1 (w.heap.size + 1) (.int .i64 t) (.int .i64 u) := by simp [Cs2, ← hv_, go_sem]
  have ptl : w.heap.size + 1 < v1.heap.size := by simp [← hv_] <;> omega
  clear hv_
  go_wp2_with fail
  refine (CR0 _).mono ?_
  rintro e w2 ⟨rfl, b⟩
  rewrite [cR b scl] at sc0 sc1 sc2 sc3 sc4 sc5 sc6 sc7
  replace scl := lK b scl
  rewrite [cR b ptl] at pt0 pt1
  replace ptl := lK b ptl
  replace cc := bK cc b
  clear b
  go_wp2_with fail
  refine (alive15_any _).mono ?_
  rintro e w3 ⟨rfl, b⟩
  rewrite [cR b scl] at sc0 sc1 sc2 sc3 sc4 sc5 sc6 sc7
  replace scl := lK b scl
  rewrite [cR b ptl] at pt0 pt1
  replace ptl := lK b ptl
  replace cc := bK cc b
  clear b
  go_wp2_with fail
  go_ret
  exact ⟨rfl, cc⟩

theorem SchedWarm_e2 {w : World} {kd ba ra en wa ev la po t u f : Int} (hR0 : OkR f kd ba ra en wa ev la po) (h0 : ¬ wa < 1) (h1 : ¬ t < 1) (h2 : u < t) :
    Calls Try.prog 3 #[.agg #[.int .i64 kd, .int .i64 ba, .int .i64 ra, .int .i64 en, .int .i64 wa, .int .i64 ev, .int .i64 la, .int .i64 po], .agg #[.int .i64 t, .int .i64 u], .int .i64 f] w fun e w' => e = .returned (.bool true) ∧ Below w.heap.size w w' := by
  have CR0 : ∀ W : World, Calls Try.prog 8 #[.agg #[.int .i64 kd, .int .i64 ba, .int .i64 ra, .int .i64 en, .int .i64 wa, .int .i64 ev, .int .i64 la, .int .i64 po], .int .i64 f] W (GotV W (.bool true)) := fun W => by have h := rRight15_N (w := W) (f := f) (kd := kd) (ba := ba) (ra := ra) (en := en) (wa := wa) (ev := ev) (la := la) (po := po); rw [decide_eq_true hR0] at h; exact h
  have t0 : decide (wa < 1) = false := decide_eq_false h0
  have t1 : decide (t < 1) = false := decide_eq_false h1
  have t2 : decide (u < t) = true := decide_eq_true h2
  clear hR0 h0 h1 h2
  have cc := Below.refl w.heap.size w
  go_enter Try.func3, Try.ntmps3
  go_wp2_with fail
  generalize hv_ : (w.alloc (.cells #[.int .i64 kd, .int .i64 ba, .int .i64 ra, .int .i64 en, .int .i64 wa, .int .i64 ev, .int .i64 la, .int .i64 po] 23)).alloc (.cells #[.int .i64 t, .int .i64 u] 24) = v1
  have bA : Below w.heap.size w v1 := by rw [← hv_]; exact (((Below.refl _ w).alloc (by simp) _).alloc (by simp) _)
  replace cc := bK cc bA
  clear bA
  have sc0 : v1.cell? ⟨w.heap.size, 0, none⟩ = some (.int .i64 kd) := by simp [← hv_, go_sem]
  have sc1 : v1.cell? ⟨w.heap.size, 1, none⟩ = some (.int .i64 ba) := by simp [← hv_, go_sem]
  have sc2 : v1.cell? ⟨w.heap.size, 2, none⟩ = some (.int .i64 ra) := by simp [← hv_, go_sem]
  have sc3 : v1.cell? ⟨w.heap.size, 3, none⟩ = some (.int .i64 en) := by simp [← hv_, go_sem]
  have sc4 : v1.cell? ⟨w.heap.size, 4, none⟩ = some (.int .i64 wa) := by simp [← hv_, go_sem]
  have sc5 : v1.cell? ⟨w.heap.size, 5, none⟩ = some (.int .i64 ev) := by simp [← hv_, go_sem]
  have sc6 : v1.cell? ⟨w.heap.size, 6, none⟩ = some (.int .i64 la) := by simp [← hv_, go_sem]
  have sc7 : v1.cell? ⟨w.heap.size, 7, none⟩ = some (.int .i64 po) := by simp [← hv_, go_sem]
  have scl : w.heap.size < v1.heap.size := by simp [← hv_] <;> omega
  obtain ⟨pt0, pt1⟩ : Cs2 v1 (w.heap.size + 1) (.int .i64 t) (.int .i64 u) := by simp [Cs2, ← hv_, go_sem]
  have ptl : w.heap.size + 1 < v1.heap.size := by simp [← hv_] <;> omega
  clear hv_
  go_wp2_with fail
  refine (CR0 _).mono ?_
  rintro e w2 ⟨rfl, b⟩
  rewrite [cR b scl] at sc0 sc1 sc2 sc3 sc4 sc5 sc6 sc7
  replace scl := lK b scl
  rewrite [cR b ptl] at pt0 pt1
  replace ptl := lK b ptl
  replace cc := bK cc b
  clear b
  go_wp2_with fail
  refine (alive15_any _).mono ?_
  rintro e w3 ⟨rfl, b⟩
  rewrite [cR b scl] at sc0 sc1 sc2 sc3 sc4 sc5 sc6 sc7
  replace scl := lK b scl
  rewrite [cR b ptl] at pt0 pt1
  replace ptl := lK b ptl
  replace cc := bK cc b
  clear b
  go_wp2_with fail
  go_ret
  exact ⟨rfl, cc⟩

theorem SchedWarm_e3 {w : World} {kd ba ra en wa ev la po t u f : Int} (hR0 : OkR f kd ba ra en wa ev la po) (h0 : ¬ wa < 1) (h1 : ¬ t < 1) (h2 : ¬ u < t) (h3 : wa < u) :
    Calls Try.prog 3 #[.agg #[.int .i64 kd, .int .i64 ba, .int .i64 ra, .int .i64 en, .int .i64 wa, .int .i64 ev, .int .i64 la, .int .i64 po], .agg #[.int .i64 t, .int .i64 u], .int .i64 f] w fun e w' => e = .returned (.bool true) ∧ Below w.heap.size w w' := by
  have CR0 : ∀ W : World, Calls Try.prog 8 #[.agg #[.int .i64 kd, .int .i64 ba, .int .i64 ra, .int .i64 en, .int .i64 wa, .int .i64 ev, .int .i64 la, .int .i64 po], .int .i64 f] W (GotV W (.bool true)) := fun W => by have h := rRight15_N (w := W) (f := f) (kd := kd) (ba := ba) (ra := ra) (en := en) (wa := wa) (ev := ev) (la := la) (po := po); rw [decide_eq_true hR0] at h; exact h
  have t0 : decide (wa < 1) = false := decide_eq_false h0
  have t1 : decide (t < 1) = false := decide_eq_false h1
  have t2 : decide (u < t) = false := decide_eq_false h2
  have t3 : decide (wa < u) = true := decide_eq_true h3
  clear hR0 h0 h1 h2 h3
  have cc := Below.refl w.heap.size w
  go_enter Try.func3, Try.ntmps3
  go_wp2_with fail
  generalize hv_ : (w.alloc (.cells #[.int .i64 kd, .int .i64 ba, .int .i64 ra, .int .i64 en, .int .i64 wa, .int .i64 ev, .int .i64 la, .int .i64 po] 23)).alloc (.cells #[.int .i64 t, .int .i64 u] 24) = v1
  have bA : Below w.heap.size w v1 := by rw [← hv_]; exact (((Below.refl _ w).alloc (by simp) _).alloc (by simp) _)
  replace cc := bK cc bA
  clear bA
  have sc0 : v1.cell? ⟨w.heap.size, 0, none⟩ = some (.int .i64 kd) := by simp [← hv_, go_sem]
  have sc1 : v1.cell? ⟨w.heap.size, 1, none⟩ = some (.int .i64 ba) := by simp [← hv_, go_sem]
  have sc2 : v1.cell? ⟨w.heap.size, 2, none⟩ = some (.int .i64 ra) := by simp [← hv_, go_sem]
  have sc3 : v1.cell? ⟨w.heap.size, 3, none⟩ = some (.int .i64 en) := by simp [← hv_, go_sem]
  have sc4 : v1.cell? ⟨w.heap.size, 4, none⟩ = some (.int .i64 wa) := by simp [← hv_, go_sem]
  have sc5 : v1.cell? ⟨w.heap.size, 5, none⟩ = some (.int .i64 ev) := by simp [← hv_, go_sem]
  have sc6 : v1.cell? ⟨w.heap.size, 6, none⟩ = some (.int .i64 la) := by simp [← hv_, go_sem]
  have sc7 : v1.cell? ⟨w.heap.size, 7, none⟩ = some (.int .i64 po) := by simp [← hv_, go_sem]
  have scl : w.heap.size < v1.heap.size := by simp [← hv_] <;> omega
  obtain ⟨pt0, pt1⟩ : Cs2 v1 (w.heap.size + 1) (.int .i64 t) (.int .i64 u) := by simp [Cs2, ← hv_, go_sem]
  have ptl : w.heap.size + 1 < v1.heap.size := by simp [← hv_] <;> omega
  clear hv_
  go_wp2_with fail
  refine (CR0 _).mono ?_
  rintro e w2 ⟨rfl, b⟩
  rewrite [cR b scl] at sc0 sc1 sc2 sc3 sc4 sc5 sc6 sc7
  replace scl := lK b scl
  rewrite [cR b ptl] at pt0 pt1
  replace ptl := lK b ptl
  replace cc := bK cc b
  clear b
  go_wp2_with fail
  refine (alive15_any _).mono ?_
  rintro e w3 ⟨rfl, b⟩
  rewrite [cR b scl] at sc0 sc1 sc2 sc3 sc4 sc5 sc6 sc7
  replace scl := lK b scl
  rewrite [cR b ptl] at pt0 pt1
  replace ptl := lK b ptl
  replace cc := bK cc b
  clear b
  go_wp2_with fail
  go_ret
  exact ⟨rfl, cc⟩

theorem SchedWarm_a {w : World} {kd ba ra en wa ev la po t u f : Int} (hR0 : OkR f kd ba ra en wa ev la po) (h0 : ¬ wa < 1) (h1 : ¬ t < 1) (h2 : ¬ u < t) (h3 : ¬ wa < u) (hIt : I64 kd ∧ I64 ba ∧ I64 ra ∧ I64 en ∧ I64 wa ∧ I64 ev ∧ I64 la ∧ I64 po ∧ I64 t ∧ I64 f) (hIu : I64 kd ∧ I64 ba ∧ I64 ra ∧ I64 en ∧ I64 wa ∧ I64 ev ∧ I64 la ∧ I64 po ∧ I64 u ∧ I64 f) (hq : ba * t ≤ rn (ba * t) wa.toNat * wa) :
    Calls Try.prog 3 #[.agg #[.int .i64 kd, .int .i64 ba, .int .i64 ra, .int .i64 en, .int .i64 wa, .int .i64 ev, .int .i64 la, .int .i64 po], .agg #[.int .i64 t, .int .i64 u], .int .i64 f] w fun e w' => e = .returned (.bool true) ∧ Below w.heap.size w w' := by
  have CR0 : ∀ W : World, Calls Try.prog 8 #[.agg #[.int .i64 kd, .int .i64 ba, .int .i64 ra, .int .i64 en, .int .i64 wa, .int .i64 ev, .int .i64 la, .int .i64 po], .int .i64 f] W (GotV W (.bool true)) := fun W => by have h := rRight15_N (w := W) (f := f) (kd := kd) (ba := ba) (ra := ra) (en := en) (wa := wa) (ev := ev) (la := la) (po := po); rw [decide_eq_true hR0] at h; exact h
  have t0 : decide (wa < 1) = false := decide_eq_false h0
  have t1 : decide (t < 1) = false := decide_eq_false h1
  have t2 : decide (u < t) = false := decide_eq_false h2
  have t3 : decide (wa < u) = false := decide_eq_false h3
  obtain ⟨i_kd, i_ba, i_ra, i_en, i_wa, i_ev, i_la, i_po, i_t, i_f⟩ := id hIt
  have hb := hR0.2.2.1
  have hwa := hR0.2.2.2.1
  have m1 := warm_mono hR0 (show 1 ≤ wa by omega) (show t ≤ u by omega)
  have m2 := warm_mono hR0 (show 1 ≤ wa by omega) (show u ≤ wa by omega)
  have m3 := warm_end (ba := ba) (show 1 ≤ wa by omega)
  rw [m3] at m2
  have m0 := rn_nonneg (x := ba * t) (d := wa.toNat) (by omega) (Int.mul_nonneg hb (by omega))
  have CX : ∀ W : World, Calls Try.prog 10 #[.agg #[.int .i64 kd, .int .i64 ba, .int .i64 ra, .int .i64 en, .int .i64 wa, .int .i64 ev, .int .i64 la, .int .i64 po], .int .i64 t, .int .i64 f] W (GotV W (.tuple #[.int .i64 (rn (ba * t) wa.toNat), .int .i64 0])) := fun W => by
    have h := sRate_N W (t := t) (f := f) (by first | exact hIt | exact ⟨i_kd, i_ba, i_ra, i_en, i_wa, i_ev, i_la, i_po, i_wa, i_f⟩)
    rw [(rVE hR0 (by omega) (by omega)).1, (rVE hR0 (by omega) (by omega)).2, rt_warm (by omega)] at h
    exact h
  have CY : ∀ W : World, Calls Try.prog 10 #[.agg #[.int .i64 kd, .int .i64 ba, .int .i64 ra, .int .i64 en, .int .i64 wa, .int .i64 ev, .int .i64 la, .int .i64 po], .int .i64 u, .int .i64 f] W (GotV W (.tuple #[.int .i64 (rn (ba * u) wa.toNat), .int .i64 0])) := fun W => by
    have h := sRate_N W (t := u) (f := f) (by first | exact hIu | exact ⟨i_kd, i_ba, i_ra, i_en, i_wa, i_ev, i_la, i_po, i_wa, i_f⟩)
    rw [(rVE hR0 (by omega) (by omega)).1, (rVE hR0 (by omega) (by omega)).2, rt_warm (by omega)] at h
    exact h
  have CZ : ∀ W : World, Calls Try.prog 10 #[.agg #[.int .i64 kd, .int .i64 ba, .int .i64 ra, .int .i64 en, .int .i64 wa, .int .i64 ev, .int .i64 la, .int .i64 po], .int .i64 wa, .int .i64 f] W (GotV W (.tuple #[.int .i64 ba, .int .i64 0])) := fun W => by
    have h := sRate_N W (t := wa) (f := f) (by first | exact hIt | exact ⟨i_kd, i_ba, i_ra, i_en, i_wa, i_ev, i_la, i_po, i_wa, i_f⟩)
    rw [(rVE hR0 (by omega) (by omega)).1, (rVE hR0 (by omega) (by omega)).2, rt_warm (by omega), m3] at h
    exact h
  obtain ⟨xn, ex⟩ : ∃ n : Nat, rn (ba * t) wa.toNat = (n : Int) := ⟨(rn (ba * t) wa.toNat).toNat, by omega⟩
  obtain ⟨y, ey⟩ : ∃ y, rn (ba * u) wa.toNat = y := ⟨_, rfl⟩
  rw [ex] at m0 m1 CX
  rw [ey] at m1 m2 CY
  clear m3
  obtain ⟨bn, rfl⟩ : ∃ n : Nat, ba = (n : Int) := ⟨ba.toNat, by omega⟩
  obtain ⟨tn, rfl⟩ : ∃ n : Nat, t = (n : Int) := ⟨t.toNat, by omega⟩
  obtain ⟨wn, rfl⟩ : ∃ n : Nat, wa = (n : Int) := ⟨wa.toNat, by omega⟩
  rw [Int.toNat_natCast] at ex hq
  have hf := rn_far (bn * tn) wn (by omega)
  rw [Int.natCast_mul, ex, ← Int.natCast_mul, ← Int.natCast_mul] at hf
  have hq2 : bn * tn ≤ xn * wn := by rw [ex, ← Int.natCast_mul, ← Int.natCast_mul] at hq; omega
  have hfar : (xn * wn - bn * tn) + (xn * wn - bn * tn) ≤ wn := by omega
  have b64 : bn < B64 := by unfold I64 at i_ba; unfold B64; omega
  have w64 : wn < B64 := by unfold B64; omega
  have n64 : tn < B64 := by unfold B64; omega
  have x64 : xn < B64 := by omega
  have CB := fun W : World => rof_N W bn b64
  have CW := fun W : World => rof_N W wn w64
  have CT := fun W : World => rof_N W tn n64
  have CN := fun W : World => rof_N W xn x64
  have lb_ := len_one b64
  have lw_ := len_one w64
  have lt_ := len_one n64
  have lx_ := len_one x64
  have lg_ := limbs_length_mul lx_ lw_
  have lh_ := limbs_length_mul lb_ lt_
  have lf_ : (limbs (xn * wn - bn * tn)).length ≤ 2 := Nat.le_trans (limbs_length_mono (Nat.sub_le _ _)) (by omega)
  have lz_ := limbs_length_add lf_ lf_
  obtain ⟨c1, ec1⟩ : ∃ c, cmpN ((xn * wn - bn * tn) + (xn * wn - bn * tn)) (wn) = c := ⟨_, rfl⟩
  have Cc1 := fun {W : World} {A B : Option Addr} {a b c d : Nat} (h1 : Num W A a b ((xn * wn - bn * tn) + (xn * wn - bn * tn))) (h2 : Num W B c d (wn)) => rcmp_N h1 h2 (Nat.le_trans lz_ (by omega)) (Nat.le_trans lw_ (by omega))
  rw [ec1] at Cc1
  have rc1 : decide (c1 ≤ 0) = true := decide_eq_true (by rw [← ec1]; unfold cmpN; have := hfar; split <;> (try split) <;> omega)
  have HQ := Lib.hid hq2
  have k1 : IntKind.u64.wrap (bn : Int) = (bn : Int) := by rw [IntKind.wrap_u64]; unfold B64 at b64; omega
  have k2 : IntKind.u64.wrap (wn : Int) = (wn : Int) := by rw [IntKind.wrap_u64]; unfold B64 at w64; omega
  have k3 : IntKind.u64.wrap (tn : Int) = (tn : Int) := by rw [IntKind.wrap_u64]; unfold B64 at n64; omega
  have k4 : IntKind.u64.wrap (xn : Int) = (xn : Int) := by rw [IntKind.wrap_u64]; unfold B64 at x64; omega
  have p1 : decide (y < (xn : Int)) = false := decide_eq_false (by omega)
  have p2 : decide ((xn : Int) < 0) = false := decide_eq_false (by omega)
  have p3 : decide ((bn : Int) < y) = false := decide_eq_false (by omega)
  have p4 : ((bn : Int) != (bn : Int)) = false := by simp
  have p5 : ((bn : Int) == (bn : Int)) = true := by simp
  have Hb := Lib.hid lb_
  have Hw := Lib.hid lw_
  have Ht := Lib.hid lt_
  have Hx := Lib.hid lx_
  have Hg := Lib.hid lg_
  have Hh := Lib.hid lh_
  have Hf := Lib.hid lf_
  have Hz := Lib.hid lz_
  clear hR0 h0 h1 h2 h3 hIt hIu hb hwa m0 m1 m2 ex ey hq hf hq2 hfar b64 w64 n64 x64 ec1 i_kd i_ba i_ra i_en i_wa i_ev i_la i_po i_t i_f lb_ lw_ lt_ lx_ lg_ lh_ lf_ lz_
  have cc := Below.refl w.heap.size w
  go_enter Try.func3, Try.ntmps3
  go_wp2_with fail
  generalize hv_ : (w.alloc (.cells #[.int .i64 kd, .int .i64 (bn : Int), .int .i64 ra, .int .i64 en, .int .i64 (wn : Int), .int .i64 ev, .int .i64 la, .int .i64 po] 23)).alloc (.cells #[.int .i64 (tn : Int), .int .i64 u] 24) = v1
  have bA : Below w.heap.size w v1 := by rw [← hv_]; exact (((Below.refl _ w).alloc (by simp) _).alloc (by simp) _)
  replace cc := bK cc bA
  clear bA
  have sc0 : v1.cell? ⟨w.heap.size, 0, none⟩ = some (.int .i64 kd) := by simp [← hv_, go_sem]
  have sc1 : v1.cell? ⟨w.heap.size, 1, none⟩ = some (.int .i64 (bn : Int)) := by simp [← hv_, go_sem]
  have sc2 : v1.cell? ⟨w.heap.size, 2, none⟩ = some (.int .i64 ra) := by simp [← hv_, go_sem]
  have sc3 : v1.cell? ⟨w.heap.size, 3, none⟩ = some (.int .i64 en) := by simp [← hv_, go_sem]
  have sc4 : v1.cell? ⟨w.heap.size, 4, none⟩ = some (.int .i64 (wn : Int)) := by simp [← hv_, go_sem]
  have sc5 : v1.cell? ⟨w.heap.size, 5, none⟩ = some (.int .i64 ev) := by simp [← hv_, go_sem]
  have sc6 : v1.cell? ⟨w.heap.size, 6, none⟩ = some (.int .i64 la) := by simp [← hv_, go_sem]
  have sc7 : v1.cell? ⟨w.heap.size, 7, none⟩ = some (.int .i64 po) := by simp [← hv_, go_sem]
  have scl : w.heap.size < v1.heap.size := by simp [← hv_] <;> omega
  obtain ⟨pt0, pt1⟩ : Cs2 v1 (w.heap.size + 1) (.int .i64 (tn : Int)) (.int .i64 u) := by simp [Cs2, ← hv_, go_sem]
  have ptl : w.heap.size + 1 < v1.heap.size := by simp [← hv_] <;> omega
  clear hv_
  go_wp2_with fail
  refine (CR0 _).mono ?_
  rintro e w2 ⟨rfl, b⟩
  rewrite [cR b scl] at sc0 sc1 sc2 sc3 sc4 sc5 sc6 sc7
  replace scl := lK b scl
  rewrite [cR b ptl] at pt0 pt1
  replace ptl := lK b ptl
  replace cc := bK cc b
  clear b
  go_wp2_with fail
  refine (CX _).mono ?_
  rintro e w3 ⟨rfl, b⟩
  rewrite [cR b scl] at sc0 sc1 sc2 sc3 sc4 sc5 sc6 sc7
  replace scl := lK b scl
  rewrite [cR b ptl] at pt0 pt1
  replace ptl := lK b ptl
  replace cc := bK cc b
  clear b
  go_wp2_with fail
  refine (CY _).mono ?_
  rintro e w4 ⟨rfl, b⟩
  rewrite [cR b scl] at sc0 sc1 sc2 sc3 sc4 sc5 sc6 sc7
  replace scl := lK b scl
  rewrite [cR b ptl] at pt0 pt1
  replace ptl := lK b ptl
  replace cc := bK cc b
  clear b
  go_wp2_with fail
  refine (CZ _).mono ?_
  rintro e w5 ⟨rfl, b⟩
  rewrite [cR b scl] at sc0 sc1 sc2 sc3 sc4 sc5 sc6 sc7
  replace scl := lK b scl
  rewrite [cR b ptl] at pt0 pt1
  replace ptl := lK b ptl
  replace cc := bK cc b
  clear b
  go_wp2_with fail
  refine (CW _).mono ?_
  rintro e w6 ⟨Aw, nw, cw, rfl, hw, b⟩
  rewrite [cR b scl] at sc0 sc1 sc2 sc3 sc4 sc5 sc6 sc7
  replace scl := lK b scl
  rewrite [cR b ptl] at pt0 pt1
  replace ptl := lK b ptl
  replace cc := bK cc b
  clear b
  go_wp2_with fail
  refine (CN _).mono ?_
  rintro e w7 ⟨An, nn_, cn_, rfl, hn, b⟩
  replace hw := hw.on b
  rewrite [cR b scl] at sc0 sc1 sc2 sc3 sc4 sc5 sc6 sc7
  replace scl := lK b scl
  rewrite [cR b ptl] at pt0 pt1
  replace ptl := lK b ptl
  replace cc := bK cc b
  clear b
  go_wp2_with fail
  refine (rmul_N hn hw (Nat.le_trans Hx.out (by omega)) (Nat.le_trans Hw.out (by omega))).mono ?_
  rintro e w8 ⟨Ag, ng, cg, rfl, hg, b⟩
  replace hw := hw.on b
  replace hn := hn.on b
  rewrite [cR b scl] at sc0 sc1 sc2 sc3 sc4 sc5 sc6 sc7
  replace scl := lK b scl
  rewrite [cR b ptl] at pt0 pt1
  replace ptl := lK b ptl
  replace cc := bK cc b
  clear b
  clear hn
  go_wp2_with fail
  have qq : Below w8.heap.size w8 w8.drew := below_drewN (Below.refl _ w8) 1
  have hw' := hw.on qq
  have hg' := hg.on qq
  go_region_held3 (fun w' => w'.cell? ⟨w.heap.size, 0, none⟩ = some (.int .i64 kd) ∧ w'.cell? ⟨w.heap.size, 1, none⟩ = some (.int .i64 (bn : Int)) ∧ w'.cell? ⟨w.heap.size, 2, none⟩ = some (.int .i64 ra) ∧ w'.cell? ⟨w.heap.size, 3, none⟩ = some (.int .i64 en) ∧ w'.cell? ⟨w.heap.size, 4, none⟩ = some (.int .i64 (wn : Int)) ∧ w'.cell? ⟨w.heap.size, 5, none⟩ = some (.int .i64 ev) ∧ w'.cell? ⟨w.heap.size, 6, none⟩ = some (.int .i64 la) ∧ w'.cell? ⟨w.heap.size, 7, none⟩ = some (.int .i64 po) ∧ w'.cell? ⟨w.heap.size + 1, 0, none⟩ = some (.int .i64 (tn : Int)) ∧ w'.cell? ⟨w.heap.size + 1, 1, none⟩ = some (.int .i64 u))
    (first | with_reducible exact ⟨cK qq sc0 scl, cK qq sc1 scl, cK qq sc2 scl, cK qq sc3 scl, cK qq sc4 scl, cK qq sc5 scl, cK qq sc6 scl, cK qq sc7 scl, cK qq pt0 ptl, cK qq pt1 ptl⟩ | go_keep)
    (first
      | (go_at_call 11; (with_reducible refine (CB _).mono ?_); rintro e wz ⟨Ab, nb, cb, rfl, hb, q⟩; replace qq := bK qq q; (try replace hw' := hw'.on q); (try replace hg' := hg'.on q); (try replace ht := ht.on q); (try replace hh := hh.on q); clear q)
      | (go_at_call 11; (with_reducible refine (CT _).mono ?_); rintro e wz ⟨At, nt, ct, rfl, ht, q⟩; replace qq := bK qq q; (try replace hw' := hw'.on q); (try replace hg' := hg'.on q); (try replace hb := hb.on q); (try replace hh := hh.on q); clear q)
      | (go_at_call 12; (with_reducible refine (rmul_N hb ht (Nat.le_trans Hb.out (by omega)) (Nat.le_trans Ht.out (by omega))).mono ?_); rintro e wz ⟨Ah, nh, ch, rfl, hh, q⟩; replace qq := bK qq q; (try replace hw' := hw'.on q); (try replace hg' := hg'.on q); (try replace hb := hb.on q); (try replace ht := ht.on q); clear q))
  all_goals
    clear hw
    have hw := hw'
    clear hw'
    clear hg
    have hg := hg'
    clear hg'
    rewrite [cR qq scl] at sc0 sc1 sc2 sc3 sc4 sc5 sc6 sc7
    replace scl := lK qq scl
    rewrite [cR qq ptl] at pt0 pt1
    replace ptl := lK qq ptl
    replace cc := bK cc qq
    clear qq
    clear hb ht
    go_wp2_with fail
    refine (rsub_N hg hh (Nat.le_trans Hg.out (by omega)) (Nat.le_trans Hh.out (by omega)) HQ.out).mono ?_
    rintro e w12 ⟨Af, nf, cf, rfl, hf, b⟩
    replace hw := hw.on b
    replace hg := hg.on b
    replace hh := hh.on b
    rewrite [cR b scl] at sc0 sc1 sc2 sc3 sc4 sc5 sc6 sc7
    replace scl := lK b scl
    rewrite [cR b ptl] at pt0 pt1
    replace ptl := lK b ptl
    replace cc := bK cc b
    clear b
    go_wp2_with fail
    refine (alive15_any _).mono ?_
    rintro e w13 ⟨rfl, b⟩
    replace hw := hw.on b
    replace hg := hg.on b
    replace hh := hh.on b
    replace hf := hf.on b
    rewrite [cR b scl] at sc0 sc1 sc2 sc3 sc4 sc5 sc6 sc7
    replace scl := lK b scl
    rewrite [cR b ptl] at pt0 pt1
    replace ptl := lK b ptl
    replace cc := bK cc b
    clear b
    go_wp2_with fail
    refine (radd_N hf hf (Nat.le_trans Hf.out (by omega)) (Nat.le_trans Hf.out (by omega))).mono ?_
    rintro e w14 ⟨Az, nz, cz, rfl, hz, b⟩
    replace hw := hw.on b
    replace hg := hg.on b
    replace hh := hh.on b
    replace hf := hf.on b
    rewrite [cR b scl] at sc0 sc1 sc2 sc3 sc4 sc5 sc6 sc7
    replace scl := lK b scl
    rewrite [cR b ptl] at pt0 pt1
    replace ptl := lK b ptl
    replace cc := bK cc b
    clear b
    go_wp2_with fail
    refine (Cc1 hz hw).mono ?_
    rintro e w15 ⟨rfl, b⟩
    replace hw := hw.on b
    replace hg := hg.on b
    replace hh := hh.on b
    replace hf := hf.on b
    replace hz := hz.on b
    rewrite [cR b scl] at sc0 sc1 sc2 sc3 sc4 sc5 sc6 sc7
    replace scl := lK b scl
    rewrite [cR b ptl] at pt0 pt1
    replace ptl := lK b ptl
    replace cc := bK cc b
    clear b
    go_wp2_with fail
    go_ret
    exact ⟨rfl, cc⟩

theorem SchedWarm_b {w : World} {kd ba ra en wa ev la po t u f : Int} (hR0 : OkR f kd ba ra en wa ev la po) (h0 : ¬ wa < 1) (h1 : ¬ t < 1) (h2 : ¬ u < t) (h3 : ¬ wa < u) (hIt : I64 kd ∧ I64 ba ∧ I64 ra ∧ I64 en ∧ I64 wa ∧ I64 ev ∧ I64 la ∧ I64 po ∧ I64 t ∧ I64 f) (hIu : I64 kd ∧ I64 ba ∧ I64 ra ∧ I64 en ∧ I64 wa ∧ I64 ev ∧ I64 la ∧ I64 po ∧ I64 u ∧ I64 f) (hq : rn (ba * t) wa.toNat * wa < ba * t) :
    Calls Try.prog 3 #[.agg #[.int .i64 kd, .int .i64 ba, .int .i64 ra, .int .i64 en, .int .i64 wa, .int .i64 ev, .int .i64 la, .int .i64 po], .agg #[.int .i64 t, .int .i64 u], .int .i64 f] w fun e w' => e = .returned (.bool true) ∧ Below w.heap.size w w' := by
  have CR0 : ∀ W : World, Calls Try.prog 8 #[.agg #[.int .i64 kd, .int .i64 ba, .int .i64 ra, .int .i64 en, .int .i64 wa, .int .i64 ev, .int .i64 la, .int .i64 po], .int .i64 f] W (GotV W (.bool true)) := fun W => by have h := rRight15_N (w := W) (f := f) (kd := kd) (ba := ba) (ra := ra) (en := en) (wa := wa) (ev := ev) (la := la) (po := po); rw [decide_eq_true hR0] at h; exact h
  have t0 : decide (wa < 1) = false := decide_eq_false h0
  have t1 : decide (t < 1) = false := decide_eq_false h1
  have t2 : decide (u < t) = false := decide_eq_false h2
  have t3 : decide (wa < u) = false := decide_eq_false h3
  obtain ⟨i_kd, i_ba, i_ra, i_en, i_wa, i_ev, i_la, i_po, i_t, i_f⟩ := id hIt
  have hb := hR0.2.2.1
  have hwa := hR0.2.2.2.1
  have m1 := warm_mono hR0 (show 1 ≤ wa by omega) (show t ≤ u by omega)
  have m2 := warm_mono hR0 (show 1 ≤ wa by omega) (show u ≤ wa by omega)
  have m3 := warm_end (ba := ba) (show 1 ≤ wa by omega)
  rw [m3] at m2
  have m0 := rn_nonneg (x := ba * t) (d := wa.toNat) (by omega) (Int.mul_nonneg hb (by omega))
  have CX : ∀ W : World, Calls Try.prog 10 #[.agg #[.int .i64 kd, .int .i64 ba, .int .i64 ra, .int .i64 en, .int .i64 wa, .int .i64 ev, .int .i64 la, .int .i64 po], .int .i64 t, .int .i64 f] W (GotV W (.tuple #[.int .i64 (rn (ba * t) wa.toNat), .int .i64 0])) := fun W => by
    have h := sRate_N W (t := t) (f := f) (by first | exact hIt | exact ⟨i_kd, i_ba, i_ra, i_en, i_wa, i_ev, i_la, i_po, i_wa, i_f⟩)
    rw [(rVE hR0 (by omega) (by omega)).1, (rVE hR0 (by omega) (by omega)).2, rt_warm (by omega)] at h
    exact h
  have CY : ∀ W : World, Calls Try.prog 10 #[.agg #[.int .i64 kd, .int .i64 ba, .int .i64 ra, .int .i64 en, .int .i64 wa, .int .i64 ev, .int .i64 la, .int .i64 po], .int .i64 u, .int .i64 f] W (GotV W (.tuple #[.int .i64 (rn (ba * u) wa.toNat), .int .i64 0])) := fun W => by
    have h := sRate_N W (t := u) (f := f) (by first | exact hIu | exact ⟨i_kd, i_ba, i_ra, i_en, i_wa, i_ev, i_la, i_po, i_wa, i_f⟩)
    rw [(rVE hR0 (by omega) (by omega)).1, (rVE hR0 (by omega) (by omega)).2, rt_warm (by omega)] at h
    exact h
  have CZ : ∀ W : World, Calls Try.prog 10 #[.agg #[.int .i64 kd, .int .i64 ba, .int .i64 ra, .int .i64 en, .int .i64 wa, .int .i64 ev, .int .i64 la, .int .i64 po], .int .i64 wa, .int .i64 f] W (GotV W (.tuple #[.int .i64 ba, .int .i64 0])) := fun W => by
    have h := sRate_N W (t := wa) (f := f) (by first | exact hIt | exact ⟨i_kd, i_ba, i_ra, i_en, i_wa, i_ev, i_la, i_po, i_wa, i_f⟩)
    rw [(rVE hR0 (by omega) (by omega)).1, (rVE hR0 (by omega) (by omega)).2, rt_warm (by omega), m3] at h
    exact h
  obtain ⟨xn, ex⟩ : ∃ n : Nat, rn (ba * t) wa.toNat = (n : Int) := ⟨(rn (ba * t) wa.toNat).toNat, by omega⟩
  obtain ⟨y, ey⟩ : ∃ y, rn (ba * u) wa.toNat = y := ⟨_, rfl⟩
  rw [ex] at m0 m1 CX
  rw [ey] at m1 m2 CY
  clear m3
  obtain ⟨bn, rfl⟩ : ∃ n : Nat, ba = (n : Int) := ⟨ba.toNat, by omega⟩
  obtain ⟨tn, rfl⟩ : ∃ n : Nat, t = (n : Int) := ⟨t.toNat, by omega⟩
  obtain ⟨wn, rfl⟩ : ∃ n : Nat, wa = (n : Int) := ⟨wa.toNat, by omega⟩
  rw [Int.toNat_natCast] at ex hq
  have hf := rn_far (bn * tn) wn (by omega)
  rw [Int.natCast_mul, ex, ← Int.natCast_mul, ← Int.natCast_mul] at hf
  have hq2 : xn * wn < bn * tn := by rw [ex, ← Int.natCast_mul, ← Int.natCast_mul] at hq; omega
  have hfar : (bn * tn - xn * wn) + (bn * tn - xn * wn) ≤ wn := by omega
  have b64 : bn < B64 := by unfold I64 at i_ba; unfold B64; omega
  have w64 : wn < B64 := by unfold B64; omega
  have n64 : tn < B64 := by unfold B64; omega
  have x64 : xn < B64 := by omega
  have CB := fun W : World => rof_N W bn b64
  have CW := fun W : World => rof_N W wn w64
  have CT := fun W : World => rof_N W tn n64
  have CN := fun W : World => rof_N W xn x64
  have lb_ := len_one b64
  have lw_ := len_one w64
  have lt_ := len_one n64
  have lx_ := len_one x64
  have lg_ := limbs_length_mul lx_ lw_
  have lh_ := limbs_length_mul lb_ lt_
  have lf_ : (limbs (bn * tn - xn * wn)).length ≤ 2 := Nat.le_trans (limbs_length_mono (Nat.sub_le _ _)) (by omega)
  have lz_ := limbs_length_add lf_ lf_
  obtain ⟨c1, ec1⟩ : ∃ c, cmpN ((bn * tn - xn * wn) + (bn * tn - xn * wn)) (wn) = c := ⟨_, rfl⟩
  have Cc1 := fun {W : World} {A B : Option Addr} {a b c d : Nat} (h1 : Num W A a b ((bn * tn - xn * wn) + (bn * tn - xn * wn))) (h2 : Num W B c d (wn)) => rcmp_N h1 h2 (Nat.le_trans lz_ (by omega)) (Nat.le_trans lw_ (by omega))
  rw [ec1] at Cc1
  have rc1 : decide (c1 ≤ 0) = true := decide_eq_true (by rw [← ec1]; unfold cmpN; have := hfar; split <;> (try split) <;> omega)
  have HQ := Lib.hid hq2
  have k1 : IntKind.u64.wrap (bn : Int) = (bn : Int) := by rw [IntKind.wrap_u64]; unfold B64 at b64; omega
  have k2 : IntKind.u64.wrap (wn : Int) = (wn : Int) := by rw [IntKind.wrap_u64]; unfold B64 at w64; omega
  have k3 : IntKind.u64.wrap (tn : Int) = (tn : Int) := by rw [IntKind.wrap_u64]; unfold B64 at n64; omega
  have k4 : IntKind.u64.wrap (xn : Int) = (xn : Int) := by rw [IntKind.wrap_u64]; unfold B64 at x64; omega
  have p1 : decide (y < (xn : Int)) = false := decide_eq_false (by omega)
  have p2 : decide ((xn : Int) < 0) = false := decide_eq_false (by omega)
  have p3 : decide ((bn : Int) < y) = false := decide_eq_false (by omega)
  have p4 : ((bn : Int) != (bn : Int)) = false := by simp
  have p5 : ((bn : Int) == (bn : Int)) = true := by simp
  have Hb := Lib.hid lb_
  have Hw := Lib.hid lw_
  have Ht := Lib.hid lt_
  have Hx := Lib.hid lx_
  have Hg := Lib.hid lg_
  have Hh := Lib.hid lh_
  have Hf := Lib.hid lf_
  have Hz := Lib.hid lz_
  clear hR0 h0 h1 h2 h3 hIt hIu hb hwa m0 m1 m2 ex ey hq hf hq2 hfar b64 w64 n64 x64 ec1 i_kd i_ba i_ra i_en i_wa i_ev i_la i_po i_t i_f lb_ lw_ lt_ lx_ lg_ lh_ lf_ lz_
  have cc := Below.refl w.heap.size w
  go_enter Try.func3, Try.ntmps3
  go_wp2_with fail
  generalize hv_ : (w.alloc (.cells #[.int .i64 kd, .int .i64 (bn : Int), .int .i64 ra, .int .i64 en, .int .i64 (wn : Int), .int .i64 ev, .int .i64 la, .int .i64 po] 23)).alloc (.cells #[.int .i64 (tn : Int), .int .i64 u] 24) = v1
  have bA : Below w.heap.size w v1 := by rw [← hv_]; exact (((Below.refl _ w).alloc (by simp) _).alloc (by simp) _)
  replace cc := bK cc bA
  clear bA
  have sc0 : v1.cell? ⟨w.heap.size, 0, none⟩ = some (.int .i64 kd) := by simp [← hv_, go_sem]
  have sc1 : v1.cell? ⟨w.heap.size, 1, none⟩ = some (.int .i64 (bn : Int)) := by simp [← hv_, go_sem]
  have sc2 : v1.cell? ⟨w.heap.size, 2, none⟩ = some (.int .i64 ra) := by simp [← hv_, go_sem]
  have sc3 : v1.cell? ⟨w.heap.size, 3, none⟩ = some (.int .i64 en) := by simp [← hv_, go_sem]
  have sc4 : v1.cell? ⟨w.heap.size, 4, none⟩ = some (.int .i64 (wn : Int)) := by simp [← hv_, go_sem]
  have sc5 : v1.cell? ⟨w.heap.size, 5, none⟩ = some (.int .i64 ev) := by simp [← hv_, go_sem]
  have sc6 : v1.cell? ⟨w.heap.size, 6, none⟩ = some (.int .i64 la) := by simp [← hv_, go_sem]
  have sc7 : v1.cell? ⟨w.heap.size, 7, none⟩ = some (.int .i64 po) := by simp [← hv_, go_sem]
  have scl : w.heap.size < v1.heap.size := by simp [← hv_] <;> omega
  obtain ⟨pt0, pt1⟩ : Cs2 v1 (w.heap.size + 1) (.int .i64 (tn : Int)) (.int .i64 u) := by simp [Cs2, ← hv_, go_sem]
  have ptl : w.heap.size + 1 < v1.heap.size := by simp [← hv_] <;> omega
  clear hv_
  go_wp2_with fail
  refine (CR0 _).mono ?_
  rintro e w2 ⟨rfl, b⟩
  rewrite [cR b scl] at sc0 sc1 sc2 sc3 sc4 sc5 sc6 sc7
  replace scl := lK b scl
  rewrite [cR b ptl] at pt0 pt1
  replace ptl := lK b ptl
  replace cc := bK cc b
  clear b
  go_wp2_with fail
  refine (CX _).mono ?_
  rintro e w3 ⟨rfl, b⟩
  rewrite [cR b scl] at sc0 sc1 sc2 sc3 sc4 sc5 sc6 sc7
  replace scl := lK b scl
  rewrite [cR b ptl] at pt0 pt1
  replace ptl := lK b ptl
  replace cc := bK cc b
  clear b
  go_wp2_with fail
  refine (CY _).mono ?_
  rintro e w4 ⟨rfl, b⟩
  rewrite [cR b scl] at sc0 sc1 sc2 sc3 sc4 sc5 sc6 sc7
  replace scl := lK b scl
  rewrite [cR b ptl] at pt0 pt1
  replace ptl := lK b ptl
  replace cc := bK cc b
  clear b
  go_wp2_with fail
  refine (CZ _).mono ?_
  rintro e w5 ⟨rfl, b⟩
  rewrite [cR b scl] at sc0 sc1 sc2 sc3 sc4 sc5 sc6 sc7
  replace scl := lK b scl
  rewrite [cR b ptl] at pt0 pt1
  replace ptl := lK b ptl
  replace cc := bK cc b
  clear b
  go_wp2_with fail
  refine (CW _).mono ?_
  rintro e w6 ⟨Aw, nw, cw, rfl, hw, b⟩
  rewrite [cR b scl] at sc0 sc1 sc2 sc3 sc4 sc5 sc6 sc7
  replace scl := lK b scl
  rewrite [cR b ptl] at pt0 pt1
  replace ptl := lK b ptl
  replace cc := bK cc b
  clear b
  go_wp2_with fail
  refine (CN _).mono ?_
  rintro e w7 ⟨An, nn_, cn_, rfl, hn, b⟩
  replace hw := hw.on b
  rewrite [cR b scl] at sc0 sc1 sc2 sc3 sc4 sc5 sc6 sc7
  replace scl := lK b scl
  rewrite [cR b ptl] at pt0 pt1
  replace ptl := lK b ptl
  replace cc := bK cc b
  clear b
  go_wp2_with fail
  refine (rmul_N hn hw (Nat.le_trans Hx.out (by omega)) (Nat.le_trans Hw.out (by omega))).mono ?_
  rintro e w8 ⟨Ag, ng, cg, rfl, hg, b⟩
  replace hw := hw.on b
  replace hn := hn.on b
  rewrite [cR b scl] at sc0 sc1 sc2 sc3 sc4 sc5 sc6 sc7
  replace scl := lK b scl
  rewrite [cR b ptl] at pt0 pt1
  replace ptl := lK b ptl
  replace cc := bK cc b
  clear b
  clear hn
  go_wp2_with fail
  have qq : Below w8.heap.size w8 w8.drew := below_drewN (Below.refl _ w8) 1
  have hw' := hw.on qq
  have hg' := hg.on qq
  go_region_held3 (fun w' => w'.cell? ⟨w.heap.size, 0, none⟩ = some (.int .i64 kd) ∧ w'.cell? ⟨w.heap.size, 1, none⟩ = some (.int .i64 (bn : Int)) ∧ w'.cell? ⟨w.heap.size, 2, none⟩ = some (.int .i64 ra) ∧ w'.cell? ⟨w.heap.size, 3, none⟩ = some (.int .i64 en) ∧ w'.cell? ⟨w.heap.size, 4, none⟩ = some (.int .i64 (wn : Int)) ∧ w'.cell? ⟨w.heap.size, 5, none⟩ = some (.int .i64 ev) ∧ w'.cell? ⟨w.heap.size, 6, none⟩ = some (.int .i64 la) ∧ w'.cell? ⟨w.heap.size, 7, none⟩ = some (.int .i64 po) ∧ w'.cell? ⟨w.heap.size + 1, 0, none⟩ = some (.int .i64 (tn : Int)) ∧ w'.cell? ⟨w.heap.size + 1, 1, none⟩ = some (.int .i64 u))
    (first | with_reducible exact ⟨cK qq sc0 scl, cK qq sc1 scl, cK qq sc2 scl, cK qq sc3 scl, cK qq sc4 scl, cK qq sc5 scl, cK qq sc6 scl, cK qq sc7 scl, cK qq pt0 ptl, cK qq pt1 ptl⟩ | go_keep)
    (first
      | (go_at_call 11; (with_reducible refine (CB _).mono ?_); rintro e wz ⟨Ab, nb, cb, rfl, hb, q⟩; replace qq := bK qq q; (try replace hw' := hw'.on q); (try replace hg' := hg'.on q); (try replace ht := ht.on q); (try replace hh := hh.on q); clear q)
      | (go_at_call 11; (with_reducible refine (CT _).mono ?_); rintro e wz ⟨At, nt, ct, rfl, ht, q⟩; replace qq := bK qq q; (try replace hw' := hw'.on q); (try replace hg' := hg'.on q); (try replace hb := hb.on q); (try replace hh := hh.on q); clear q)
      | (go_at_call 12; (with_reducible refine (rmul_N hb ht (Nat.le_trans Hb.out (by omega)) (Nat.le_trans Ht.out (by omega))).mono ?_); rintro e wz ⟨Ah, nh, ch, rfl, hh, q⟩; replace qq := bK qq q; (try replace hw' := hw'.on q); (try replace hg' := hg'.on q); (try replace hb := hb.on q); (try replace ht := ht.on q); clear q))
  all_goals
    clear hw
    have hw := hw'
    clear hw'
    clear hg
    have hg := hg'
    clear hg'
    rewrite [cR qq scl] at sc0 sc1 sc2 sc3 sc4 sc5 sc6 sc7
    replace scl := lK qq scl
    rewrite [cR qq ptl] at pt0 pt1
    replace ptl := lK qq ptl
    replace cc := bK cc qq
    clear qq
    clear hb ht
    go_wp2_with fail
    refine (rsub_less_N hg hh (Nat.le_trans Hg.out (by omega)) (Nat.le_trans Hh.out (by omega)) HQ.out).mono ?_
    rintro e w12 ⟨rfl, b⟩
    replace hw := hw.on b
    replace hg := hg.on b
    replace hh := hh.on b
    rewrite [cR b scl] at sc0 sc1 sc2 sc3 sc4 sc5 sc6 sc7
    replace scl := lK b scl
    rewrite [cR b ptl] at pt0 pt1
    replace ptl := lK b ptl
    replace cc := bK cc b
    clear b
    go_wp2_with fail
    refine (rsub_N hh hg (Nat.le_trans Hh.out (by omega)) (Nat.le_trans Hg.out (by omega)) (Nat.le_of_lt HQ.out)).mono ?_
    rintro e w13 ⟨Af, nf, cf, rfl, hf, b⟩
    replace hw := hw.on b
    replace hg := hg.on b
    replace hh := hh.on b
    rewrite [cR b scl] at sc0 sc1 sc2 sc3 sc4 sc5 sc6 sc7
    replace scl := lK b scl
    rewrite [cR b ptl] at pt0 pt1
    replace ptl := lK b ptl
    replace cc := bK cc b
    clear b
    go_wp2_with fail
    refine (alive15_any _).mono ?_
    rintro e w14 ⟨rfl, b⟩
    replace hw := hw.on b
    replace hg := hg.on b
    replace hh := hh.on b
    replace hf := hf.on b
    rewrite [cR b scl] at sc0 sc1 sc2 sc3 sc4 sc5 sc6 sc7
    replace scl := lK b scl
    rewrite [cR b ptl] at pt0 pt1
    replace ptl := lK b ptl
    replace cc := bK cc b
    clear b
    go_wp2_with fail
    refine (radd_N hf hf (Nat.le_trans Hf.out (by omega)) (Nat.le_trans Hf.out (by omega))).mono ?_
    rintro e w15 ⟨Az, nz, cz, rfl, hz, b⟩
    replace hw := hw.on b
    replace hg := hg.on b
    replace hh := hh.on b
    replace hf := hf.on b
    rewrite [cR b scl] at sc0 sc1 sc2 sc3 sc4 sc5 sc6 sc7
    replace scl := lK b scl
    rewrite [cR b ptl] at pt0 pt1
    replace ptl := lK b ptl
    replace cc := bK cc b
    clear b
    go_wp2_with fail
    refine (Cc1 hz hw).mono ?_
    rintro e w16 ⟨rfl, b⟩
    replace hw := hw.on b
    replace hg := hg.on b
    replace hh := hh.on b
    replace hf := hf.on b
    replace hz := hz.on b
    rewrite [cR b scl] at sc0 sc1 sc2 sc3 sc4 sc5 sc6 sc7
    replace scl := lK b scl
    rewrite [cR b ptl] at pt0 pt1
    replace ptl := lK b ptl
    replace cc := bK cc b
    clear b
    go_wp2_with fail
    go_ret
    exact ⟨rfl, cc⟩

theorem SchedWarm_all {w : World} {kd ba ra en wa ev la po t u f : Int} (hIt : I64 kd ∧ I64 ba ∧ I64 ra ∧ I64 en ∧ I64 wa ∧ I64 ev ∧ I64 la ∧ I64 po ∧ I64 t ∧ I64 f) (hIu : I64 kd ∧ I64 ba ∧ I64 ra ∧ I64 en ∧ I64 wa ∧ I64 ev ∧ I64 la ∧ I64 po ∧ I64 u ∧ I64 f) : Calls Try.prog 3 #[.agg #[.int .i64 kd, .int .i64 ba, .int .i64 ra, .int .i64 en, .int .i64 wa, .int .i64 ev, .int .i64 la, .int .i64 po], .agg #[.int .i64 t, .int .i64 u], .int .i64 f] w fun e w' => e = .returned (.bool true) ∧ Below w.heap.size w w' := by
  by_cases hR0 : OkR f kd ba ra en wa ev la po
  rotate_left
  · exact SchedWarm_n0 hR0
  by_cases h0 : wa < 1
  · exact SchedWarm_e0 hR0 h0
  by_cases h1 : t < 1
  · exact SchedWarm_e1 hR0 h0 h1
  by_cases h2 : u < t
  · exact SchedWarm_e2 hR0 h0 h1 h2
  by_cases h3 : wa < u
  · exact SchedWarm_e3 hR0 h0 h1 h2 h3
  by_cases hq : ba * t ≤ rn (ba * t) wa.toNat * wa
  · exact SchedWarm_a hR0 h0 h1 h2 h3 hIt hIu hq
  · exact SchedWarm_b hR0 h0 h1 h2 h3 hIt hIu (by omega)

end Go.Proofs.Ytmaolhajeoigpaa
