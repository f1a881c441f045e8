/-
  The walk of SchedFalls.
-/
import Derived.Test.YtmaolhajeoigpaaA9
import Derived.Test.YtmaolhajeoigpaaA10
import Derived.Test.YtmaolhajeoigpaaA3
namespace Go.Proofs.Ytmaolhajeoigpaa
set_option maxRecDepth 100000
set_option maxHeartbeats 8000000
open Go.RowKit
set_option linter.unusedVariables false
set_option linter.unusedSimpArgs false

theorem SchedFalls_n0 {w : World} {kd ba ra en wa ev la po t u f : Int} (hR0 : ¬ OkR f kd ba ra en wa ev la po) :
    Calls Try.prog 4 #[.agg #[.int .i64 kd, .int .i64 ba, .int .i64 ra, .int .i64 en, .int .i64 wa, .int .i64 ev, .int .i64 la, .int .i64 po], .agg #[.int .i64 t, .int .i64 u], .int .i64 f] w fun e w' => e = .returned (.bool true) ∧ Below w.heap.size w w' := by
  have CR0 : ∀ W : World, Calls Try.prog 8 #[.agg #[.int .i64 kd, .int .i64 ba, .int .i64 ra, .int .i64 en, .int .i64 wa, .int .i64 ev, .int .i64 la, .int .i64 po], .int .i64 f] W (GotV W (.bool false)) := fun W => by have h := rRight15_N (w := W) (f := f) (kd := kd) (ba := ba) (ra := ra) (en := en) (wa := wa) (ev := ev) (la := la) (po := po); rw [decide_eq_false hR0] at h; exact h
  clear hR0
  have cc := Below.refl w.heap.size w
  go_enter Try.func4, Try.ntmps4
  go_wp2_with fail
  generalize hv_ : (w.alloc (.cells #[.int .i64 kd, .int .i64 ba, .int .i64 ra, .int .i64 en, .int .i64 wa, .int .i64 ev, .int .i64 la, .int .i64 po] 23)).alloc (.cells #[.int .i64 t, .int .i64 u] 24) = v1
  have bA : Below w.heap.size w v1 := by rw [← hv_]; exact (((Below.refl _ w).alloc (by simp) _).alloc (by simp) _)
  replace cc := bK cc bA
  clear bA
  have sc0 : v1.cell? ⟨w.heap.size, 0, none⟩ = some (.int .i64 kd) := by simp [← hv_, go_sem]
  have sc1 : v1.cell? ⟨w.heap.size, 1, none⟩ = some (.int .i64 ba) := by simp [← hv_, go_sem]
  have sc2 : v1.cell? ⟨w.heap.size, 2, none⟩ = some (.int .i64 ra) := by simp [← hv_, go_sem]
  have sc3 : v1.cell? ⟨w.heap.size, 3, none⟩ = some (.int .i64 en) := by simp [← hv_, go_sem]
  have sc4 : v1.cell? ⟨w.heap.size, 4, none⟩ = some (.int .i64 wa) := by simp [← hv_, go_sem]
  have sc5 : v1.cell? ⟨w.heap.size, 5, none⟩ = some (.int .i64 ev) := by simp [← hv_, go_sem]
  have sc6 : v1.cell? ⟨w.heap.size, 6, none⟩ = some (.int .i64 la) := by simp [← hv_, go_sem]
  have sc7 : v1.cell? ⟨w.heap.size, 7, none⟩ = some (.int .i64 po) := by simp [← hv_, go_sem]
  have scl : w.heap.size < v1.heap.size := by simp [← hv_] <;> omega
  obtain ⟨pt0, pt1⟩ : Cs2 v1 (w.heap.size + 1) (.int .i64 t) (.int .i64 u) := by simp [Cs2, ← hv_, go_sem]
  have ptl : w.heap.size + 1 < v1.heap.size := by simp [← hv_] <;> omega
  clear hv_
  go_wp2_with fail
  refine (CR0 _).mono ?_
  rintro e w2 ⟨rfl, b⟩
  rewrite [cR b scl] at sc0 sc1 sc2 sc3 sc4 sc5 sc6 sc7
  replace scl := lK b scl
  rewrite [cR b ptl] at pt0 pt1
  replace ptl := lK b ptl
  replace cc := bK cc b
  clear b
  go_wp2_with fail
  refine (alive15_any _).mono ?_
  rintro e w3 ⟨rfl, b⟩
  rewrite [cR b scl] at sc0 sc1 sc2 sc3 sc4 sc5 sc6 sc7
  replace scl := lK b scl
  rewrite [cR b ptl] at pt0 pt1
  replace ptl := lK b ptl
  replace cc := bK cc b
  clear b
  go_wp2_with fail
  go_ret
  exact ⟨rfl, cc⟩

theorem SchedFalls_e0 {w : World} {kd ba ra en wa ev la po t u f : Int} (hR0 : OkR f kd ba ra en wa ev la po) (h0 : t < 1) :
    Calls Try.prog 4 #[.agg #[.int .i64 kd, .int .i64 ba, .int .i64 ra, .int .i64 en, .int .i64 wa, .int .i64 ev, .int .i64 la, .int .i64 po], .agg #[.int .i64 t, .int .i64 u], .int .i64 f] w fun e w' => e = .returned (.bool true) ∧ Below w.heap.size w w' := by
  have CR0 : ∀ W : World, Calls Try.prog 8 #[.agg #[.int .i64 kd, .int .i64 ba, .int .i64 ra, .int .i64 en, .int .i64 wa, .int .i64 ev, .int .i64 la, .int .i64 po], .int .i64 f] W (GotV W (.bool true)) := fun W => by have h := rRight15_N (w := W) (f := f) (kd := kd) (ba := ba) (ra := ra) (en := en) (wa := wa) (ev := ev) (la := la) (po := po); rw [decide_eq_true hR0] at h; exact h
  have t0 : decide (t < 1) = true := decide_eq_true h0
  clear hR0 h0
  have cc := Below.refl w.heap.size w
  go_enter Try.func4, Try.ntmps4
  go_wp2_with fail
  generalize hv_ : (w.alloc (.cells #[.int .i64 kd, .int .i64 ba, .int .i64 ra, .int .i64 en, .int .i64 wa, .int .i64 ev, .int .i64 la, .int .i64 po] 23)).alloc (.cells #[.int .i64 t, .int .i64 u] 24) = v1
  have bA : Below w.heap.size w v1 := by rw [← hv_]; exact (((Below.refl _ w).alloc (by simp) _).alloc (by simp) _)
  replace cc := bK cc bA
  clear bA
  have sc0 : v1.cell? ⟨w.heap.size, 0, none⟩ = some (.int .i64 kd) := by simp [← hv_, go_sem]
  have sc1 : v1.cell? ⟨w.heap.size, 1, none⟩ = some (.int .i64 ba) := by simp [← hv_, go_sem]
  have sc2 : v1.cell? ⟨w.heap.size, 2, none⟩ = some (.int .i64 ra) := by simp [← hv_, go_sem]
  have sc3 : v1.cell? ⟨w.heap.size, 3, none⟩ = some (.int .i64 en) := by simp [← hv_, go_sem]
  have sc4 : v1.cell? ⟨w.heap.size, 4, none⟩ = some (.int .i64 wa) := by simp [← hv_, go_sem]
  have sc5 : v1.cell? ⟨w.heap.size, 5, none⟩ = some (.int .i64 ev) := by simp [← hv_, go_sem]
  have sc6 : v1.cell? ⟨w.heap.size, 6, none⟩ = some (.int .i64 la) := by simp [← hv_, go_sem]
  have sc7 : v1.cell? ⟨w.heap.size, 7, none⟩ = some (.int .i64 po) := by simp [← hv_, go_sem]
  have scl : w.heap.size < v1.heap.size := by simp [← hv_] <;> omega
  obtain ⟨pt0, pt1⟩ : Cs2 v1 (w.heap.size + 1) (.int .i64 t) (.int .i64 u) := by simp [Cs2, ← hv_, go_sem]
  have ptl : w.heap.size + 1 < v1.heap.size := by simp [← hv_] <;> omega
  clear hv_
  go_wp2_with fail
  refine (CR0 _).mono ?_
  rintro e w2 ⟨rfl, b⟩
  rewrite [cR b scl] at sc0 sc1 sc2 sc3 sc4 sc5 sc6 sc7
  replace scl := lK b scl
  rewrite [cR b ptl] at pt0 pt1
  replace ptl := lK b ptl
  replace cc := bK cc b
  clear b
  go_wp2_with fail
  refine (alive15_any _).mono ?_
  rintro e w3 ⟨rfl, b⟩
  rewrite [cR b scl] at sc0 sc1 sc2 sc3 sc4 sc5 sc6 sc7
  replace scl := lK b scl
  rewrite [cR b ptl] at pt0 pt1
  replace ptl := lK b ptl
  replace cc := bK cc b
  clear b
  go_wp2_with fail
  go_ret
  exact ⟨rfl, cc⟩

theorem SchedFalls_e1 {w : World} {kd ba ra en wa ev la po t u f : Int} (hR0 : OkR f kd ba ra en wa ev la po) (h0 : ¬ t < 1) (h1 : u < t) :
    Calls Try.prog 4 #[.agg #[.int .i64 kd, .int .i64 ba, .int .i64 ra, .int .i64 en, .int .i64 wa, .int .i64 ev, .int .i64 la, .int .i64 po], .agg #[.int .i64 t, .int .i64 u], .int .i64 f] w fun e w' => e = .returned (.bool true) ∧ Below w.heap.size w w' := by
  have CR0 : ∀ W : World, Calls Try.prog 8 #[.agg #[.int .i64 kd, .int .i64 ba, .int .i64 ra, .int .i64 en, .int .i64 wa, .int .i64 ev, .int .i64 la, .int .i64 po], .int .i64 f] W (GotV W (.bool true)) := fun W => by have h := rRight15_N (w := W) (f := f) (kd := kd) (ba := ba) (ra := ra) (en := en) (wa := wa) (ev := ev) (la := la) (po := po); rw [decide_eq_true hR0] at h; exact h
  have t0 : decide (t < 1) = false := decide_eq_false h0
  have t1 : decide (u < t) = true := decide_eq_true h1
  clear hR0 h0 h1
  have cc := Below.refl w.heap.size w
  go_enter Try.func4, Try.ntmps4
  go_wp2_with fail
  generalize hv_ : (w.alloc (.cells #[.int .i64 kd, .int .i64 ba, .int .i64 ra, .int .i64 en, .int .i64 wa, .int .i64 ev, .int .i64 la, .int .i64 po] 23)).alloc (.cells #[.int .i64 t, .int .i64 u] 24) = v1
  have bA : Below w.heap.size w v1 := by rw [← hv_]; exact (((Below.refl _ w).alloc (by simp) _).alloc (by simp) _)
  replace cc := bK cc bA
  clear bA
  have sc0 : v1.cell? ⟨w.heap.size, 0, none⟩ = some (.int .i64 kd) := by simp [← hv_, go_sem]
  have sc1 : v1.cell? ⟨w.heap.size, 1, none⟩ = some (.int .i64 ba) := by simp [← hv_, go_sem]
  have sc2 : v1.cell? ⟨w.heap.size, 2, none⟩ = some (.int .i64 ra) := by simp [← hv_, go_sem]
  have sc3 : v1.cell? ⟨w.heap.size, 3, none⟩ = some (.int .i64 en) := by simp [← hv_, go_sem]
  have sc4 : v1.cell? ⟨w.heap.size, 4, none⟩ = some (.int .i64 wa) := by simp [← hv_, go_sem]
  have sc5 : v1.cell? ⟨w.heap.size, 5, none⟩ = some (.int .i64 ev) := by simp [← hv_, go_sem]
  have sc6 : v1.cell? ⟨w.heap.size, 6, none⟩ = some (.int .i64 la) := by simp [← hv_, go_sem]
  have sc7 : v1.cell? ⟨w.heap.size, 7, none⟩ = some (.int .i64 po) := by simp [← hv_, go_sem]
  have scl : w.heap.size < v1.heap.size := by simp [← hv_] <;> omega
  obtain ⟨pt0, pt1⟩ : Cs2 v1 (w.heap.size + 1) (.int .i64 t) (.int .i64 u) := by simp [Cs2, ← hv_, go_sem]
  have ptl : w.heap.size + 1 < v1.heap.size := by simp [← hv_] <;> omega
  clear hv_
  go_wp2_with fail
  refine (CR0 _).mono ?_
  rintro e w2 ⟨rfl, b⟩
  rewrite [cR b scl] at sc0 sc1 sc2 sc3 sc4 sc5 sc6 sc7
  replace scl := lK b scl
  rewrite [cR b ptl] at pt0 pt1
  replace ptl := lK b ptl
  replace cc := bK cc b
  clear b
  go_wp2_with fail
  refine (alive15_any _).mono ?_
  rintro e w3 ⟨rfl, b⟩
  rewrite [cR b scl] at sc0 sc1 sc2 sc3 sc4 sc5 sc6 sc7
  replace scl := lK b scl
  rewrite [cR b ptl] at pt0 pt1
  replace ptl := lK b ptl
  replace cc := bK cc b
  clear b
  go_wp2_with fail
  go_ret
  exact ⟨rfl, cc⟩

theorem SchedFalls_e2 {w : World} {kd ba ra en wa ev la po t u f : Int} (hR0 : OkR f kd ba ra en wa ev la po) (h0 : ¬ t < 1) (h1 : ¬ u < t) (h2 : 1000000 < u) :
    Calls Try.prog 4 #[.agg #[.int .i64 kd, .int .i64 ba, .int .i64 ra, .int .i64 en, .int .i64 wa, .int .i64 ev, .int .i64 la, .int .i64 po], .agg #[.int .i64 t, .int .i64 u], .int .i64 f] w fun e w' => e = .returned (.bool true) ∧ Below w.heap.size w w' := by
  have CR0 : ∀ W : World, Calls Try.prog 8 #[.agg #[.int .i64 kd, .int .i64 ba, .int .i64 ra, .int .i64 en, .int .i64 wa, .int .i64 ev, .int .i64 la, .int .i64 po], .int .i64 f] W (GotV W (.bool true)) := fun W => by have h := rRight15_N (w := W) (f := f) (kd := kd) (ba := ba) (ra := ra) (en := en) (wa := wa) (ev := ev) (la := la) (po := po); rw [decide_eq_true hR0] at h; exact h
  have t0 : decide (t < 1) = false := decide_eq_false h0
  have t1 : decide (u < t) = false := decide_eq_false h1
  have t2 : decide (1000000 < u) = true := decide_eq_true h2
  clear hR0 h0 h1 h2
  have cc := Below.refl w.heap.size w
  go_enter Try.func4, Try.ntmps4
  go_wp2_with fail
  generalize hv_ : (w.alloc (.cells #[.int .i64 kd, .int .i64 ba, .int .i64 ra, .int .i64 en, .int .i64 wa, .int .i64 ev, .int .i64 la, .int .i64 po] 23)).alloc (.cells #[.int .i64 t, .int .i64 u] 24) = v1
  have bA : Below w.heap.size w v1 := by rw [← hv_]; exact (((Below.refl _ w).alloc (by simp) _).alloc (by simp) _)
  replace cc := bK cc bA
  clear bA
  have sc0 : v1.cell? ⟨w.heap.size, 0, none⟩ = some (.int .i64 kd) := by simp [← hv_, go_sem]
  have sc1 : v1.cell? ⟨w.heap.size, 1, none⟩ = some (.int .i64 ba) := by simp [← hv_, go_sem]
  have sc2 : v1.cell? ⟨w.heap.size, 2, none⟩ = some (.int .i64 ra) := by simp [← hv_, go_sem]
  have sc3 : v1.cell? ⟨w.heap.size, 3, none⟩ = some (.int .i64 en) := by simp [← hv_, go_sem]
  have sc4 : v1.cell? ⟨w.heap.size, 4, none⟩ = some (.int .i64 wa) := by simp [← hv_, go_sem]
  have sc5 : v1.cell? ⟨w.heap.size, 5, none⟩ = some (.int .i64 ev) := by simp [← hv_, go_sem]
  have sc6 : v1.cell? ⟨w.heap.size, 6, none⟩ = some (.int .i64 la) := by simp [← hv_, go_sem]
  have sc7 : v1.cell? ⟨w.heap.size, 7, none⟩ = some (.int .i64 po) := by simp [← hv_, go_sem]
  have scl : w.heap.size < v1.heap.size := by simp [← hv_] <;> omega
  obtain ⟨pt0, pt1⟩ : Cs2 v1 (w.heap.size + 1) (.int .i64 t) (.int .i64 u) := by simp [Cs2, ← hv_, go_sem]
  have ptl : w.heap.size + 1 < v1.heap.size := by simp [← hv_] <;> omega
  clear hv_
  go_wp2_with fail
  refine (CR0 _).mono ?_
  rintro e w2 ⟨rfl, b⟩
  rewrite [cR b scl] at sc0 sc1 sc2 sc3 sc4 sc5 sc6 sc7
  replace scl := lK b scl
  rewrite [cR b ptl] at pt0 pt1
  replace ptl := lK b ptl
  replace cc := bK cc b
  clear b
  go_wp2_with fail
  refine (alive15_any _).mono ?_
  rintro e w3 ⟨rfl, b⟩
  rewrite [cR b scl] at sc0 sc1 sc2 sc3 sc4 sc5 sc6 sc7
  replace scl := lK b scl
  rewrite [cR b ptl] at pt0 pt1
  replace ptl := lK b ptl
  replace cc := bK cc b
  clear b
  go_wp2_with fail
  go_ret
  exact ⟨rfl, cc⟩

theorem SchedFalls_w {w : World} {kd ba ra en wa ev la po t u f : Int} (hR0 : OkR f kd ba ra en wa ev la po) (h0 : ¬ t < 1) (h1 : ¬ u < t) (h2 : ¬ 1000000 < u) (hw : t ≤ wa) (hIt : I64 kd ∧ I64 ba ∧ I64 ra ∧ I64 en ∧ I64 wa ∧ I64 ev ∧ I64 la ∧ I64 po ∧ I64 t ∧ I64 f) (hIu : I64 kd ∧ I64 ba ∧ I64 ra ∧ I64 en ∧ I64 wa ∧ I64 ev ∧ I64 la ∧ I64 po ∧ I64 u ∧ I64 f) :
    Calls Try.prog 4 #[.agg #[.int .i64 kd, .int .i64 ba, .int .i64 ra, .int .i64 en, .int .i64 wa, .int .i64 ev, .int .i64 la, .int .i64 po], .agg #[.int .i64 t, .int .i64 u], .int .i64 f] w fun e w' => e = .returned (.bool true) ∧ Below w.heap.size w w' := by
  have CR0 : ∀ W : World, Calls Try.prog 8 #[.agg #[.int .i64 kd, .int .i64 ba, .int .i64 ra, .int .i64 en, .int .i64 wa, .int .i64 ev, .int .i64 la, .int .i64 po], .int .i64 f] W (GotV W (.bool true)) := fun W => by have h := rRight15_N (w := W) (f := f) (kd := kd) (ba := ba) (ra := ra) (en := en) (wa := wa) (ev := ev) (la := la) (po := po); rw [decide_eq_true hR0] at h; exact h
  have t0 : decide (t < 1) = false := decide_eq_false h0
  have t1 : decide (u < t) = false := decide_eq_false h1
  have t2 : decide (1000000 < u) = false := decide_eq_false h2
  have hx := rt_in (t := t) hR0 (by omega)
  have hy := rt_in (t := u) hR0 (by omega)
  obtain ⟨x, e_x⟩ : ∃ x, rt15 f kd ba ra en wa ev la po t = x := ⟨_, rfl⟩
  obtain ⟨y, e_y⟩ : ∃ y, rt15 f kd ba ra en wa ev la po u = y := ⟨_, rfl⟩
  have CX : ∀ W : World, Calls Try.prog 10 #[.agg #[.int .i64 kd, .int .i64 ba, .int .i64 ra, .int .i64 en, .int .i64 wa, .int .i64 ev, .int .i64 la, .int .i64 po], .int .i64 t, .int .i64 f] W (GotV W (.tuple #[.int .i64 x, .int .i64 0])) := fun W => by
    have h := sRate_N W (t := t) (f := f) (hIt)
    rw [(rVE hR0 (by omega) (by omega)).1, (rVE hR0 (by omega) (by omega)).2, e_x] at h
    exact h
  have CY : ∀ W : World, Calls Try.prog 10 #[.agg #[.int .i64 kd, .int .i64 ba, .int .i64 ra, .int .i64 en, .int .i64 wa, .int .i64 ev, .int .i64 la, .int .i64 po], .int .i64 u, .int .i64 f] W (GotV W (.tuple #[.int .i64 y, .int .i64 0])) := fun W => by
    have h := sRate_N W (t := u) (f := f) (hIu)
    rw [(rVE hR0 (by omega) (by omega)).1, (rVE hR0 (by omega) (by omega)).2, e_y] at h
    exact h
  rw [e_x] at hx
  rw [e_y] at hy
  have r0 : decide (x < 0) = false := decide_eq_false (by omega)
  have r1 : decide (ba < x) = false := decide_eq_false (by omega)
  have r2 : decide (y < 0) = false := decide_eq_false (by omega)
  have r3 : decide (ba < y) = false := decide_eq_false (by omega)
  have r4 : decide (t ≤ wa) = true := decide_eq_true (by omega)
  clear hR0 h0 h1 h2 hx hy e_x e_y hIt hIu hw
  have cc := Below.refl w.heap.size w
  go_enter Try.func4, Try.ntmps4
  go_wp2_with fail
  generalize hv_ : (w.alloc (.cells #[.int .i64 kd, .int .i64 ba, .int .i64 ra, .int .i64 en, .int .i64 wa, .int .i64 ev, .int .i64 la, .int .i64 po] 23)).alloc (.cells #[.int .i64 t, .int .i64 u] 24) = v1
  have bA : Below w.heap.size w v1 := by rw [← hv_]; exact (((Below.refl _ w).alloc (by simp) _).alloc (by simp) _)
  replace cc := bK cc bA
  clear bA
  have sc0 : v1.cell? ⟨w.heap.size, 0, none⟩ = some (.int .i64 kd) := by simp [← hv_, go_sem]
  have sc1 : v1.cell? ⟨w.heap.size, 1, none⟩ = some (.int .i64 ba) := by simp [← hv_, go_sem]
  have sc2 : v1.cell? ⟨w.heap.size, 2, none⟩ = some (.int .i64 ra) := by simp [← hv_, go_sem]
  have sc3 : v1.cell? ⟨w.heap.size, 3, none⟩ = some (.int .i64 en) := by simp [← hv_, go_sem]
  have sc4 : v1.cell? ⟨w.heap.size, 4, none⟩ = some (.int .i64 wa) := by simp [← hv_, go_sem]
  have sc5 : v1.cell? ⟨w.heap.size, 5, none⟩ = some (.int .i64 ev) := by simp [← hv_, go_sem]
  have sc6 : v1.cell? ⟨w.heap.size, 6, none⟩ = some (.int .i64 la) := by simp [← hv_, go_sem]
  have sc7 : v1.cell? ⟨w.heap.size, 7, none⟩ = some (.int .i64 po) := by simp [← hv_, go_sem]
  have scl : w.heap.size < v1.heap.size := by simp [← hv_] <;> omega
  obtain ⟨pt0, pt1⟩ : Cs2 v1 (w.heap.size + 1) (.int .i64 t) (.int .i64 u) := by simp [Cs2, ← hv_, go_sem]
  have ptl : w.heap.size + 1 < v1.heap.size := by simp [← hv_] <;> omega
  clear hv_
  go_wp2_with fail
  refine (CR0 _).mono ?_
  rintro e w2 ⟨rfl, b⟩
  rewrite [cR b scl] at sc0 sc1 sc2 sc3 sc4 sc5 sc6 sc7
  replace scl := lK b scl
  rewrite [cR b ptl] at pt0 pt1
  replace ptl := lK b ptl
  replace cc := bK cc b
  clear b
  go_wp2_with fail
  refine (CX _).mono ?_
  rintro e w3 ⟨rfl, b⟩
  rewrite [cR b scl] at sc0 sc1 sc2 sc3 sc4 sc5 sc6 sc7
  replace scl := lK b scl
  rewrite [cR b ptl] at pt0 pt1
  replace ptl := lK b ptl
  replace cc := bK cc b
  clear b
  go_wp2_with fail
  refine (CY _).mono ?_
  rintro e w4 ⟨rfl, b⟩
  rewrite [cR b scl] at sc0 sc1 sc2 sc3 sc4 sc5 sc6 sc7
  replace scl := lK b scl
  rewrite [cR b ptl] at pt0 pt1
  replace ptl := lK b ptl
  replace cc := bK cc b
  clear b
  go_wp2_with fail
  refine (alive15_any _).mono ?_
  rintro e w5 ⟨rfl, b⟩
  rewrite [cR b scl] at sc0 sc1 sc2 sc3 sc4 sc5 sc6 sc7
  replace scl := lK b scl
  rewrite [cR b ptl] at pt0 pt1
  replace ptl := lK b ptl
  replace cc := bK cc b
  clear b
  go_wp2_with fail
  go_ret
  exact ⟨rfl, cc⟩

theorem SchedFalls_k0 {w : World} {kd ba ra en wa ev la po t u f : Int} (hR0 : OkR f kd ba ra en wa ev la po) (h0 : ¬ t < 1) (h1 : ¬ u < t) (h2 : ¬ 1000000 < u) (hw : ¬ t ≤ wa) (hk : kd = 0) (hIt : I64 kd ∧ I64 ba ∧ I64 ra ∧ I64 en ∧ I64 wa ∧ I64 ev ∧ I64 la ∧ I64 po ∧ I64 t ∧ I64 f) (hIu : I64 kd ∧ I64 ba ∧ I64 ra ∧ I64 en ∧ I64 wa ∧ I64 ev ∧ I64 la ∧ I64 po ∧ I64 u ∧ I64 f) :
    Calls Try.prog 4 #[.agg #[.int .i64 kd, .int .i64 ba, .int .i64 ra, .int .i64 en, .int .i64 wa, .int .i64 ev, .int .i64 la, .int .i64 po], .agg #[.int .i64 t, .int .i64 u], .int .i64 f] w fun e w' => e = .returned (.bool true) ∧ Below w.heap.size w w' := by
  have CR0 : ∀ W : World, Calls Try.prog 8 #[.agg #[.int .i64 kd, .int .i64 ba, .int .i64 ra, .int .i64 en, .int .i64 wa, .int .i64 ev, .int .i64 la, .int .i64 po], .int .i64 f] W (GotV W (.bool true)) := fun W => by have h := rRight15_N (w := W) (f := f) (kd := kd) (ba := ba) (ra := ra) (en := en) (wa := wa) (ev := ev) (la := la) (po := po); rw [decide_eq_true hR0] at h; exact h
  have t0 : decide (t < 1) = false := decide_eq_false h0
  have t1 : decide (u < t) = false := decide_eq_false h1
  have t2 : decide (1000000 < u) = false := decide_eq_false h2
  have hx := rt_in (t := t) hR0 (by omega)
  have hy := rt_in (t := u) hR0 (by omega)
  have hm := rt_falls (t := t) (u := u) hR0 (by omega) (by omega) (by omega)
  have he := rt_const (f := f) (ba := ba) (ra := ra) (en := en) (ev := ev) (la := la) (po := po) (t := u) (show wa < u by omega) hk
  obtain ⟨x, e_x⟩ : ∃ x, rt15 f kd ba ra en wa ev la po t = x := ⟨_, rfl⟩
  obtain ⟨y, e_y⟩ : ∃ y, rt15 f kd ba ra en wa ev la po u = y := ⟨_, rfl⟩
  have CX : ∀ W : World, Calls Try.prog 10 #[.agg #[.int .i64 kd, .int .i64 ba, .int .i64 ra, .int .i64 en, .int .i64 wa, .int .i64 ev, .int .i64 la, .int .i64 po], .int .i64 t, .int .i64 f] W (GotV W (.tuple #[.int .i64 x, .int .i64 0])) := fun W => by
    have h := sRate_N W (t := t) (f := f) (hIt)
    rw [(rVE hR0 (by omega) (by omega)).1, (rVE hR0 (by omega) (by omega)).2, e_x] at h
    exact h
  have CY : ∀ W : World, Calls Try.prog 10 #[.agg #[.int .i64 kd, .int .i64 ba, .int .i64 ra, .int .i64 en, .int .i64 wa, .int .i64 ev, .int .i64 la, .int .i64 po], .int .i64 u, .int .i64 f] W (GotV W (.tuple #[.int .i64 y, .int .i64 0])) := fun W => by
    have h := sRate_N W (t := u) (f := f) (hIu)
    rw [(rVE hR0 (by omega) (by omega)).1, (rVE hR0 (by omega) (by omega)).2, e_y] at h
    exact h
  rw [e_x] at hx hm
  rw [e_y] at hy hm he
  have r0 : decide (x < 0) = false := decide_eq_false (by omega)
  have r1 : decide (ba < x) = false := decide_eq_false (by omega)
  have r2 : decide (y < 0) = false := decide_eq_false (by omega)
  have r3 : decide (ba < y) = false := decide_eq_false (by omega)
  have r4 : decide (t ≤ wa) = false := decide_eq_false (by omega)
  have r5 : decide (y ≤ x) = true := decide_eq_true (by omega)
  have s3 : ((kd : Int) == 3) = false := beq_eq_false_iff_ne.2 (by omega)
  have s3n : ((kd : Int) != 3) = true := by simp; omega
  have s0 : ((kd : Int) == 0) = true := beq_iff_eq.2 (by omega)
  have s0n : ((kd : Int) != 0) = false := by simp; omega
  have r6 : (y == ba) = true := beq_iff_eq.2 he
  clear hR0 h0 h1 h2 hx hy e_x e_y hIt hIu hm hk hw he
  have cc := Below.refl w.heap.size w
  go_enter Try.func4, Try.ntmps4
  go_wp2_with fail
  generalize hv_ : (w.alloc (.cells #[.int .i64 kd, .int .i64 ba, .int .i64 ra, .int .i64 en, .int .i64 wa, .int .i64 ev, .int .i64 la, .int .i64 po] 23)).alloc (.cells #[.int .i64 t, .int .i64 u] 24) = v1
  have bA : Below w.heap.size w v1 := by rw [← hv_]; exact (((Below.refl _ w).alloc (by simp) _).alloc (by simp) _)
  replace cc := bK cc bA
  clear bA
  have sc0 : v1.cell? ⟨w.heap.size, 0, none⟩ = some (.int .i64 kd) := by simp [← hv_, go_sem]
  have sc1 : v1.cell? ⟨w.heap.size, 1, none⟩ = some (.int .i64 ba) := by simp [← hv_, go_sem]
  have sc2 : v1.cell? ⟨w.heap.size, 2, none⟩ = some (.int .i64 ra) := by simp [← hv_, go_sem]
  have sc3 : v1.cell? ⟨w.heap.size, 3, none⟩ = some (.int .i64 en) := by simp [← hv_, go_sem]
  have sc4 : v1.cell? ⟨w.heap.size, 4, none⟩ = some (.int .i64 wa) := by simp [← hv_, go_sem]
  have sc5 : v1.cell? ⟨w.heap.size, 5, none⟩ = some (.int .i64 ev) := by simp [← hv_, go_sem]
  have sc6 : v1.cell? ⟨w.heap.size, 6, none⟩ = some (.int .i64 la) := by simp [← hv_, go_sem]
  have sc7 : v1.cell? ⟨w.heap.size, 7, none⟩ = some (.int .i64 po) := by simp [← hv_, go_sem]
  have scl : w.heap.size < v1.heap.size := by simp [← hv_] <;> omega
  obtain ⟨pt0, pt1⟩ : Cs2 v1 (w.heap.size + 1) (.int .i64 t) (.int .i64 u) := by simp [Cs2, ← hv_, go_sem]
  have ptl : w.heap.size + 1 < v1.heap.size := by simp [← hv_] <;> omega
  clear hv_
  go_wp2_with fail
  refine (CR0 _).mono ?_
  rintro e w2 ⟨rfl, b⟩
  rewrite [cR b scl] at sc0 sc1 sc2 sc3 sc4 sc5 sc6 sc7
  replace scl := lK b scl
  rewrite [cR b ptl] at pt0 pt1
  replace ptl := lK b ptl
  replace cc := bK cc b
  clear b
  go_wp2_with fail
  refine (CX _).mono ?_
  rintro e w3 ⟨rfl, b⟩
  rewrite [cR b scl] at sc0 sc1 sc2 sc3 sc4 sc5 sc6 sc7
  replace scl := lK b scl
  rewrite [cR b ptl] at pt0 pt1
  replace ptl := lK b ptl
  replace cc := bK cc b
  clear b
  go_wp2_with fail
  refine (CY _).mono ?_
  rintro e w4 ⟨rfl, b⟩
  rewrite [cR b scl] at sc0 sc1 sc2 sc3 sc4 sc5 sc6 sc7
  replace scl := lK b scl
  rewrite [cR b ptl] at pt0 pt1
  replace ptl := lK b ptl
  replace cc := bK cc b
  clear b
  go_wp2_with fail
  refine (alive15_any _).mono ?_
  rintro e w5 ⟨rfl, b⟩
  rewrite [cR b scl] at sc0 sc1 sc2 sc3 sc4 sc5 sc6 sc7
  replace scl := lK b scl
  rewrite [cR b ptl] at pt0 pt1
  replace ptl := lK b ptl
  replace cc := bK cc b
  clear b
  go_wp2_with fail
  go_ret
  exact ⟨rfl, cc⟩

theorem SchedFalls_k3 {w : World} {kd ba ra en wa ev la po t u f : Int} (hR0 : OkR f kd ba ra en wa ev la po) (h0 : ¬ t < 1) (h1 : ¬ u < t) (h2 : ¬ 1000000 < u) (hw : ¬ t ≤ wa) (hk : kd = 3) (hIt : I64 kd ∧ I64 ba ∧ I64 ra ∧ I64 en ∧ I64 wa ∧ I64 ev ∧ I64 la ∧ I64 po ∧ I64 t ∧ I64 f) (hIu : I64 kd ∧ I64 ba ∧ I64 ra ∧ I64 en ∧ I64 wa ∧ I64 ev ∧ I64 la ∧ I64 po ∧ I64 u ∧ I64 f) :
    Calls Try.prog 4 #[.agg #[.int .i64 kd, .int .i64 ba, .int .i64 ra, .int .i64 en, .int .i64 wa, .int .i64 ev, .int .i64 la, .int .i64 po], .agg #[.int .i64 t, .int .i64 u], .int .i64 f] w fun e w' => e = .returned (.bool true) ∧ Below w.heap.size w w' := by
  have CR0 : ∀ W : World, Calls Try.prog 8 #[.agg #[.int .i64 kd, .int .i64 ba, .int .i64 ra, .int .i64 en, .int .i64 wa, .int .i64 ev, .int .i64 la, .int .i64 po], .int .i64 f] W (GotV W (.bool true)) := fun W => by have h := rRight15_N (w := W) (f := f) (kd := kd) (ba := ba) (ra := ra) (en := en) (wa := wa) (ev := ev) (la := la) (po := po); rw [decide_eq_true hR0] at h; exact h
  have t0 : decide (t < 1) = false := decide_eq_false h0
  have t1 : decide (u < t) = false := decide_eq_false h1
  have t2 : decide (1000000 < u) = false := decide_eq_false h2
  have hx := rt_in (t := t) hR0 (by omega)
  have hy := rt_in (t := u) hR0 (by omega)
  have hm := rt_falls (t := t) (u := u) hR0 (by omega) (by omega) (by omega)
  have he := rt_end (t := u) hR0 (by omega) (by omega) hk
  obtain ⟨x, e_x⟩ : ∃ x, rt15 f kd ba ra en wa ev la po t = x := ⟨_, rfl⟩
  obtain ⟨y, e_y⟩ : ∃ y, rt15 f kd ba ra en wa ev la po u = y := ⟨_, rfl⟩
  have CX : ∀ W : World, Calls Try.prog 10 #[.agg #[.int .i64 kd, .int .i64 ba, .int .i64 ra, .int .i64 en, .int .i64 wa, .int .i64 ev, .int .i64 la, .int .i64 po], .int .i64 t, .int .i64 f] W (GotV W (.tuple #[.int .i64 x, .int .i64 0])) := fun W => by
    have h := sRate_N W (t := t) (f := f) (hIt)
    rw [(rVE hR0 (by omega) (by omega)).1, (rVE hR0 (by omega) (by omega)).2, e_x] at h
    exact h
  have CY : ∀ W : World, Calls Try.prog 10 #[.agg #[.int .i64 kd, .int .i64 ba, .int .i64 ra, .int .i64 en, .int .i64 wa, .int .i64 ev, .int .i64 la, .int .i64 po], .int .i64 u, .int .i64 f] W (GotV W (.tuple #[.int .i64 y, .int .i64 0])) := fun W => by
    have h := sRate_N W (t := u) (f := f) (hIu)
    rw [(rVE hR0 (by omega) (by omega)).1, (rVE hR0 (by omega) (by omega)).2, e_y] at h
    exact h
  rw [e_x] at hx hm
  rw [e_y] at hy hm he
  have r0 : decide (x < 0) = false := decide_eq_false (by omega)
  have r1 : decide (ba < x) = false := decide_eq_false (by omega)
  have r2 : decide (y < 0) = false := decide_eq_false (by omega)
  have r3 : decide (ba < y) = false := decide_eq_false (by omega)
  have r4 : decide (t ≤ wa) = false := decide_eq_false (by omega)
  have r5 : decide (y ≤ x) = true := decide_eq_true (by omega)
  have s3 : ((kd : Int) == 3) = true := beq_iff_eq.2 (by omega)
  have s3n : ((kd : Int) != 3) = false := by simp; omega
  have s0 : ((kd : Int) == 0) = false := beq_eq_false_iff_ne.2 (by omega)
  have s0n : ((kd : Int) != 0) = true := by simp; omega
  have r6 : decide (en ≤ y) = true := decide_eq_true he
  clear hR0 h0 h1 h2 hx hy e_x e_y hIt hIu hm hk hw he
  have cc := Below.refl w.heap.size w
  go_enter Try.func4, Try.ntmps4
  go_wp2_with fail
  generalize hv_ : (w.alloc (.cells #[.int .i64 kd, .int .i64 ba, .int .i64 ra, .int .i64 en, .int .i64 wa, .int .i64 ev, .int .i64 la, .int .i64 po] 23)).alloc (.cells #[.int .i64 t, .int .i64 u] 24) = v1
  have bA : Below w.heap.size w v1 := by rw [← hv_]; exact (((Below.refl _ w).alloc (by simp) _).alloc (by simp) _)
  replace cc := bK cc bA
  clear bA
  have sc0 : v1.cell? ⟨w.heap.size, 0, none⟩ = some (.int .i64 kd) := by simp [← hv_, go_sem]
  have sc1 : v1.cell? ⟨w.heap.size, 1, none⟩ = some (.int .i64 ba) := by simp [← hv_, go_sem]
  have sc2 : v1.cell? ⟨w.heap.size, 2, none⟩ = some (.int .i64 ra) := by simp [← hv_, go_sem]
  have sc3 : v1.cell? ⟨w.heap.size, 3, none⟩ = some (.int .i64 en) := by simp [← hv_, go_sem]
  have sc4 : v1.cell? ⟨w.heap.size, 4, none⟩ = some (.int .i64 wa) := by simp [← hv_, go_sem]
  have sc5 : v1.cell? ⟨w.heap.size, 5, none⟩ = some (.int .i64 ev) := by simp [← hv_, go_sem]
  have sc6 : v1.cell? ⟨w.heap.size, 6, none⟩ = some (.int .i64 la) := by simp [← hv_, go_sem]
  have sc7 : v1.cell? ⟨w.heap.size, 7, none⟩ = some (.int .i64 po) := by simp [← hv_, go_sem]
  have scl : w.heap.size < v1.heap.size := by simp [← hv_] <;> omega
  obtain ⟨pt0, pt1⟩ : Cs2 v1 (w.heap.size + 1) (.int .i64 t) (.int .i64 u) := by simp [Cs2, ← hv_, go_sem]
  have ptl : w.heap.size + 1 < v1.heap.size := by simp [← hv_] <;> omega
  clear hv_
  go_wp2_with fail
  refine (CR0 _).mono ?_
  rintro e w2 ⟨rfl, b⟩
  rewrite [cR b scl] at sc0 sc1 sc2 sc3 sc4 sc5 sc6 sc7
  replace scl := lK b scl
  rewrite [cR b ptl] at pt0 pt1
  replace ptl := lK b ptl
  replace cc := bK cc b
  clear b
  go_wp2_with fail
  refine (CX _).mono ?_
  rintro e w3 ⟨rfl, b⟩
  rewrite [cR b scl] at sc0 sc1 sc2 sc3 sc4 sc5 sc6 sc7
  replace scl := lK b scl
  rewrite [cR b ptl] at pt0 pt1
  replace ptl := lK b ptl
  replace cc := bK cc b
  clear b
  go_wp2_with fail
  refine (CY _).mono ?_
  rintro e w4 ⟨rfl, b⟩
  rewrite [cR b scl] at sc0 sc1 sc2 sc3 sc4 sc5 sc6 sc7
  replace scl := lK b scl
  rewrite [cR b ptl] at pt0 pt1
  replace ptl := lK b ptl
  replace cc := bK cc b
  clear b
  go_wp2_with fail
  refine (alive15_any _).mono ?_
  rintro e w5 ⟨rfl, b⟩
  rewrite [cR b scl] at sc0 sc1 sc2 sc3 sc4 sc5 sc6 sc7
  replace scl := lK b scl
  rewrite [cR b ptl] at pt0 pt1
  replace ptl := lK b ptl
  replace cc := bK cc b
  clear b
  go_wp2_with fail
  go_ret
  exact ⟨rfl, cc⟩

theorem SchedFalls_k {w : World} {kd ba ra en wa ev la po t u f : Int} (hR0 : OkR f kd ba ra en wa ev la po) (h0 : ¬ t < 1) (h1 : ¬ u < t) (h2 : ¬ 1000000 < u) (hw : ¬ t ≤ wa) (hk : kd ≠ 0 ∧ kd ≠ 3) (hIt : I64 kd ∧ I64 ba ∧ I64 ra ∧ I64 en ∧ I64 wa ∧ I64 ev ∧ I64 la ∧ I64 po ∧ I64 t ∧ I64 f) (hIu : I64 kd ∧ I64 ba ∧ I64 ra ∧ I64 en ∧ I64 wa ∧ I64 ev ∧ I64 la ∧ I64 po ∧ I64 u ∧ I64 f) :
    Calls Try.prog 4 #[.agg #[.int .i64 kd, .int .i64 ba, .int .i64 ra, .int .i64 en, .int .i64 wa, .int .i64 ev, .int .i64 la, .int .i64 po], .agg #[.int .i64 t, .int .i64 u], .int .i64 f] w fun e w' => e = .returned (.bool true) ∧ Below w.heap.size w w' := by
  have CR0 : ∀ W : World, Calls Try.prog 8 #[.agg #[.int .i64 kd, .int .i64 ba, .int .i64 ra, .int .i64 en, .int .i64 wa, .int .i64 ev, .int .i64 la, .int .i64 po], .int .i64 f] W (GotV W (.bool true)) := fun W => by have h := rRight15_N (w := W) (f := f) (kd := kd) (ba := ba) (ra := ra) (en := en) (wa := wa) (ev := ev) (la := la) (po := po); rw [decide_eq_true hR0] at h; exact h
  have t0 : decide (t < 1) = false := decide_eq_false h0
  have t1 : decide (u < t) = false := decide_eq_false h1
  have t2 : decide (1000000 < u) = false := decide_eq_false h2
  have hx := rt_in (t := t) hR0 (by omega)
  have hy := rt_in (t := u) hR0 (by omega)
  have hm := rt_falls (t := t) (u := u) hR0 (by omega) (by omega) (by omega)
  obtain ⟨x, e_x⟩ : ∃ x, rt15 f kd ba ra en wa ev la po t = x := ⟨_, rfl⟩
  obtain ⟨y, e_y⟩ : ∃ y, rt15 f kd ba ra en wa ev la po u = y := ⟨_, rfl⟩
  have CX : ∀ W : World, Calls Try.prog 10 #[.agg #[.int .i64 kd, .int .i64 ba, .int .i64 ra, .int .i64 en, .int .i64 wa, .int .i64 ev, .int .i64 la, .int .i64 po], .int .i64 t, .int .i64 f] W (GotV W (.tuple #[.int .i64 x, .int .i64 0])) := fun W => by
    have h := sRate_N W (t := t) (f := f) (hIt)
    rw [(rVE hR0 (by omega) (by omega)).1, (rVE hR0 (by omega) (by omega)).2, e_x] at h
    exact h
  have CY : ∀ W : World, Calls Try.prog 10 #[.agg #[.int .i64 kd, .int .i64 ba, .int .i64 ra, .int .i64 en, .int .i64 wa, .int .i64 ev, .int .i64 la, .int .i64 po], .int .i64 u, .int .i64 f] W (GotV W (.tuple #[.int .i64 y, .int .i64 0])) := fun W => by
    have h := sRate_N W (t := u) (f := f) (hIu)
    rw [(rVE hR0 (by omega) (by omega)).1, (rVE hR0 (by omega) (by omega)).2, e_y] at h
    exact h
  rw [e_x] at hx hm
  rw [e_y] at hy hm
  have r0 : decide (x < 0) = false := decide_eq_false (by omega)
  have r1 : decide (ba < x) = false := decide_eq_false (by omega)
  have r2 : decide (y < 0) = false := decide_eq_false (by omega)
  have r3 : decide (ba < y) = false := decide_eq_false (by omega)
  have r4 : decide (t ≤ wa) = false := decide_eq_false (by omega)
  have r5 : decide (y ≤ x) = true := decide_eq_true (by omega)
  have s3 : ((kd : Int) == 3) = false := beq_eq_false_iff_ne.2 (by omega)
  have s3n : ((kd : Int) != 3) = true := by simp; omega
  have s0 : ((kd : Int) == 0) = false := beq_eq_false_iff_ne.2 (by omega)
  have s0n : ((kd : Int) != 0) = true := by simp; omega
  clear hR0 h0 h1 h2 hx hy e_x e_y hIt hIu hm hk hw
  have cc := Below.refl w.heap.size w
  go_enter Try.func4, Try.ntmps4
  go_wp2_with fail
  generalize hv_ : (w.alloc (.cells #[.int .i64 kd, .int .i64 ba, .int .i64 ra, .int .i64 en, .int .i64 wa, .int .i64 ev, .int .i64 la, .int .i64 po] 23)).alloc (.cells #[.int .i64 t, .int .i64 u] 24) = v1
  have bA : Below w.heap.size w v1 := by rw [← hv_]; exact (((Below.refl _ w).alloc (by simp) _).alloc (by simp) _)
  replace cc := bK cc bA
  clear bA
  have sc0 : v1.cell? ⟨w.heap.size, 0, none⟩ = some (.int .i64 kd) := by simp [← hv_, go_sem]
  have sc1 : v1.cell? ⟨w.heap.size, 1, none⟩ = some (.int .i64 ba) := by simp [← hv_, go_sem]
  have sc2 : v1.cell? ⟨w.heap.size, 2, none⟩ = some (.int .i64 ra) := by simp [← hv_, go_sem]
  have sc3 : v1.cell? ⟨w.heap.size, 3, none⟩ = some (.int .i64 en) := by simp [← hv_, go_sem]
  have sc4 : v1.cell? ⟨w.heap.size, 4, none⟩ = some (.int .i64 wa) := by simp [← hv_, go_sem]
  have sc5 : v1.cell? ⟨w.heap.size, 5, none⟩ = some (.int .i64 ev) := by simp [← hv_, go_sem]
  have sc6 : v1.cell? ⟨w.heap.size, 6, none⟩ = some (.int .i64 la) := by simp [← hv_, go_sem]
  have sc7 : v1.cell? ⟨w.heap.size, 7, none⟩ = some (.int .i64 po) := by simp [← hv_, go_sem]
  have scl : w.heap.size < v1.heap.size := by simp [← hv_] <;> omega
  obtain ⟨pt0, pt1⟩ : Cs2 v1 (w.heap.size + 1) (.int .i64 t) (.int .i64 u) := by simp [Cs2, ← hv_, go_sem]
  have ptl : w.heap.size + 1 < v1.heap.size := by simp [← hv_] <;> omega
  clear hv_
  go_wp2_with fail
  refine (CR0 _).mono ?_
  rintro e w2 ⟨rfl, b⟩
  rewrite [cR b scl] at sc0 sc1 sc2 sc3 sc4 sc5 sc6 sc7
  replace scl := lK b scl
  rewrite [cR b ptl] at pt0 pt1
  replace ptl := lK b ptl
  replace cc := bK cc b
  clear b
  go_wp2_with fail
  refine (CX _).mono ?_
  rintro e w3 ⟨rfl, b⟩
  rewrite [cR b scl] at sc0 sc1 sc2 sc3 sc4 sc5 sc6 sc7
  replace scl := lK b scl
  rewrite [cR b ptl] at pt0 pt1
  replace ptl := lK b ptl
  replace cc := bK cc b
  clear b
  go_wp2_with fail
  refine (CY _).mono ?_
  rintro e w4 ⟨rfl, b⟩
  rewrite [cR b scl] at sc0 sc1 sc2 sc3 sc4 sc5 sc6 sc7
  replace scl := lK b scl
  rewrite [cR b ptl] at pt0 pt1
  replace ptl := lK b ptl
  replace cc := bK cc b
  clear b
  go_wp2_with fail
  refine (alive15_any _).mono ?_
  rintro e w5 ⟨rfl, b⟩
  rewrite [cR b scl] at sc0 sc1 sc2 sc3 sc4 sc5 sc6 sc7
  replace scl := lK b scl
  rewrite [cR b ptl] at pt0 pt1
  replace ptl := lK b ptl
  replace cc := bK cc b
  clear b
  go_wp2_with fail
  go_ret
  exact ⟨rfl, cc⟩

theorem SchedFalls_all {w : World} {kd ba ra en wa ev la po t u f : Int} (hIt : I64 kd ∧ I64 ba ∧ I64 ra ∧ I64 en ∧ I64 wa ∧ I64 ev ∧ I64 la ∧ I64 po ∧ I64 t ∧ I64 f) (hIu : I64 kd ∧ I64 ba ∧ I64 ra ∧ I64 en ∧ I64 wa ∧ I64 ev ∧ I64 la ∧ I64 po ∧ I64 u ∧ I64 f) : Calls Try.prog 4 #[.agg #[.int .i64 kd, .int .i64 ba, .int .i64 ra, .int .i64 en, .int .i64 wa, .int .i64 ev, .int .i64 la, .int .i64 po], .agg #[.int .i64 t, .int .i64 u], .int .i64 f] w fun e w' => e = .returned (.bool true) ∧ Below w.heap.size w w' := by
  by_cases hR0 : OkR f kd ba ra en wa ev la po
  rotate_left
  · exact SchedFalls_n0 hR0
  by_cases h0 : t < 1
  · exact SchedFalls_e0 hR0 h0
  by_cases h1 : u < t
  · exact SchedFalls_e1 hR0 h0 h1
  by_cases h2 : 1000000 < u
  · exact SchedFalls_e2 hR0 h0 h1 h2
  by_cases hw : t ≤ wa
  · exact SchedFalls_w hR0 h0 h1 h2 hw hIt hIu
  by_cases k0 : kd = 0
  · exact SchedFalls_k0 hR0 h0 h1 h2 hw k0 hIt hIu
  by_cases k3 : kd = 3
  · exact SchedFalls_k3 hR0 h0 h1 h2 hw k3 hIt hIu
  exact SchedFalls_k hR0 h0 h1 h2 hw ⟨k0, k3⟩ hIt hIu

end Go.Proofs.Ytmaolhajeoigpaa
