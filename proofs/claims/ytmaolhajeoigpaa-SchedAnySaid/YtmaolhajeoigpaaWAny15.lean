/-
  The walk of SchedAny.
-/
import Derived.Test.YtmaolhajeoigpaaA9
import Derived.Test.YtmaolhajeoigpaaA10
import Derived.Test.YtmaolhajeoigpaaA3
namespace Go.Proofs.Ytmaolhajeoigpaa
set_option maxRecDepth 100000
set_option maxHeartbeats 8000000
open Go.RowKit
set_option linter.unusedVariables false
set_option linter.unusedSimpArgs false

theorem SchedAny_n0 {w : World} {kd ba ra en wa ev la po t f g : Int} (hR0 : ¬ OkR f kd ba ra en wa ev la po) :
    Calls Try.prog 7 #[.agg #[.int .i64 kd, .int .i64 ba, .int .i64 ra, .int .i64 en, .int .i64 wa, .int .i64 ev, .int .i64 la, .int .i64 po], .int .i64 t, .agg #[.int .i64 f, .int .i64 g]] w fun e w' => e = .returned (.bool true) ∧ Below w.heap.size w w' := by
  have CR0 : ∀ W : World, Calls Try.prog 8 #[.agg #[.int .i64 kd, .int .i64 ba, .int .i64 ra, .int .i64 en, .int .i64 wa, .int .i64 ev, .int .i64 la, .int .i64 po], .int .i64 f] W (GotV W (.bool false)) := fun W => by have h := rRight15_N (w := W) (f := f) (kd := kd) (ba := ba) (ra := ra) (en := en) (wa := wa) (ev := ev) (la := la) (po := po); rw [decide_eq_false hR0] at h; exact h
  clear hR0
  have cc := Below.refl w.heap.size w
  go_enter Try.func7, Try.ntmps7
  go_wp2_with fail
  generalize hv_ : (w.alloc (.cells #[.int .i64 kd, .int .i64 ba, .int .i64 ra, .int .i64 en, .int .i64 wa, .int .i64 ev, .int .i64 la, .int .i64 po] 23)).alloc (.cells #[.int .i64 f, .int .i64 g] 24) = v1
  have bA : Below w.heap.size w v1 := by rw [← hv_]; exact (((Below.refl _ w).alloc (by simp) _).alloc (by simp) _)
  replace cc := bK cc bA
  clear bA
  have sc0 : v1.cell? ⟨w.heap.size, 0, none⟩ = some (.int .i64 kd) := by simp [← hv_, go_sem]
  have sc1 : v1.cell? ⟨w.heap.size, 1, none⟩ = some (.int .i64 ba) := by simp [← hv_, go_sem]
  have sc2 : v1.cell? ⟨w.heap.size, 2, none⟩ = some (.int .i64 ra) := by simp [← hv_, go_sem]
  have sc3 : v1.cell? ⟨w.heap.size, 3, none⟩ = some (.int .i64 en) := by simp [← hv_, go_sem]
  have sc4 : v1.cell? ⟨w.heap.size, 4, none⟩ = some (.int .i64 wa) := by simp [← hv_, go_sem]
  have sc5 : v1.cell? ⟨w.heap.size, 5, none⟩ = some (.int .i64 ev) := by simp [← hv_, go_sem]
  have sc6 : v1.cell? ⟨w.heap.size, 6, none⟩ = some (.int .i64 la) := by simp [← hv_, go_sem]
  have sc7 : v1.cell? ⟨w.heap.size, 7, none⟩ = some (.int .i64 po) := by simp [← hv_, go_sem]
  have scl : w.heap.size < v1.heap.size := by simp [← hv_] <;> omega
  obtain ⟨pf0, pf1⟩ : Cs2 v1 (w.heap.size + 1) (.int .i64 f) (.int .i64 g) := by simp [Cs2, ← hv_, go_sem]
  have pfl : w.heap.size + 1 < v1.heap.size := by simp [← hv_] <;> omega
  clear hv_
  go_wp2_with fail
  refine (CR0 _).mono ?_
  rintro e w2 ⟨rfl, b⟩
  rewrite [cR b scl] at sc0 sc1 sc2 sc3 sc4 sc5 sc6 sc7
  replace scl := lK b scl
  rewrite [cR b pfl] at pf0 pf1
  replace pfl := lK b pfl
  replace cc := bK cc b
  clear b
  go_wp2_with fail
  refine (alive15_any _).mono ?_
  rintro e w3 ⟨rfl, b⟩
  rewrite [cR b scl] at sc0 sc1 sc2 sc3 sc4 sc5 sc6 sc7
  replace scl := lK b scl
  rewrite [cR b pfl] at pf0 pf1
  replace pfl := lK b pfl
  replace cc := bK cc b
  clear b
  go_wp2_with fail
  go_ret
  exact ⟨rfl, cc⟩

theorem SchedAny_n1 {w : World} {kd ba ra en wa ev la po t f g : Int} (hR0 : OkR f kd ba ra en wa ev la po) (hR1 : ¬ OkR g kd ba ra en wa ev la po) :
    Calls Try.prog 7 #[.agg #[.int .i64 kd, .int .i64 ba, .int .i64 ra, .int .i64 en, .int .i64 wa, .int .i64 ev, .int .i64 la, .int .i64 po], .int .i64 t, .agg #[.int .i64 f, .int .i64 g]] w fun e w' => e = .returned (.bool true) ∧ Below w.heap.size w w' := by
  have CR0 : ∀ W : World, Calls Try.prog 8 #[.agg #[.int .i64 kd, .int .i64 ba, .int .i64 ra, .int .i64 en, .int .i64 wa, .int .i64 ev, .int .i64 la, .int .i64 po], .int .i64 f] W (GotV W (.bool true)) := fun W => by have h := rRight15_N (w := W) (f := f) (kd := kd) (ba := ba) (ra := ra) (en := en) (wa := wa) (ev := ev) (la := la) (po := po); rw [decide_eq_true hR0] at h; exact h
  have CR1 : ∀ W : World, Calls Try.prog 8 #[.agg #[.int .i64 kd, .int .i64 ba, .int .i64 ra, .int .i64 en, .int .i64 wa, .int .i64 ev, .int .i64 la, .int .i64 po], .int .i64 g] W (GotV W (.bool false)) := fun W => by have h := rRight15_N (w := W) (f := g) (kd := kd) (ba := ba) (ra := ra) (en := en) (wa := wa) (ev := ev) (la := la) (po := po); rw [decide_eq_false hR1] at h; exact h
  clear hR0 hR1
  have cc := Below.refl w.heap.size w
  go_enter Try.func7, Try.ntmps7
  go_wp2_with fail
  generalize hv_ : (w.alloc (.cells #[.int .i64 kd, .int .i64 ba, .int .i64 ra, .int .i64 en, .int .i64 wa, .int .i64 ev, .int .i64 la, .int .i64 po] 23)).alloc (.cells #[.int .i64 f, .int .i64 g] 24) = v1
  have bA : Below w.heap.size w v1 := by rw [← hv_]; exact (((Below.refl _ w).alloc (by simp) _).alloc (by simp) _)
  replace cc := bK cc bA
  clear bA
  have sc0 : v1.cell? ⟨w.heap.size, 0, none⟩ = some (.int .i64 kd) := by simp [← hv_, go_sem]
  have sc1 : v1.cell? ⟨w.heap.size, 1, none⟩ = some (.int .i64 ba) := by simp [← hv_, go_sem]
  have sc2 : v1.cell? ⟨w.heap.size, 2, none⟩ = some (.int .i64 ra) := by simp [← hv_, go_sem]
  have sc3 : v1.cell? ⟨w.heap.size, 3, none⟩ = some (.int .i64 en) := by simp [← hv_, go_sem]
  have sc4 : v1.cell? ⟨w.heap.size, 4, none⟩ = some (.int .i64 wa) := by simp [← hv_, go_sem]
  have sc5 : v1.cell? ⟨w.heap.size, 5, none⟩ = some (.int .i64 ev) := by simp [← hv_, go_sem]
  have sc6 : v1.cell? ⟨w.heap.size, 6, none⟩ = some (.int .i64 la) := by simp [← hv_, go_sem]
  have sc7 : v1.cell? ⟨w.heap.size, 7, none⟩ = some (.int .i64 po) := by simp [← hv_, go_sem]
  have scl : w.heap.size < v1.heap.size := by simp [← hv_] <;> omega
  obtain ⟨pf0, pf1⟩ : Cs2 v1 (w.heap.size + 1) (.int .i64 f) (.int .i64 g) := by simp [Cs2, ← hv_, go_sem]
  have pfl : w.heap.size + 1 < v1.heap.size := by simp [← hv_] <;> omega
  clear hv_
  go_wp2_with fail
  refine (CR0 _).mono ?_
  rintro e w2 ⟨rfl, b⟩
  rewrite [cR b scl] at sc0 sc1 sc2 sc3 sc4 sc5 sc6 sc7
  replace scl := lK b scl
  rewrite [cR b pfl] at pf0 pf1
  replace pfl := lK b pfl
  replace cc := bK cc b
  clear b
  go_wp2_with fail
  refine (CR1 _).mono ?_
  rintro e w3 ⟨rfl, b⟩
  rewrite [cR b scl] at sc0 sc1 sc2 sc3 sc4 sc5 sc6 sc7
  replace scl := lK b scl
  rewrite [cR b pfl] at pf0 pf1
  replace pfl := lK b pfl
  replace cc := bK cc b
  clear b
  go_wp2_with fail
  refine (alive15_any _).mono ?_
  rintro e w4 ⟨rfl, b⟩
  rewrite [cR b scl] at sc0 sc1 sc2 sc3 sc4 sc5 sc6 sc7
  replace scl := lK b scl
  rewrite [cR b pfl] at pf0 pf1
  replace pfl := lK b pfl
  replace cc := bK cc b
  clear b
  go_wp2_with fail
  go_ret
  exact ⟨rfl, cc⟩

theorem SchedAny_e0 {w : World} {kd ba ra en wa ev la po t f g : Int} (hR0 : OkR f kd ba ra en wa ev la po) (hR1 : OkR g kd ba ra en wa ev la po) (h0 : kd = 2) :
    Calls Try.prog 7 #[.agg #[.int .i64 kd, .int .i64 ba, .int .i64 ra, .int .i64 en, .int .i64 wa, .int .i64 ev, .int .i64 la, .int .i64 po], .int .i64 t, .agg #[.int .i64 f, .int .i64 g]] w fun e w' => e = .returned (.bool true) ∧ Below w.heap.size w w' := by
  have CR0 : ∀ W : World, Calls Try.prog 8 #[.agg #[.int .i64 kd, .int .i64 ba, .int .i64 ra, .int .i64 en, .int .i64 wa, .int .i64 ev, .int .i64 la, .int .i64 po], .int .i64 f] W (GotV W (.bool true)) := fun W => by have h := rRight15_N (w := W) (f := f) (kd := kd) (ba := ba) (ra := ra) (en := en) (wa := wa) (ev := ev) (la := la) (po := po); rw [decide_eq_true hR0] at h; exact h
  have CR1 : ∀ W : World, Calls Try.prog 8 #[.agg #[.int .i64 kd, .int .i64 ba, .int .i64 ra, .int .i64 en, .int .i64 wa, .int .i64 ev, .int .i64 la, .int .i64 po], .int .i64 g] W (GotV W (.bool true)) := fun W => by have h := rRight15_N (w := W) (f := g) (kd := kd) (ba := ba) (ra := ra) (en := en) (wa := wa) (ev := ev) (la := la) (po := po); rw [decide_eq_true hR1] at h; exact h
  have t0 : ((kd : Int) == 2) = true := beq_iff_eq.2 h0
  have t0n : ((kd : Int) != 2) = false := by simp; omega
  clear hR0 hR1 h0
  have cc := Below.refl w.heap.size w
  go_enter Try.func7, Try.ntmps7
  go_wp2_with fail
  generalize hv_ : (w.alloc (.cells #[.int .i64 kd, .int .i64 ba, .int .i64 ra, .int .i64 en, .int .i64 wa, .int .i64 ev, .int .i64 la, .int .i64 po] 23)).alloc (.cells #[.int .i64 f, .int .i64 g] 24) = v1
  have bA : Below w.heap.size w v1 := by rw [← hv_]; exact (((Below.refl _ w).alloc (by simp) _).alloc (by simp) _)
  replace cc := bK cc bA
  clear bA
  have sc0 : v1.cell? ⟨w.heap.size, 0, none⟩ = some (.int .i64 kd) := by simp [← hv_, go_sem]
  have sc1 : v1.cell? ⟨w.heap.size, 1, none⟩ = some (.int .i64 ba) := by simp [← hv_, go_sem]
  have sc2 : v1.cell? ⟨w.heap.size, 2, none⟩ = some (.int .i64 ra) := by simp [← hv_, go_sem]
  have sc3 : v1.cell? ⟨w.heap.size, 3, none⟩ = some (.int .i64 en) := by simp [← hv_, go_sem]
  have sc4 : v1.cell? ⟨w.heap.size, 4, none⟩ = some (.int .i64 wa) := by simp [← hv_, go_sem]
  have sc5 : v1.cell? ⟨w.heap.size, 5, none⟩ = some (.int .i64 ev) := by simp [← hv_, go_sem]
  have sc6 : v1.cell? ⟨w.heap.size, 6, none⟩ = some (.int .i64 la) := by simp [← hv_, go_sem]
  have sc7 : v1.cell? ⟨w.heap.size, 7, none⟩ = some (.int .i64 po) := by simp [← hv_, go_sem]
  have scl : w.heap.size < v1.heap.size := by simp [← hv_] <;> omega
  obtain ⟨pf0, pf1⟩ : Cs2 v1 (w.heap.size + 1) (.int .i64 f) (.int .i64 g) := by simp [Cs2, ← hv_, go_sem]
  have pfl : w.heap.size + 1 < v1.heap.size := by simp [← hv_] <;> omega
  clear hv_
  go_wp2_with fail
  refine (CR0 _).mono ?_
  rintro e w2 ⟨rfl, b⟩
  rewrite [cR b scl] at sc0 sc1 sc2 sc3 sc4 sc5 sc6 sc7
  replace scl := lK b scl
  rewrite [cR b pfl] at pf0 pf1
  replace pfl := lK b pfl
  replace cc := bK cc b
  clear b
  go_wp2_with fail
  refine (CR1 _).mono ?_
  rintro e w3 ⟨rfl, b⟩
  rewrite [cR b scl] at sc0 sc1 sc2 sc3 sc4 sc5 sc6 sc7
  replace scl := lK b scl
  rewrite [cR b pfl] at pf0 pf1
  replace pfl := lK b pfl
  replace cc := bK cc b
  clear b
  go_wp2_with fail
  refine (alive15_any _).mono ?_
  rintro e w4 ⟨rfl, b⟩
  rewrite [cR b scl] at sc0 sc1 sc2 sc3 sc4 sc5 sc6 sc7
  replace scl := lK b scl
  rewrite [cR b pfl] at pf0 pf1
  replace pfl := lK b pfl
  replace cc := bK cc b
  clear b
  go_wp2_with fail
  go_ret
  exact ⟨rfl, cc⟩

theorem SchedAny_e1 {w : World} {kd ba ra en wa ev la po t f g : Int} (hR0 : OkR f kd ba ra en wa ev la po) (hR1 : OkR g kd ba ra en wa ev la po) (h0 : ¬ kd = 2) (h1 : t < 1) :
    Calls Try.prog 7 #[.agg #[.int .i64 kd, .int .i64 ba, .int .i64 ra, .int .i64 en, .int .i64 wa, .int .i64 ev, .int .i64 la, .int .i64 po], .int .i64 t, .agg #[.int .i64 f, .int .i64 g]] w fun e w' => e = .returned (.bool true) ∧ Below w.heap.size w w' := by
  have CR0 : ∀ W : World, Calls Try.prog 8 #[.agg #[.int .i64 kd, .int .i64 ba, .int .i64 ra, .int .i64 en, .int .i64 wa, .int .i64 ev, .int .i64 la, .int .i64 po], .int .i64 f] W (GotV W (.bool true)) := fun W => by have h := rRight15_N (w := W) (f := f) (kd := kd) (ba := ba) (ra := ra) (en := en) (wa := wa) (ev := ev) (la := la) (po := po); rw [decide_eq_true hR0] at h; exact h
  have CR1 : ∀ W : World, Calls Try.prog 8 #[.agg #[.int .i64 kd, .int .i64 ba, .int .i64 ra, .int .i64 en, .int .i64 wa, .int .i64 ev, .int .i64 la, .int .i64 po], .int .i64 g] W (GotV W (.bool true)) := fun W => by have h := rRight15_N (w := W) (f := g) (kd := kd) (ba := ba) (ra := ra) (en := en) (wa := wa) (ev := ev) (la := la) (po := po); rw [decide_eq_true hR1] at h; exact h
  have t0 : ((kd : Int) == 2) = false := beq_eq_false_iff_ne.2 h0
  have t0n : ((kd : Int) != 2) = true := by simp; omega
  have t1 : decide (t < 1) = true := decide_eq_true h1
  clear hR0 hR1 h0 h1
  have cc := Below.refl w.heap.size w
  go_enter Try.func7, Try.ntmps7
  go_wp2_with fail
  generalize hv_ : (w.alloc (.cells #[.int .i64 kd, .int .i64 ba, .int .i64 ra, .int .i64 en, .int .i64 wa, .int .i64 ev, .int .i64 la, .int .i64 po] 23)).alloc (.cells #[.int .i64 f, .int .i64 g] 24) = v1
  have bA : Below w.heap.size w v1 := by rw [← hv_]; exact (((Below.refl _ w).alloc (by simp) _).alloc (by simp) _)
  replace cc := bK cc bA
  clear bA
  have sc0 : v1.cell? ⟨w.heap.size, 0, none⟩ = some (.int .i64 kd) := by simp [← hv_, go_sem]
  have sc1 : v1.cell? ⟨w.heap.size, 1, none⟩ = some (.int .i64 ba) := by simp [← hv_, go_sem]
  have sc2 : v1.cell? ⟨w.heap.size, 2, none⟩ = some (.int .i64 ra) := by simp [← hv_, go_sem]
  have sc3 : v1.cell? ⟨w.heap.size, 3, none⟩ = some (.int .i64 en) := by simp [← hv_, go_sem]
  have sc4 : v1.cell? ⟨w.heap.size, 4, none⟩ = some (.int .i64 wa) := by simp [← hv_, go_sem]
  have sc5 : v1.cell? ⟨w.heap.size, 5, none⟩ = some (.int .i64 ev) := by simp [← hv_, go_sem]
  have sc6 : v1.cell? ⟨w.heap.size, 6, none⟩ = some (.int .i64 la) := by simp [← hv_, go_sem]
  have sc7 : v1.cell? ⟨w.heap.size, 7, none⟩ = some (.int .i64 po) := by simp [← hv_, go_sem]
  have scl : w.heap.size < v1.heap.size := by simp [← hv_] <;> omega
  obtain ⟨pf0, pf1⟩ : Cs2 v1 (w.heap.size + 1) (.int .i64 f) (.int .i64 g) := by simp [Cs2, ← hv_, go_sem]
  have pfl : w.heap.size + 1 < v1.heap.size := by simp [← hv_] <;> omega
  clear hv_
  go_wp2_with fail
  refine (CR0 _).mono ?_
  rintro e w2 ⟨rfl, b⟩
  rewrite [cR b scl] at sc0 sc1 sc2 sc3 sc4 sc5 sc6 sc7
  replace scl := lK b scl
  rewrite [cR b pfl] at pf0 pf1
  replace pfl := lK b pfl
  replace cc := bK cc b
  clear b
  go_wp2_with fail
  refine (CR1 _).mono ?_
  rintro e w3 ⟨rfl, b⟩
  rewrite [cR b scl] at sc0 sc1 sc2 sc3 sc4 sc5 sc6 sc7
  replace scl := lK b scl
  rewrite [cR b pfl] at pf0 pf1
  replace pfl := lK b pfl
  replace cc := bK cc b
  clear b
  go_wp2_with fail
  refine (alive15_any _).mono ?_
  rintro e w4 ⟨rfl, b⟩
  rewrite [cR b scl] at sc0 sc1 sc2 sc3 sc4 sc5 sc6 sc7
  replace scl := lK b scl
  rewrite [cR b pfl] at pf0 pf1
  replace pfl := lK b pfl
  replace cc := bK cc b
  clear b
  go_wp2_with fail
  go_ret
  exact ⟨rfl, cc⟩

theorem SchedAny_e2 {w : World} {kd ba ra en wa ev la po t f g : Int} (hR0 : OkR f kd ba ra en wa ev la po) (hR1 : OkR g kd ba ra en wa ev la po) (h0 : ¬ kd = 2) (h1 : ¬ t < 1) (h2 : 1000000 < t) :
    Calls Try.prog 7 #[.agg #[.int .i64 kd, .int .i64 ba, .int .i64 ra, .int .i64 en, .int .i64 wa, .int .i64 ev, .int .i64 la, .int .i64 po], .int .i64 t, .agg #[.int .i64 f, .int .i64 g]] w fun e w' => e = .returned (.bool true) ∧ Below w.heap.size w w' := by
  have CR0 : ∀ W : World, Calls Try.prog 8 #[.agg #[.int .i64 kd, .int .i64 ba, .int .i64 ra, .int .i64 en, .int .i64 wa, .int .i64 ev, .int .i64 la, .int .i64 po], .int .i64 f] W (GotV W (.bool true)) := fun W => by have h := rRight15_N (w := W) (f := f) (kd := kd) (ba := ba) (ra := ra) (en := en) (wa := wa) (ev := ev) (la := la) (po := po); rw [decide_eq_true hR0] at h; exact h
  have CR1 : ∀ W : World, Calls Try.prog 8 #[.agg #[.int .i64 kd, .int .i64 ba, .int .i64 ra, .int .i64 en, .int .i64 wa, .int .i64 ev, .int .i64 la, .int .i64 po], .int .i64 g] W (GotV W (.bool true)) := fun W => by have h := rRight15_N (w := W) (f := g) (kd := kd) (ba := ba) (ra := ra) (en := en) (wa := wa) (ev := ev) (la := la) (po := po); rw [decide_eq_true hR1] at h; exact h
  have t0 : ((kd : Int) == 2) = false := beq_eq_false_iff_ne.2 h0
  have t0n : ((kd : Int) != 2) = true := by simp; omega
  have t1 : decide (t < 1) = false := decide_eq_false h1
  have t2 : decide (1000000 < t) = true := decide_eq_true h2
  clear hR0 hR1 h0 h1 h2
  have cc := Below.refl w.heap.size w
  go_enter Try.func7, Try.ntmps7
  go_wp2_with fail
  generalize hv_ : (w.alloc (.cells #[.int .i64 kd, .int .i64 ba, .int .i64 ra, .int .i64 en, .int .i64 wa, .int .i64 ev, .int .i64 la, .int .i64 po] 23)).alloc (.cells #[.int .i64 f, .int .i64 g] 24) = v1
  have bA : Below w.heap.size w v1 := by rw [← hv_]; exact (((Below.refl _ w).alloc (by simp) _).alloc (by simp) _)
  replace cc := bK cc bA
  clear bA
  have sc0 : v1.cell? ⟨w.heap.size, 0, none⟩ = some (.int .i64 kd) := by simp [← hv_, go_sem]
  have sc1 : v1.cell? ⟨w.heap.size, 1, none⟩ = some (.int .i64 ba) := by simp [← hv_, go_sem]
  have sc2 : v1.cell? ⟨w.heap.size, 2, none⟩ = some (.int .i64 ra) := by simp [← hv_, go_sem]
  have sc3 : v1.cell? ⟨w.heap.size, 3, none⟩ = some (.int .i64 en) := by simp [← hv_, go_sem]
  have sc4 : v1.cell? ⟨w.heap.size, 4, none⟩ = some (.int .i64 wa) := by simp [← hv_, go_sem]
  have sc5 : v1.cell? ⟨w.heap.size, 5, none⟩ = some (.int .i64 ev) := by simp [← hv_, go_sem]
  have sc6 : v1.cell? ⟨w.heap.size, 6, none⟩ = some (.int .i64 la) := by simp [← hv_, go_sem]
  have sc7 : v1.cell? ⟨w.heap.size, 7, none⟩ = some (.int .i64 po) := by simp [← hv_, go_sem]
  have scl : w.heap.size < v1.heap.size := by simp [← hv_] <;> omega
  obtain ⟨pf0, pf1⟩ : Cs2 v1 (w.heap.size + 1) (.int .i64 f) (.int .i64 g) := by simp [Cs2, ← hv_, go_sem]
  have pfl : w.heap.size + 1 < v1.heap.size := by simp [← hv_] <;> omega
  clear hv_
  go_wp2_with fail
  refine (CR0 _).mono ?_
  rintro e w2 ⟨rfl, b⟩
  rewrite [cR b scl] at sc0 sc1 sc2 sc3 sc4 sc5 sc6 sc7
  replace scl := lK b scl
  rewrite [cR b pfl] at pf0 pf1
  replace pfl := lK b pfl
  replace cc := bK cc b
  clear b
  go_wp2_with fail
  refine (CR1 _).mono ?_
  rintro e w3 ⟨rfl, b⟩
  rewrite [cR b scl] at sc0 sc1 sc2 sc3 sc4 sc5 sc6 sc7
  replace scl := lK b scl
  rewrite [cR b pfl] at pf0 pf1
  replace pfl := lK b pfl
  replace cc := bK cc b
  clear b
  go_wp2_with fail
  refine (alive15_any _).mono ?_
  rintro e w4 ⟨rfl, b⟩
  rewrite [cR b scl] at sc0 sc1 sc2 sc3 sc4 sc5 sc6 sc7
  replace scl := lK b scl
  rewrite [cR b pfl] at pf0 pf1
  replace pfl := lK b pfl
  replace cc := bK cc b
  clear b
  go_wp2_with fail
  go_ret
  exact ⟨rfl, cc⟩

theorem SchedAny_p {w : World} {kd ba ra en wa ev la po t f g : Int} (hR0 : OkR f kd ba ra en wa ev la po) (hR1 : OkR g kd ba ra en wa ev la po) (h0 : ¬ kd = 2) (h1 : ¬ t < 1) (h2 : ¬ 1000000 < t) (hk : kd = 3) (hI : I64 kd ∧ I64 ba ∧ I64 ra ∧ I64 en ∧ I64 wa ∧ I64 ev ∧ I64 la ∧ I64 po ∧ I64 t ∧ I64 f) (hIg : I64 g) :
    Calls Try.prog 7 #[.agg #[.int .i64 kd, .int .i64 ba, .int .i64 ra, .int .i64 en, .int .i64 wa, .int .i64 ev, .int .i64 la, .int .i64 po], .int .i64 t, .agg #[.int .i64 f, .int .i64 g]] w fun e w' => e = .returned (.bool true) ∧ Below w.heap.size w w' := by
  have CR0 : ∀ W : World, Calls Try.prog 8 #[.agg #[.int .i64 kd, .int .i64 ba, .int .i64 ra, .int .i64 en, .int .i64 wa, .int .i64 ev, .int .i64 la, .int .i64 po], .int .i64 f] W (GotV W (.bool true)) := fun W => by have h := rRight15_N (w := W) (f := f) (kd := kd) (ba := ba) (ra := ra) (en := en) (wa := wa) (ev := ev) (la := la) (po := po); rw [decide_eq_true hR0] at h; exact h
  have CR1 : ∀ W : World, Calls Try.prog 8 #[.agg #[.int .i64 kd, .int .i64 ba, .int .i64 ra, .int .i64 en, .int .i64 wa, .int .i64 ev, .int .i64 la, .int .i64 po], .int .i64 g] W (GotV W (.bool true)) := fun W => by have h := rRight15_N (w := W) (f := g) (kd := kd) (ba := ba) (ra := ra) (en := en) (wa := wa) (ev := ev) (la := la) (po := po); rw [decide_eq_true hR1] at h; exact h
  have t0 : ((kd : Int) == 2) = false := beq_eq_false_iff_ne.2 h0
  have t0n : ((kd : Int) != 2) = true := by simp; omega
  have t1 : decide (t < 1) = false := decide_eq_false h1
  have t2 : decide (1000000 < t) = false := decide_eq_false h2
  obtain ⟨i_kd, i_ba, i_ra, i_en, i_wa, i_ev, i_la, i_po, i_t, i_f⟩ := id hI
  have b0 := hR0.2.2.1
  have q1 : kd ≠ 2 := h0
  have hk3 := hR0.2.1
  have s3 : ((kd : Int) == 3) = true := beq_iff_eq.2 (by omega)
  obtain ⟨c, ec⟩ : ∃ c, ba / 2 = c := ⟨_, rfl⟩
  have c0 : 0 ≤ c ∧ c ≤ ba := by omega
  obtain ⟨x, e_x⟩ : ∃ x, rt15 f kd ba ra en wa ev la po t = x := ⟨_, rfl⟩
  have e_y : rt15 g kd ba ra en wa ev la po t = x := by rw [rt_any (f := f) q1]; exact e_x
  obtain ⟨z, e_z⟩ : ∃ z, rt15 f kd ba ra en 0 ev la po 1 = z := ⟨_, rfl⟩
  obtain ⟨l, e_l⟩ : ∃ z, rt15 f kd c ra 0 wa ev la po t = z := ⟨_, rfl⟩
  have CX : ∀ W : World, Calls Try.prog 10 #[.agg #[.int .i64 kd, .int .i64 ba, .int .i64 ra, .int .i64 en, .int .i64 wa, .int .i64 ev, .int .i64 la, .int .i64 po], .int .i64 t, .int .i64 f] W (GotV W (.tuple #[.int .i64 x, .int .i64 0])) := fun W => by
    have h := sRate_N W (kd := kd) (ba := ba) (ra := ra) (en := en) (wa := wa) (ev := ev) (la := la) (po := po) (t := t) (f := f) (by first | exact ⟨i_kd, i_ba, i_ra, i_en, i_wa, i_ev, i_la, i_po, i_t, i_f⟩ | (unfold I64 at *; omega))
    rw [(rVE hR0 (by omega) (by omega)).1, (rVE hR0 (by omega) (by omega)).2, e_x] at h
    exact h
  have CY : ∀ W : World, Calls Try.prog 10 #[.agg #[.int .i64 kd, .int .i64 ba, .int .i64 ra, .int .i64 en, .int .i64 wa, .int .i64 ev, .int .i64 la, .int .i64 po], .int .i64 t, .int .i64 g] W (GotV W (.tuple #[.int .i64 x, .int .i64 0])) := fun W => by
    have h := sRate_N W (kd := kd) (ba := ba) (ra := ra) (en := en) (wa := wa) (ev := ev) (la := la) (po := po) (t := t) (f := g) (by first | exact ⟨i_kd, i_ba, i_ra, i_en, i_wa, i_ev, i_la, i_po, i_t, i_f⟩ | (unfold I64 at *; omega))
    rw [(rVE hR1 (by omega) (by omega)).1, (rVE hR1 (by omega) (by omega)).2, e_y] at h
    exact h
  have CZ : ∀ W : World, Calls Try.prog 10 #[.agg #[.int .i64 kd, .int .i64 ba, .int .i64 ra, .int .i64 en, .int .i64 0, .int .i64 ev, .int .i64 la, .int .i64 po], .int .i64 1, .int .i64 f] W (GotV W (.tuple #[.int .i64 z, .int .i64 0])) := fun W => by
    have h := sRate_N W (kd := kd) (ba := ba) (ra := ra) (en := en) (wa := 0) (ev := ev) (la := la) (po := po) (t := 1) (f := f) (by first | exact ⟨i_kd, i_ba, i_ra, i_en, i_wa, i_ev, i_la, i_po, i_t, i_f⟩ | (unfold I64 at *; omega))
    rw [(rVE (okR_first hR0) (by omega) (by omega)).1, (rVE (okR_first hR0) (by omega) (by omega)).2, e_z] at h
    exact h
  have CL : ∀ W : World, Calls Try.prog 10 #[.agg #[.int .i64 kd, .int .i64 c, .int .i64 ra, .int .i64 0, .int .i64 wa, .int .i64 ev, .int .i64 la, .int .i64 po], .int .i64 t, .int .i64 f] W (GotV W (.tuple #[.int .i64 l, .int .i64 0])) := fun W => by
    have h := sRate_N W (kd := kd) (ba := c) (ra := ra) (en := 0) (wa := wa) (ev := ev) (la := la) (po := po) (t := t) (f := f) (by first | exact ⟨i_kd, i_ba, i_ra, i_en, i_wa, i_ev, i_la, i_po, i_t, i_f⟩ | (unfold I64 at *; omega))
    rw [(rVE (okR_less hR0 c0.1) (by omega) (by omega)).1, (rVE (okR_less hR0 c0.1) (by omega) (by omega)).2, e_l] at h
    exact h
  have xx : (x == x) = true := beq_self_eq_true _
  have d3 : Int.tdiv ba 2 = c := by rw [Int.tdiv_eq_ediv_of_nonneg b0]; exact ec
  have d4 : IntKind.i64.wrap c = c := IntWalk.i64_in _ (by unfold I64 at i_ba; omega)
  have d6 : IntKind.i64.wrap (ba / 2) = c := by rw [ec]; exact d4
  have d7 : IntKind.i64.wrap (Int.tdiv ba 2) = c := by rw [d3]; exact d4
  clear hR0 hR1 h0 h1 h2 b0 q1 hk3 ec c0 e_x e_y e_z e_l hI hIg hk i_kd i_ba i_ra i_en i_wa i_ev i_la i_po i_t i_f
  have cc := Below.refl w.heap.size w
  go_enter Try.func7, Try.ntmps7
  go_wp2_with fail
  generalize hv_ : (w.alloc (.cells #[.int .i64 kd, .int .i64 ba, .int .i64 ra, .int .i64 en, .int .i64 wa, .int .i64 ev, .int .i64 la, .int .i64 po] 23)).alloc (.cells #[.int .i64 f, .int .i64 g] 24) = v1
  have bA : Below w.heap.size w v1 := by rw [← hv_]; exact (((Below.refl _ w).alloc (by simp) _).alloc (by simp) _)
  replace cc := bK cc bA
  clear bA
  have sc0 : v1.cell? ⟨w.heap.size, 0, none⟩ = some (.int .i64 kd) := by simp [← hv_, go_sem]
  have sc1 : v1.cell? ⟨w.heap.size, 1, none⟩ = some (.int .i64 ba) := by simp [← hv_, go_sem]
  have sc2 : v1.cell? ⟨w.heap.size, 2, none⟩ = some (.int .i64 ra) := by simp [← hv_, go_sem]
  have sc3 : v1.cell? ⟨w.heap.size, 3, none⟩ = some (.int .i64 en) := by simp [← hv_, go_sem]
  have sc4 : v1.cell? ⟨w.heap.size, 4, none⟩ = some (.int .i64 wa) := by simp [← hv_, go_sem]
  have sc5 : v1.cell? ⟨w.heap.size, 5, none⟩ = some (.int .i64 ev) := by simp [← hv_, go_sem]
  have sc6 : v1.cell? ⟨w.heap.size, 6, none⟩ = some (.int .i64 la) := by simp [← hv_, go_sem]
  have sc7 : v1.cell? ⟨w.heap.size, 7, none⟩ = some (.int .i64 po) := by simp [← hv_, go_sem]
  have scl : w.heap.size < v1.heap.size := by simp [← hv_] <;> omega
  obtain ⟨pf0, pf1⟩ : Cs2 v1 (w.heap.size + 1) (.int .i64 f) (.int .i64 g) := by simp [Cs2, ← hv_, go_sem]
  have pfl : w.heap.size + 1 < v1.heap.size := by simp [← hv_] <;> omega
  clear hv_
  go_wp2_with fail
  refine (CR0 _).mono ?_
  rintro e w2 ⟨rfl, b⟩
  rewrite [cR b scl] at sc0 sc1 sc2 sc3 sc4 sc5 sc6 sc7
  replace scl := lK b scl
  rewrite [cR b pfl] at pf0 pf1
  replace pfl := lK b pfl
  replace cc := bK cc b
  clear b
  go_wp2_with fail
  refine (CR1 _).mono ?_
  rintro e w3 ⟨rfl, b⟩
  rewrite [cR b scl] at sc0 sc1 sc2 sc3 sc4 sc5 sc6 sc7
  replace scl := lK b scl
  rewrite [cR b pfl] at pf0 pf1
  replace pfl := lK b pfl
  replace cc := bK cc b
  clear b
  go_wp2_with fail
  refine (CX _).mono ?_
  rintro e w4 ⟨rfl, b⟩
  rewrite [cR b scl] at sc0 sc1 sc2 sc3 sc4 sc5 sc6 sc7
  replace scl := lK b scl
  rewrite [cR b pfl] at pf0 pf1
  replace pfl := lK b pfl
  replace cc := bK cc b
  clear b
  go_wp2_with fail
  refine (CY _).mono ?_
  rintro e w5 ⟨rfl, b⟩
  rewrite [cR b scl] at sc0 sc1 sc2 sc3 sc4 sc5 sc6 sc7
  replace scl := lK b scl
  rewrite [cR b pfl] at pf0 pf1
  replace pfl := lK b pfl
  replace cc := bK cc b
  clear b
  go_upto_region 6 with fail
  have fbqsc : w.heap.size < w5.heap.size := scl
  have fbqpf : w.heap.size + 1 < w5.heap.size := pfl
  generalize hv_ : w5.alloc (.cells #[.int .i64 kd, .int .i64 ba, .int .i64 ra, .int .i64 en, .int .i64 wa, .int .i64 ev, .int .i64 la, .int .i64 po] 23) = v6
  have bA : Below w5.heap.size w5 v6 := by rw [← hv_]; exact below_one _ _
  rewrite [cR bA scl] at sc0 sc1 sc2 sc3 sc4 sc5 sc6 sc7
  replace scl := lK bA scl
  rewrite [cR bA pfl] at pf0 pf1
  replace pfl := lK bA pfl
  replace cc := bK cc bA
  clear bA
  have fb0 : v6.cell? ⟨w5.heap.size, 0, none⟩ = some (.int .i64 kd) := by simp [← hv_, go_sem]
  have fb1 : v6.cell? ⟨w5.heap.size, 1, none⟩ = some (.int .i64 ba) := by simp [← hv_, go_sem]
  have fb2 : v6.cell? ⟨w5.heap.size, 2, none⟩ = some (.int .i64 ra) := by simp [← hv_, go_sem]
  have fb3 : v6.cell? ⟨w5.heap.size, 3, none⟩ = some (.int .i64 en) := by simp [← hv_, go_sem]
  have fb4 : v6.cell? ⟨w5.heap.size, 4, none⟩ = some (.int .i64 wa) := by simp [← hv_, go_sem]
  have fb5 : v6.cell? ⟨w5.heap.size, 5, none⟩ = some (.int .i64 ev) := by simp [← hv_, go_sem]
  have fb6 : v6.cell? ⟨w5.heap.size, 6, none⟩ = some (.int .i64 la) := by simp [← hv_, go_sem]
  have fb7 : v6.cell? ⟨w5.heap.size, 7, none⟩ = some (.int .i64 po) := by simp [← hv_, go_sem]
  have fbr0 : v6.frozen? ⟨w5.heap.size, 0, none⟩ = false := by simp [← hv_, go_sem]
  have fbr1 : v6.frozen? ⟨w5.heap.size, 1, none⟩ = false := by simp [← hv_, go_sem]
  have fbr2 : v6.frozen? ⟨w5.heap.size, 2, none⟩ = false := by simp [← hv_, go_sem]
  have fbr3 : v6.frozen? ⟨w5.heap.size, 3, none⟩ = false := by simp [← hv_, go_sem]
  have fbr4 : v6.frozen? ⟨w5.heap.size, 4, none⟩ = false := by simp [← hv_, go_sem]
  have fbr5 : v6.frozen? ⟨w5.heap.size, 5, none⟩ = false := by simp [← hv_, go_sem]
  have fbr6 : v6.frozen? ⟨w5.heap.size, 6, none⟩ = false := by simp [← hv_, go_sem]
  have fbr7 : v6.frozen? ⟨w5.heap.size, 7, none⟩ = false := by simp [← hv_, go_sem]
  have fbl : w5.heap.size < v6.heap.size := by simp [← hv_]
  clear hv_
  go_upto_region 7 with fail
  replace sc0 : (v6.setCell ⟨w5.heap.size, 4, none⟩ (.int .i64 0)).cell? ⟨w.heap.size, 0, none⟩ = some (.int .i64 kd) := (World.cell?_setCell_other _ _ _ _ (fun e => by injection e with e1 e2; omega)).trans sc0
  replace sc1 : (v6.setCell ⟨w5.heap.size, 4, none⟩ (.int .i64 0)).cell? ⟨w.heap.size, 1, none⟩ = some (.int .i64 ba) := (World.cell?_setCell_other _ _ _ _ (fun e => by injection e with e1 e2; omega)).trans sc1
  replace sc2 : (v6.setCell ⟨w5.heap.size, 4, none⟩ (.int .i64 0)).cell? ⟨w.heap.size, 2, none⟩ = some (.int .i64 ra) := (World.cell?_setCell_other _ _ _ _ (fun e => by injection e with e1 e2; omega)).trans sc2
  replace sc3 : (v6.setCell ⟨w5.heap.size, 4, none⟩ (.int .i64 0)).cell? ⟨w.heap.size, 3, none⟩ = some (.int .i64 en) := (World.cell?_setCell_other _ _ _ _ (fun e => by injection e with e1 e2; omega)).trans sc3
  replace sc4 : (v6.setCell ⟨w5.heap.size, 4, none⟩ (.int .i64 0)).cell? ⟨w.heap.size, 4, none⟩ = some (.int .i64 wa) := (World.cell?_setCell_other _ _ _ _ (fun e => by injection e with e1 e2; omega)).trans sc4
  replace sc5 : (v6.setCell ⟨w5.heap.size, 4, none⟩ (.int .i64 0)).cell? ⟨w.heap.size, 5, none⟩ = some (.int .i64 ev) := (World.cell?_setCell_other _ _ _ _ (fun e => by injection e with e1 e2; omega)).trans sc5
  replace sc6 : (v6.setCell ⟨w5.heap.size, 4, none⟩ (.int .i64 0)).cell? ⟨w.heap.size, 6, none⟩ = some (.int .i64 la) := (World.cell?_setCell_other _ _ _ _ (fun e => by injection e with e1 e2; omega)).trans sc6
  replace sc7 : (v6.setCell ⟨w5.heap.size, 4, none⟩ (.int .i64 0)).cell? ⟨w.heap.size, 7, none⟩ = some (.int .i64 po) := (World.cell?_setCell_other _ _ _ _ (fun e => by injection e with e1 e2; omega)).trans sc7
  replace scl : w.heap.size < (v6.setCell ⟨w5.heap.size, 4, none⟩ (.int .i64 0)).heap.size := by simpa using scl
  replace pf0 : (v6.setCell ⟨w5.heap.size, 4, none⟩ (.int .i64 0)).cell? ⟨w.heap.size + 1, 0, none⟩ = some (.int .i64 f) := (World.cell?_setCell_other _ _ _ _ (fun e => by injection e with e1 e2; omega)).trans pf0
  replace pf1 : (v6.setCell ⟨w5.heap.size, 4, none⟩ (.int .i64 0)).cell? ⟨w.heap.size + 1, 1, none⟩ = some (.int .i64 g) := (World.cell?_setCell_other _ _ _ _ (fun e => by injection e with e1 e2; omega)).trans pf1
  replace pfl : w.heap.size + 1 < (v6.setCell ⟨w5.heap.size, 4, none⟩ (.int .i64 0)).heap.size := by simpa using pfl
  replace fb0 : (v6.setCell ⟨w5.heap.size, 4, none⟩ (.int .i64 0)).cell? ⟨w5.heap.size, 0, none⟩ = some (.int .i64 kd) := (World.cell?_setCell_other _ _ _ _ (fun e => by injection e with e1 e2; omega)).trans fb0
  replace fb1 : (v6.setCell ⟨w5.heap.size, 4, none⟩ (.int .i64 0)).cell? ⟨w5.heap.size, 1, none⟩ = some (.int .i64 ba) := (World.cell?_setCell_other _ _ _ _ (fun e => by injection e with e1 e2; omega)).trans fb1
  replace fb2 : (v6.setCell ⟨w5.heap.size, 4, none⟩ (.int .i64 0)).cell? ⟨w5.heap.size, 2, none⟩ = some (.int .i64 ra) := (World.cell?_setCell_other _ _ _ _ (fun e => by injection e with e1 e2; omega)).trans fb2
  replace fb3 : (v6.setCell ⟨w5.heap.size, 4, none⟩ (.int .i64 0)).cell? ⟨w5.heap.size, 3, none⟩ = some (.int .i64 en) := (World.cell?_setCell_other _ _ _ _ (fun e => by injection e with e1 e2; omega)).trans fb3
  replace fb4 : (v6.setCell ⟨w5.heap.size, 4, none⟩ (.int .i64 0)).cell? ⟨w5.heap.size, 4, none⟩ = some (.int .i64 0) := by simp [go_sem, fb4]
  replace fb5 : (v6.setCell ⟨w5.heap.size, 4, none⟩ (.int .i64 0)).cell? ⟨w5.heap.size, 5, none⟩ = some (.int .i64 ev) := (World.cell?_setCell_other _ _ _ _ (fun e => by injection e with e1 e2; omega)).trans fb5
  replace fb6 : (v6.setCell ⟨w5.heap.size, 4, none⟩ (.int .i64 0)).cell? ⟨w5.heap.size, 6, none⟩ = some (.int .i64 la) := (World.cell?_setCell_other _ _ _ _ (fun e => by injection e with e1 e2; omega)).trans fb6
  replace fb7 : (v6.setCell ⟨w5.heap.size, 4, none⟩ (.int .i64 0)).cell? ⟨w5.heap.size, 7, none⟩ = some (.int .i64 po) := (World.cell?_setCell_other _ _ _ _ (fun e => by injection e with e1 e2; omega)).trans fb7
  replace fbl : w5.heap.size < (v6.setCell ⟨w5.heap.size, 4, none⟩ (.int .i64 0)).heap.size := by simpa using fbl
  replace fbr0 : (v6.setCell ⟨w5.heap.size, 4, none⟩ (.int .i64 0)).frozen? ⟨w5.heap.size, 0, none⟩ = false := by simpa [go_sem] using fbr0
  replace fbr1 : (v6.setCell ⟨w5.heap.size, 4, none⟩ (.int .i64 0)).frozen? ⟨w5.heap.size, 1, none⟩ = false := by simpa [go_sem] using fbr1
  replace fbr2 : (v6.setCell ⟨w5.heap.size, 4, none⟩ (.int .i64 0)).frozen? ⟨w5.heap.size, 2, none⟩ = false := by simpa [go_sem] using fbr2
  replace fbr3 : (v6.setCell ⟨w5.heap.size, 4, none⟩ (.int .i64 0)).frozen? ⟨w5.heap.size, 3, none⟩ = false := by simpa [go_sem] using fbr3
  replace fbr4 : (v6.setCell ⟨w5.heap.size, 4, none⟩ (.int .i64 0)).frozen? ⟨w5.heap.size, 4, none⟩ = false := by simpa [go_sem] using fbr4
  replace fbr5 : (v6.setCell ⟨w5.heap.size, 4, none⟩ (.int .i64 0)).frozen? ⟨w5.heap.size, 5, none⟩ = false := by simpa [go_sem] using fbr5
  replace fbr6 : (v6.setCell ⟨w5.heap.size, 4, none⟩ (.int .i64 0)).frozen? ⟨w5.heap.size, 6, none⟩ = false := by simpa [go_sem] using fbr6
  replace fbr7 : (v6.setCell ⟨w5.heap.size, 4, none⟩ (.int .i64 0)).frozen? ⟨w5.heap.size, 7, none⟩ = false := by simpa [go_sem] using fbr7
  replace cc := cc.setCell (p := ⟨w5.heap.size, 4, none⟩) (show w.heap.size ≤ w5.heap.size by omega) (.int .i64 0)
  generalize v6.setCell ⟨w5.heap.size, 4, none⟩ (.int .i64 0) = v7 at *
  go_wp2_with fail
  refine (CZ _).mono ?_
  rintro e w8 ⟨rfl, b⟩
  rewrite [fR b fbl] at fbr0 fbr1 fbr2 fbr3 fbr4 fbr5 fbr6 fbr7
  rewrite [cR b scl] at sc0 sc1 sc2 sc3 sc4 sc5 sc6 sc7
  replace scl := lK b scl
  rewrite [cR b pfl] at pf0 pf1
  replace pfl := lK b pfl
  rewrite [cR b fbl] at fb0 fb1 fb2 fb3 fb4 fb5 fb6 fb7
  replace fbl := lK b fbl
  replace cc := bK cc b
  clear b
  clear fbr0 fbr1 fbr2 fbr3 fbr4 fbr5 fbr6 fbr7
  go_upto_region 9 with fail
  have lbqsc : w.heap.size < w8.heap.size := scl
  have lbqpf : w.heap.size + 1 < w8.heap.size := pfl
  have lbqfb : w5.heap.size < w8.heap.size := fbl
  generalize hv_ : w8.alloc (.cells #[.int .i64 kd, .int .i64 ba, .int .i64 ra, .int .i64 en, .int .i64 wa, .int .i64 ev, .int .i64 la, .int .i64 po] 23) = v9
  have bA : Below w8.heap.size w8 v9 := by rw [← hv_]; exact below_one _ _
  rewrite [cR bA scl] at sc0 sc1 sc2 sc3 sc4 sc5 sc6 sc7
  replace scl := lK bA scl
  rewrite [cR bA pfl] at pf0 pf1
  replace pfl := lK bA pfl
  rewrite [cR bA fbl] at fb0 fb1 fb2 fb3 fb4 fb5 fb6 fb7
  replace fbl := lK bA fbl
  replace cc := bK cc bA
  clear bA
  have lb0 : v9.cell? ⟨w8.heap.size, 0, none⟩ = some (.int .i64 kd) := by simp [← hv_, go_sem]
  have lb1 : v9.cell? ⟨w8.heap.size, 1, none⟩ = some (.int .i64 ba) := by simp [← hv_, go_sem]
  have lb2 : v9.cell? ⟨w8.heap.size, 2, none⟩ = some (.int .i64 ra) := by simp [← hv_, go_sem]
  have lb3 : v9.cell? ⟨w8.heap.size, 3, none⟩ = some (.int .i64 en) := by simp [← hv_, go_sem]
  have lb4 : v9.cell? ⟨w8.heap.size, 4, none⟩ = some (.int .i64 wa) := by simp [← hv_, go_sem]
  have lb5 : v9.cell? ⟨w8.heap.size, 5, none⟩ = some (.int .i64 ev) := by simp [← hv_, go_sem]
  have lb6 : v9.cell? ⟨w8.heap.size, 6, none⟩ = some (.int .i64 la) := by simp [← hv_, go_sem]
  have lb7 : v9.cell? ⟨w8.heap.size, 7, none⟩ = some (.int .i64 po) := by simp [← hv_, go_sem]
  have lbr0 : v9.frozen? ⟨w8.heap.size, 0, none⟩ = false := by simp [← hv_, go_sem]
  have lbr1 : v9.frozen? ⟨w8.heap.size, 1, none⟩ = false := by simp [← hv_, go_sem]
  have lbr2 : v9.frozen? ⟨w8.heap.size, 2, none⟩ = false := by simp [← hv_, go_sem]
  have lbr3 : v9.frozen? ⟨w8.heap.size, 3, none⟩ = false := by simp [← hv_, go_sem]
  have lbr4 : v9.frozen? ⟨w8.heap.size, 4, none⟩ = false := by simp [← hv_, go_sem]
  have lbr5 : v9.frozen? ⟨w8.heap.size, 5, none⟩ = false := by simp [← hv_, go_sem]
  have lbr6 : v9.frozen? ⟨w8.heap.size, 6, none⟩ = false := by simp [← hv_, go_sem]
  have lbr7 : v9.frozen? ⟨w8.heap.size, 7, none⟩ = false := by simp [← hv_, go_sem]
  have lbl : w8.heap.size < v9.heap.size := by simp [← hv_]
  clear hv_
  go_upto_region 10 with fail
  replace sc0 : (v9.setCell ⟨w8.heap.size, 1, none⟩ (.int .i64 c)).cell? ⟨w.heap.size, 0, none⟩ = some (.int .i64 kd) := (World.cell?_setCell_other _ _ _ _ (fun e => by injection e with e1 e2; omega)).trans sc0
  replace sc1 : (v9.setCell ⟨w8.heap.size, 1, none⟩ (.int .i64 c)).cell? ⟨w.heap.size, 1, none⟩ = some (.int .i64 ba) := (World.cell?_setCell_other _ _ _ _ (fun e => by injection e with e1 e2; omega)).trans sc1
  replace sc2 : (v9.setCell ⟨w8.heap.size, 1, none⟩ (.int .i64 c)).cell? ⟨w.heap.size, 2, none⟩ = some (.int .i64 ra) := (World.cell?_setCell_other _ _ _ _ (fun e => by injection e with e1 e2; omega)).trans sc2
  replace sc3 : (v9.setCell ⟨w8.heap.size, 1, none⟩ (.int .i64 c)).cell? ⟨w.heap.size, 3, none⟩ = some (.int .i64 en) := (World.cell?_setCell_other _ _ _ _ (fun e => by injection e with e1 e2; omega)).trans sc3
  replace sc4 : (v9.setCell ⟨w8.heap.size, 1, none⟩ (.int .i64 c)).cell? ⟨w.heap.size, 4, none⟩ = some (.int .i64 wa) := (World.cell?_setCell_other _ _ _ _ (fun e => by injection e with e1 e2; omega)).trans sc4
  replace sc5 : (v9.setCell ⟨w8.heap.size, 1, none⟩ (.int .i64 c)).cell? ⟨w.heap.size, 5, none⟩ = some (.int .i64 ev) := (World.cell?_setCell_other _ _ _ _ (fun e => by injection e with e1 e2; omega)).trans sc5
  replace sc6 : (v9.setCell ⟨w8.heap.size, 1, none⟩ (.int .i64 c)).cell? ⟨w.heap.size, 6, none⟩ = some (.int .i64 la) := (World.cell?_setCell_other _ _ _ _ (fun e => by injection e with e1 e2; omega)).trans sc6
  replace sc7 : (v9.setCell ⟨w8.heap.size, 1, none⟩ (.int .i64 c)).cell? ⟨w.heap.size, 7, none⟩ = some (.int .i64 po) := (World.cell?_setCell_other _ _ _ _ (fun e => by injection e with e1 e2; omega)).trans sc7
  replace scl : w.heap.size < (v9.setCell ⟨w8.heap.size, 1, none⟩ (.int .i64 c)).heap.size := by simpa using scl
  replace pf0 : (v9.setCell ⟨w8.heap.size, 1, none⟩ (.int .i64 c)).cell? ⟨w.heap.size + 1, 0, none⟩ = some (.int .i64 f) := (World.cell?_setCell_other _ _ _ _ (fun e => by injection e with e1 e2; omega)).trans pf0
  replace pf1 : (v9.setCell ⟨w8.heap.size, 1, none⟩ (.int .i64 c)).cell? ⟨w.heap.size + 1, 1, none⟩ = some (.int .i64 g) := (World.cell?_setCell_other _ _ _ _ (fun e => by injection e with e1 e2; omega)).trans pf1
  replace pfl : w.heap.size + 1 < (v9.setCell ⟨w8.heap.size, 1, none⟩ (.int .i64 c)).heap.size := by simpa using pfl
  replace fb0 : (v9.setCell ⟨w8.heap.size, 1, none⟩ (.int .i64 c)).cell? ⟨w5.heap.size, 0, none⟩ = some (.int .i64 kd) := (World.cell?_setCell_other _ _ _ _ (fun e => by injection e with e1 e2; omega)).trans fb0
  replace fb1 : (v9.setCell ⟨w8.heap.size, 1, none⟩ (.int .i64 c)).cell? ⟨w5.heap.size, 1, none⟩ = some (.int .i64 ba) := (World.cell?_setCell_other _ _ _ _ (fun e => by injection e with e1 e2; omega)).trans fb1
  replace fb2 : (v9.setCell ⟨w8.heap.size, 1, none⟩ (.int .i64 c)).cell? ⟨w5.heap.size, 2, none⟩ = some (.int .i64 ra) := (World.cell?_setCell_other _ _ _ _ (fun e => by injection e with e1 e2; omega)).trans fb2
  replace fb3 : (v9.setCell ⟨w8.heap.size, 1, none⟩ (.int .i64 c)).cell? ⟨w5.heap.size, 3, none⟩ = some (.int .i64 en) := (World.cell?_setCell_other _ _ _ _ (fun e => by injection e with e1 e2; omega)).trans fb3
  replace fb4 : (v9.setCell ⟨w8.heap.size, 1, none⟩ (.int .i64 c)).cell? ⟨w5.heap.size, 4, none⟩ = some (.int .i64 0) := (World.cell?_setCell_other _ _ _ _ (fun e => by injection e with e1 e2; omega)).trans fb4
  replace fb5 : (v9.setCell ⟨w8.heap.size, 1, none⟩ (.int .i64 c)).cell? ⟨w5.heap.size, 5, none⟩ = some (.int .i64 ev) := (World.cell?_setCell_other _ _ _ _ (fun e => by injection e with e1 e2; omega)).trans fb5
  replace fb6 : (v9.setCell ⟨w8.heap.size, 1, none⟩ (.int .i64 c)).cell? ⟨w5.heap.size, 6, none⟩ = some (.int .i64 la) := (World.cell?_setCell_other _ _ _ _ (fun e => by injection e with e1 e2; omega)).trans fb6
  replace fb7 : (v9.setCell ⟨w8.heap.size, 1, none⟩ (.int .i64 c)).cell? ⟨w5.heap.size, 7, none⟩ = some (.int .i64 po) := (World.cell?_setCell_other _ _ _ _ (fun e => by injection e with e1 e2; omega)).trans fb7
  replace fbl : w5.heap.size < (v9.setCell ⟨w8.heap.size, 1, none⟩ (.int .i64 c)).heap.size := by simpa using fbl
  replace lb0 : (v9.setCell ⟨w8.heap.size, 1, none⟩ (.int .i64 c)).cell? ⟨w8.heap.size, 0, none⟩ = some (.int .i64 kd) := (World.cell?_setCell_other _ _ _ _ (fun e => by injection e with e1 e2; omega)).trans lb0
  replace lb1 : (v9.setCell ⟨w8.heap.size, 1, none⟩ (.int .i64 c)).cell? ⟨w8.heap.size, 1, none⟩ = some (.int .i64 c) := by simp [go_sem, lb1]
  replace lb2 : (v9.setCell ⟨w8.heap.size, 1, none⟩ (.int .i64 c)).cell? ⟨w8.heap.size, 2, none⟩ = some (.int .i64 ra) := (World.cell?_setCell_other _ _ _ _ (fun e => by injection e with e1 e2; omega)).trans lb2
  replace lb3 : (v9.setCell ⟨w8.heap.size, 1, none⟩ (.int .i64 c)).cell? ⟨w8.heap.size, 3, none⟩ = some (.int .i64 en) := (World.cell?_setCell_other _ _ _ _ (fun e => by injection e with e1 e2; omega)).trans lb3
  replace lb4 : (v9.setCell ⟨w8.heap.size, 1, none⟩ (.int .i64 c)).cell? ⟨w8.heap.size, 4, none⟩ = some (.int .i64 wa) := (World.cell?_setCell_other _ _ _ _ (fun e => by injection e with e1 e2; omega)).trans lb4
  replace lb5 : (v9.setCell ⟨w8.heap.size, 1, none⟩ (.int .i64 c)).cell? ⟨w8.heap.size, 5, none⟩ = some (.int .i64 ev) := (World.cell?_setCell_other _ _ _ _ (fun e => by injection e with e1 e2; omega)).trans lb5
  replace lb6 : (v9.setCell ⟨w8.heap.size, 1, none⟩ (.int .i64 c)).cell? ⟨w8.heap.size, 6, none⟩ = some (.int .i64 la) := (World.cell?_setCell_other _ _ _ _ (fun e => by injection e with e1 e2; omega)).trans lb6
  replace lb7 : (v9.setCell ⟨w8.heap.size, 1, none⟩ (.int .i64 c)).cell? ⟨w8.heap.size, 7, none⟩ = some (.int .i64 po) := (World.cell?_setCell_other _ _ _ _ (fun e => by injection e with e1 e2; omega)).trans lb7
  replace lbl : w8.heap.size < (v9.setCell ⟨w8.heap.size, 1, none⟩ (.int .i64 c)).heap.size := by simpa using lbl
  replace lbr0 : (v9.setCell ⟨w8.heap.size, 1, none⟩ (.int .i64 c)).frozen? ⟨w8.heap.size, 0, none⟩ = false := by simpa [go_sem] using lbr0
  replace lbr1 : (v9.setCell ⟨w8.heap.size, 1, none⟩ (.int .i64 c)).frozen? ⟨w8.heap.size, 1, none⟩ = false := by simpa [go_sem] using lbr1
  replace lbr2 : (v9.setCell ⟨w8.heap.size, 1, none⟩ (.int .i64 c)).frozen? ⟨w8.heap.size, 2, none⟩ = false := by simpa [go_sem] using lbr2
  replace lbr3 : (v9.setCell ⟨w8.heap.size, 1, none⟩ (.int .i64 c)).frozen? ⟨w8.heap.size, 3, none⟩ = false := by simpa [go_sem] using lbr3
  replace lbr4 : (v9.setCell ⟨w8.heap.size, 1, none⟩ (.int .i64 c)).frozen? ⟨w8.heap.size, 4, none⟩ = false := by simpa [go_sem] using lbr4
  replace lbr5 : (v9.setCell ⟨w8.heap.size, 1, none⟩ (.int .i64 c)).frozen? ⟨w8.heap.size, 5, none⟩ = false := by simpa [go_sem] using lbr5
  replace lbr6 : (v9.setCell ⟨w8.heap.size, 1, none⟩ (.int .i64 c)).frozen? ⟨w8.heap.size, 6, none⟩ = false := by simpa [go_sem] using lbr6
  replace lbr7 : (v9.setCell ⟨w8.heap.size, 1, none⟩ (.int .i64 c)).frozen? ⟨w8.heap.size, 7, none⟩ = false := by simpa [go_sem] using lbr7
  replace cc := cc.setCell (p := ⟨w8.heap.size, 1, none⟩) (show w.heap.size ≤ w8.heap.size by omega) (.int .i64 c)
  generalize v9.setCell ⟨w8.heap.size, 1, none⟩ (.int .i64 c) = v10 at *
  go_upto_region 11 with fail
  replace sc0 : (v10.setCell ⟨w8.heap.size, 3, none⟩ (.int .i64 0)).cell? ⟨w.heap.size, 0, none⟩ = some (.int .i64 kd) := (World.cell?_setCell_other _ _ _ _ (fun e => by injection e with e1 e2; omega)).trans sc0
  replace sc1 : (v10.setCell ⟨w8.heap.size, 3, none⟩ (.int .i64 0)).cell? ⟨w.heap.size, 1, none⟩ = some (.int .i64 ba) := (World.cell?_setCell_other _ _ _ _ (fun e => by injection e with e1 e2; omega)).trans sc1
  replace sc2 : (v10.setCell ⟨w8.heap.size, 3, none⟩ (.int .i64 0)).cell? ⟨w.heap.size, 2, none⟩ = some (.int .i64 ra) := (World.cell?_setCell_other _ _ _ _ (fun e => by injection e with e1 e2; omega)).trans sc2
  replace sc3 : (v10.setCell ⟨w8.heap.size, 3, none⟩ (.int .i64 0)).cell? ⟨w.heap.size, 3, none⟩ = some (.int .i64 en) := (World.cell?_setCell_other _ _ _ _ (fun e => by injection e with e1 e2; omega)).trans sc3
  replace sc4 : (v10.setCell ⟨w8.heap.size, 3, none⟩ (.int .i64 0)).cell? ⟨w.heap.size, 4, none⟩ = some (.int .i64 wa) := (World.cell?_setCell_other _ _ _ _ (fun e => by injection e with e1 e2; omega)).trans sc4
  replace sc5 : (v10.setCell ⟨w8.heap.size, 3, none⟩ (.int .i64 0)).cell? ⟨w.heap.size, 5, none⟩ = some (.int .i64 ev) := (World.cell?_setCell_other _ _ _ _ (fun e => by injection e with e1 e2; omega)).trans sc5
  replace sc6 : (v10.setCell ⟨w8.heap.size, 3, none⟩ (.int .i64 0)).cell? ⟨w.heap.size, 6, none⟩ = some (.int .i64 la) := (World.cell?_setCell_other _ _ _ _ (fun e => by injection e with e1 e2; omega)).trans sc6
  replace sc7 : (v10.setCell ⟨w8.heap.size, 3, none⟩ (.int .i64 0)).cell? ⟨w.heap.size, 7, none⟩ = some (.int .i64 po) := (World.cell?_setCell_other _ _ _ _ (fun e => by injection e with e1 e2; omega)).trans sc7
  replace scl : w.heap.size < (v10.setCell ⟨w8.heap.size, 3, none⟩ (.int .i64 0)).heap.size := by simpa using scl
  replace pf0 : (v10.setCell ⟨w8.heap.size, 3, none⟩ (.int .i64 0)).cell? ⟨w.heap.size + 1, 0, none⟩ = some (.int .i64 f) := (World.cell?_setCell_other _ _ _ _ (fun e => by injection e with e1 e2; omega)).trans pf0
  replace pf1 : (v10.setCell ⟨w8.heap.size, 3, none⟩ (.int .i64 0)).cell? ⟨w.heap.size + 1, 1, none⟩ = some (.int .i64 g) := (World.cell?_setCell_other _ _ _ _ (fun e => by injection e with e1 e2; omega)).trans pf1
  replace pfl : w.heap.size + 1 < (v10.setCell ⟨w8.heap.size, 3, none⟩ (.int .i64 0)).heap.size := by simpa using pfl
  replace fb0 : (v10.setCell ⟨w8.heap.size, 3, none⟩ (.int .i64 0)).cell? ⟨w5.heap.size, 0, none⟩ = some (.int .i64 kd) := (World.cell?_setCell_other _ _ _ _ (fun e => by injection e with e1 e2; omega)).trans fb0
  replace fb1 : (v10.setCell ⟨w8.heap.size, 3, none⟩ (.int .i64 0)).cell? ⟨w5.heap.size, 1, none⟩ = some (.int .i64 ba) := (World.cell?_setCell_other _ _ _ _ (fun e => by injection e with e1 e2; omega)).trans fb1
  replace fb2 : (v10.setCell ⟨w8.heap.size, 3, none⟩ (.int .i64 0)).cell? ⟨w5.heap.size, 2, none⟩ = some (.int .i64 ra) := (World.cell?_setCell_other _ _ _ _ (fun e => by injection e with e1 e2; omega)).trans fb2
  replace fb3 : (v10.setCell ⟨w8.heap.size, 3, none⟩ (.int .i64 0)).cell? ⟨w5.heap.size, 3, none⟩ = some (.int .i64 en) := (World.cell?_setCell_other _ _ _ _ (fun e => by injection e with e1 e2; omega)).trans fb3
  replace fb4 : (v10.setCell ⟨w8.heap.size, 3, none⟩ (.int .i64 0)).cell? ⟨w5.heap.size, 4, none⟩ = some (.int .i64 0) := (World.cell?_setCell_other _ _ _ _ (fun e => by injection e with e1 e2; omega)).trans fb4
  replace fb5 : (v10.setCell ⟨w8.heap.size, 3, none⟩ (.int .i64 0)).cell? ⟨w5.heap.size, 5, none⟩ = some (.int .i64 ev) := (World.cell?_setCell_other _ _ _ _ (fun e => by injection e with e1 e2; omega)).trans fb5
  replace fb6 : (v10.setCell ⟨w8.heap.size, 3, none⟩ (.int .i64 0)).cell? ⟨w5.heap.size, 6, none⟩ = some (.int .i64 la) := (World.cell?_setCell_other _ _ _ _ (fun e => by injection e with e1 e2; omega)).trans fb6
  replace fb7 : (v10.setCell ⟨w8.heap.size, 3, none⟩ (.int .i64 0)).cell? ⟨w5.heap.size, 7, none⟩ = some (.int .i64 po) := (World.cell?_setCell_other _ _ _ _ (fun e => by injection e with e1 e2; omega)).trans fb7
  replace fbl : w5.heap.size < (v10.setCell ⟨w8.heap.size, 3, none⟩ (.int .i64 0)).heap.size := by simpa using fbl
  replace lb0 : (v10.setCell ⟨w8.heap.size, 3, none⟩ (.int .i64 0)).cell? ⟨w8.heap.size, 0, none⟩ = some (.int .i64 kd) := (World.cell?_setCell_other _ _ _ _ (fun e => by injection e with e1 e2; omega)).trans lb0
  replace lb1 : (v10.setCell ⟨w8.heap.size, 3, none⟩ (.int .i64 0)).cell? ⟨w8.heap.size, 1, none⟩ = some (.int .i64 c) := (World.cell?_setCell_other _ _ _ _ (fun e => by injection e with e1 e2; omega)).trans lb1
  replace lb2 : (v10.setCell ⟨w8.heap.size, 3, none⟩ (.int .i64 0)).cell? ⟨w8.heap.size, 2, none⟩ = some (.int .i64 ra) := (World.cell?_setCell_other _ _ _ _ (fun e => by injection e with e1 e2; omega)).trans lb2
  replace lb3 : (v10.setCell ⟨w8.heap.size, 3, none⟩ (.int .i64 0)).cell? ⟨w8.heap.size, 3, none⟩ = some (.int .i64 0) := by simp [go_sem, lb3]
  replace lb4 : (v10.setCell ⟨w8.heap.size, 3, none⟩ (.int .i64 0)).cell? ⟨w8.heap.size, 4, none⟩ = some (.int .i64 wa) := (World.cell?_setCell_other _ _ _ _ (fun e => by injection e with e1 e2; omega)).trans lb4
  replace lb5 : (v10.setCell ⟨w8.heap.size, 3, none⟩ (.int .i64 0)).cell? ⟨w8.heap.size, 5, none⟩ = some (.int .i64 ev) := (World.cell?_setCell_other _ _ _ _ (fun e => by injection e with e1 e2; omega)).trans lb5
  replace lb6 : (v10.setCell ⟨w8.heap.size, 3, none⟩ (.int .i64 0)).cell? ⟨w8.heap.size, 6, none⟩ = some (.int .i64 la) := (World.cell?_setCell_other _ _ _ _ (fun e => by injection e with e1 e2; omega)).trans lb6
  replace lb7 : (v10.setCell ⟨w8.heap.size, 3, none⟩ (.int .i64 0)).cell? ⟨w8.heap.size, 7, none⟩ = some (.int .i64 po) := (World.cell?_setCell_other _ _ _ _ (fun e => by injection e with e1 e2; omega)).trans lb7
  replace lbl : w8.heap.size < (v10.setCell ⟨w8.heap.size, 3, none⟩ (.int .i64 0)).heap.size := by simpa using lbl
  replace lbr0 : (v10.setCell ⟨w8.heap.size, 3, none⟩ (.int .i64 0)).frozen? ⟨w8.heap.size, 0, none⟩ = false := by simpa [go_sem] using lbr0
  replace lbr1 : (v10.setCell ⟨w8.heap.size, 3, none⟩ (.int .i64 0)).frozen? ⟨w8.heap.size, 1, none⟩ = false := by simpa [go_sem] using lbr1
  replace lbr2 : (v10.setCell ⟨w8.heap.size, 3, none⟩ (.int .i64 0)).frozen? ⟨w8.heap.size, 2, none⟩ = false := by simpa [go_sem] using lbr2
  replace lbr3 : (v10.setCell ⟨w8.heap.size, 3, none⟩ (.int .i64 0)).frozen? ⟨w8.heap.size, 3, none⟩ = false := by simpa [go_sem] using lbr3
  replace lbr4 : (v10.setCell ⟨w8.heap.size, 3, none⟩ (.int .i64 0)).frozen? ⟨w8.heap.size, 4, none⟩ = false := by simpa [go_sem] using lbr4
  replace lbr5 : (v10.setCell ⟨w8.heap.size, 3, none⟩ (.int .i64 0)).frozen? ⟨w8.heap.size, 5, none⟩ = false := by simpa [go_sem] using lbr5
  replace lbr6 : (v10.setCell ⟨w8.heap.size, 3, none⟩ (.int .i64 0)).frozen? ⟨w8.heap.size, 6, none⟩ = false := by simpa [go_sem] using lbr6
  replace lbr7 : (v10.setCell ⟨w8.heap.size, 3, none⟩ (.int .i64 0)).frozen? ⟨w8.heap.size, 7, none⟩ = false := by simpa [go_sem] using lbr7
  replace cc := cc.setCell (p := ⟨w8.heap.size, 3, none⟩) (show w.heap.size ≤ w8.heap.size by omega) (.int .i64 0)
  generalize v10.setCell ⟨w8.heap.size, 3, none⟩ (.int .i64 0) = v11 at *
  go_wp2_with fail
  refine (CL _).mono ?_
  rintro e w12 ⟨rfl, b⟩
  rewrite [fR b lbl] at lbr0 lbr1 lbr2 lbr3 lbr4 lbr5 lbr6 lbr7
  rewrite [cR b scl] at sc0 sc1 sc2 sc3 sc4 sc5 sc6 sc7
  replace scl := lK b scl
  rewrite [cR b pfl] at pf0 pf1
  replace pfl := lK b pfl
  rewrite [cR b fbl] at fb0 fb1 fb2 fb3 fb4 fb5 fb6 fb7
  replace fbl := lK b fbl
  rewrite [cR b lbl] at lb0 lb1 lb2 lb3 lb4 lb5 lb6 lb7
  replace lbl := lK b lbl
  replace cc := bK cc b
  clear b
  go_wp2_with fail
  refine (alive15_any _).mono ?_
  rintro e w13 ⟨rfl, b⟩
  rewrite [fR b lbl] at lbr0 lbr1 lbr2 lbr3 lbr4 lbr5 lbr6 lbr7
  rewrite [cR b scl] at sc0 sc1 sc2 sc3 sc4 sc5 sc6 sc7
  replace scl := lK b scl
  rewrite [cR b pfl] at pf0 pf1
  replace pfl := lK b pfl
  rewrite [cR b fbl] at fb0 fb1 fb2 fb3 fb4 fb5 fb6 fb7
  replace fbl := lK b fbl
  rewrite [cR b lbl] at lb0 lb1 lb2 lb3 lb4 lb5 lb6 lb7
  replace lbl := lK b lbl
  replace cc := bK cc b
  clear b
  go_wp2_with fail
  go_ret
  exact ⟨rfl, cc⟩

theorem SchedAny_k {w : World} {kd ba ra en wa ev la po t f g : Int} (hR0 : OkR f kd ba ra en wa ev la po) (hR1 : OkR g kd ba ra en wa ev la po) (h0 : ¬ kd = 2) (h1 : ¬ t < 1) (h2 : ¬ 1000000 < t) (hk : kd ≠ 3) (hI : I64 kd ∧ I64 ba ∧ I64 ra ∧ I64 en ∧ I64 wa ∧ I64 ev ∧ I64 la ∧ I64 po ∧ I64 t ∧ I64 f) (hIg : I64 g) :
    Calls Try.prog 7 #[.agg #[.int .i64 kd, .int .i64 ba, .int .i64 ra, .int .i64 en, .int .i64 wa, .int .i64 ev, .int .i64 la, .int .i64 po], .int .i64 t, .agg #[.int .i64 f, .int .i64 g]] w fun e w' => e = .returned (.bool true) ∧ Below w.heap.size w w' := by
  have CR0 : ∀ W : World, Calls Try.prog 8 #[.agg #[.int .i64 kd, .int .i64 ba, .int .i64 ra, .int .i64 en, .int .i64 wa, .int .i64 ev, .int .i64 la, .int .i64 po], .int .i64 f] W (GotV W (.bool true)) := fun W => by have h := rRight15_N (w := W) (f := f) (kd := kd) (ba := ba) (ra := ra) (en := en) (wa := wa) (ev := ev) (la := la) (po := po); rw [decide_eq_true hR0] at h; exact h
  have CR1 : ∀ W : World, Calls Try.prog 8 #[.agg #[.int .i64 kd, .int .i64 ba, .int .i64 ra, .int .i64 en, .int .i64 wa, .int .i64 ev, .int .i64 la, .int .i64 po], .int .i64 g] W (GotV W (.bool true)) := fun W => by have h := rRight15_N (w := W) (f := g) (kd := kd) (ba := ba) (ra := ra) (en := en) (wa := wa) (ev := ev) (la := la) (po := po); rw [decide_eq_true hR1] at h; exact h
  have t0 : ((kd : Int) == 2) = false := beq_eq_false_iff_ne.2 h0
  have t0n : ((kd : Int) != 2) = true := by simp; omega
  have t1 : decide (t < 1) = false := decide_eq_false h1
  have t2 : decide (1000000 < t) = false := decide_eq_false h2
  obtain ⟨i_kd, i_ba, i_ra, i_en, i_wa, i_ev, i_la, i_po, i_t, i_f⟩ := id hI
  have b0 := hR0.2.2.1
  have q1 : kd ≠ 2 := h0
  have hk3 := hR0.2.1
  have s3 : ((kd : Int) == 3) = false := beq_eq_false_iff_ne.2 (by omega)
  obtain ⟨c, ec⟩ : ∃ c, ba / 2 = c := ⟨_, rfl⟩
  have c0 : 0 ≤ c ∧ c ≤ ba := by omega
  obtain ⟨x, e_x⟩ : ∃ x, rt15 f kd ba ra en wa ev la po t = x := ⟨_, rfl⟩
  have e_y : rt15 g kd ba ra en wa ev la po t = x := by rw [rt_any (f := f) q1]; exact e_x
  obtain ⟨z, e_z⟩ : ∃ z, rt15 f kd ba ra en 0 ev la po 1 = z := ⟨_, rfl⟩
  obtain ⟨l, e_l⟩ : ∃ z, rt15 f kd c ra 0 wa ev la po t = z := ⟨_, rfl⟩
  have CX : ∀ W : World, Calls Try.prog 10 #[.agg #[.int .i64 kd, .int .i64 ba, .int .i64 ra, .int .i64 en, .int .i64 wa, .int .i64 ev, .int .i64 la, .int .i64 po], .int .i64 t, .int .i64 f] W (GotV W (.tuple #[.int .i64 x, .int .i64 0])) := fun W => by
    have h := sRate_N W (kd := kd) (ba := ba) (ra := ra) (en := en) (wa := wa) (ev := ev) (la := la) (po := po) (t := t) (f := f) (by first | exact ⟨i_kd, i_ba, i_ra, i_en, i_wa, i_ev, i_la, i_po, i_t, i_f⟩ | (unfold I64 at *; omega))
    rw [(rVE hR0 (by omega) (by omega)).1, (rVE hR0 (by omega) (by omega)).2, e_x] at h
    exact h
  have CY : ∀ W : World, Calls Try.prog 10 #[.agg #[.int .i64 kd, .int .i64 ba, .int .i64 ra, .int .i64 en, .int .i64 wa, .int .i64 ev, .int .i64 la, .int .i64 po], .int .i64 t, .int .i64 g] W (GotV W (.tuple #[.int .i64 x, .int .i64 0])) := fun W => by
    have h := sRate_N W (kd := kd) (ba := ba) (ra := ra) (en := en) (wa := wa) (ev := ev) (la := la) (po := po) (t := t) (f := g) (by first | exact ⟨i_kd, i_ba, i_ra, i_en, i_wa, i_ev, i_la, i_po, i_t, i_f⟩ | (unfold I64 at *; omega))
    rw [(rVE hR1 (by omega) (by omega)).1, (rVE hR1 (by omega) (by omega)).2, e_y] at h
    exact h
  have CZ : ∀ W : World, Calls Try.prog 10 #[.agg #[.int .i64 kd, .int .i64 ba, .int .i64 ra, .int .i64 en, .int .i64 0, .int .i64 ev, .int .i64 la, .int .i64 po], .int .i64 1, .int .i64 f] W (GotV W (.tuple #[.int .i64 z, .int .i64 0])) := fun W => by
    have h := sRate_N W (kd := kd) (ba := ba) (ra := ra) (en := en) (wa := 0) (ev := ev) (la := la) (po := po) (t := 1) (f := f) (by first | exact ⟨i_kd, i_ba, i_ra, i_en, i_wa, i_ev, i_la, i_po, i_t, i_f⟩ | (unfold I64 at *; omega))
    rw [(rVE (okR_first hR0) (by omega) (by omega)).1, (rVE (okR_first hR0) (by omega) (by omega)).2, e_z] at h
    exact h
  have CL : ∀ W : World, Calls Try.prog 10 #[.agg #[.int .i64 kd, .int .i64 c, .int .i64 ra, .int .i64 0, .int .i64 wa, .int .i64 ev, .int .i64 la, .int .i64 po], .int .i64 t, .int .i64 f] W (GotV W (.tuple #[.int .i64 l, .int .i64 0])) := fun W => by
    have h := sRate_N W (kd := kd) (ba := c) (ra := ra) (en := 0) (wa := wa) (ev := ev) (la := la) (po := po) (t := t) (f := f) (by first | exact ⟨i_kd, i_ba, i_ra, i_en, i_wa, i_ev, i_la, i_po, i_t, i_f⟩ | (unfold I64 at *; omega))
    rw [(rVE (okR_less hR0 c0.1) (by omega) (by omega)).1, (rVE (okR_less hR0 c0.1) (by omega) (by omega)).2, e_l] at h
    exact h
  have r1 : (z == ba) = true := beq_iff_eq.2 (by rw [← e_z]; exact rt_first hR0 (by omega))
  have r2 : decide (l ≤ x) = true := decide_eq_true (by rw [← e_l, ← e_x]; exact rt_less hR0 (by omega) (by omega) c0.1 c0.2)
  have xx : (x == x) = true := beq_self_eq_true _
  have d3 : Int.tdiv ba 2 = c := by rw [Int.tdiv_eq_ediv_of_nonneg b0]; exact ec
  have d4 : IntKind.i64.wrap c = c := IntWalk.i64_in _ (by unfold I64 at i_ba; omega)
  have d6 : IntKind.i64.wrap (ba / 2) = c := by rw [ec]; exact d4
  have d7 : IntKind.i64.wrap (Int.tdiv ba 2) = c := by rw [d3]; exact d4
  clear hR0 hR1 h0 h1 h2 b0 q1 hk3 ec c0 e_x e_y e_z e_l hI hIg hk i_kd i_ba i_ra i_en i_wa i_ev i_la i_po i_t i_f
  have cc := Below.refl w.heap.size w
  go_enter Try.func7, Try.ntmps7
  go_wp2_with fail
  generalize hv_ : (w.alloc (.cells #[.int .i64 kd, .int .i64 ba, .int .i64 ra, .int .i64 en, .int .i64 wa, .int .i64 ev, .int .i64 la, .int .i64 po] 23)).alloc (.cells #[.int .i64 f, .int .i64 g] 24) = v1
  have bA : Below w.heap.size w v1 := by rw [← hv_]; exact (((Below.refl _ w).alloc (by simp) _).alloc (by simp) _)
  replace cc := bK cc bA
  clear bA
  have sc0 : v1.cell? ⟨w.heap.size, 0, none⟩ = some (.int .i64 kd) := by simp [← hv_, go_sem]
  have sc1 : v1.cell? ⟨w.heap.size, 1, none⟩ = some (.int .i64 ba) := by simp [← hv_, go_sem]
  have sc2 : v1.cell? ⟨w.heap.size, 2, none⟩ = some (.int .i64 ra) := by simp [← hv_, go_sem]
  have sc3 : v1.cell? ⟨w.heap.size, 3, none⟩ = some (.int .i64 en) := by simp [← hv_, go_sem]
  have sc4 : v1.cell? ⟨w.heap.size, 4, none⟩ = some (.int .i64 wa) := by simp [← hv_, go_sem]
  have sc5 : v1.cell? ⟨w.heap.size, 5, none⟩ = some (.int .i64 ev) := by simp [← hv_, go_sem]
  have sc6 : v1.cell? ⟨w.heap.size, 6, none⟩ = some (.int .i64 la) := by simp [← hv_, go_sem]
  have sc7 : v1.cell? ⟨w.heap.size, 7, none⟩ = some (.int .i64 po) := by simp [← hv_, go_sem]
  have scl : w.heap.size < v1.heap.size := by simp [← hv_] <;> omega
  obtain ⟨pf0, pf1⟩ : Cs2 v1 (w.heap.size + 1) (.int .i64 f) (.int .i64 g) := by simp [Cs2, ← hv_, go_sem]
  have pfl : w.heap.size + 1 < v1.heap.size := by simp [← hv_] <;> omega
  clear hv_
  go_wp2_with fail
  refine (CR0 _).mono ?_
  rintro e w2 ⟨rfl, b⟩
  rewrite [cR b scl] at sc0 sc1 sc2 sc3 sc4 sc5 sc6 sc7
  replace scl := lK b scl
  rewrite [cR b pfl] at pf0 pf1
  replace pfl := lK b pfl
  replace cc := bK cc b
  clear b
  go_wp2_with fail
  refine (CR1 _).mono ?_
  rintro e w3 ⟨rfl, b⟩
  rewrite [cR b scl] at sc0 sc1 sc2 sc3 sc4 sc5 sc6 sc7
  replace scl := lK b scl
  rewrite [cR b pfl] at pf0 pf1
  replace pfl := lK b pfl
  replace cc := bK cc b
  clear b
  go_wp2_with fail
  refine (CX _).mono ?_
  rintro e w4 ⟨rfl, b⟩
  rewrite [cR b scl] at sc0 sc1 sc2 sc3 sc4 sc5 sc6 sc7
  replace scl := lK b scl
  rewrite [cR b pfl] at pf0 pf1
  replace pfl := lK b pfl
  replace cc := bK cc b
  clear b
  go_wp2_with fail
  refine (CY _).mono ?_
  rintro e w5 ⟨rfl, b⟩
  rewrite [cR b scl] at sc0 sc1 sc2 sc3 sc4 sc5 sc6 sc7
  replace scl := lK b scl
  rewrite [cR b pfl] at pf0 pf1
  replace pfl := lK b pfl
  replace cc := bK cc b
  clear b
  go_upto_region 6 with fail
  have fbqsc : w.heap.size < w5.heap.size := scl
  have fbqpf : w.heap.size + 1 < w5.heap.size := pfl
  generalize hv_ : w5.alloc (.cells #[.int .i64 kd, .int .i64 ba, .int .i64 ra, .int .i64 en, .int .i64 wa, .int .i64 ev, .int .i64 la, .int .i64 po] 23) = v6
  have bA : Below w5.heap.size w5 v6 := by rw [← hv_]; exact below_one _ _
  rewrite [cR bA scl] at sc0 sc1 sc2 sc3 sc4 sc5 sc6 sc7
  replace scl := lK bA scl
  rewrite [cR bA pfl] at pf0 pf1
  replace pfl := lK bA pfl
  replace cc := bK cc bA
  clear bA
  have fb0 : v6.cell? ⟨w5.heap.size, 0, none⟩ = some (.int .i64 kd) := by simp [← hv_, go_sem]
  have fb1 : v6.cell? ⟨w5.heap.size, 1, none⟩ = some (.int .i64 ba) := by simp [← hv_, go_sem]
  have fb2 : v6.cell? ⟨w5.heap.size, 2, none⟩ = some (.int .i64 ra) := by simp [← hv_, go_sem]
  have fb3 : v6.cell? ⟨w5.heap.size, 3, none⟩ = some (.int .i64 en) := by simp [← hv_, go_sem]
  have fb4 : v6.cell? ⟨w5.heap.size, 4, none⟩ = some (.int .i64 wa) := by simp [← hv_, go_sem]
  have fb5 : v6.cell? ⟨w5.heap.size, 5, none⟩ = some (.int .i64 ev) := by simp [← hv_, go_sem]
  have fb6 : v6.cell? ⟨w5.heap.size, 6, none⟩ = some (.int .i64 la) := by simp [← hv_, go_sem]
  have fb7 : v6.cell? ⟨w5.heap.size, 7, none⟩ = some (.int .i64 po) := by simp [← hv_, go_sem]
  have fbr0 : v6.frozen? ⟨w5.heap.size, 0, none⟩ = false := by simp [← hv_, go_sem]
  have fbr1 : v6.frozen? ⟨w5.heap.size, 1, none⟩ = false := by simp [← hv_, go_sem]
  have fbr2 : v6.frozen? ⟨w5.heap.size, 2, none⟩ = false := by simp [← hv_, go_sem]
  have fbr3 : v6.frozen? ⟨w5.heap.size, 3, none⟩ = false := by simp [← hv_, go_sem]
  have fbr4 : v6.frozen? ⟨w5.heap.size, 4, none⟩ = false := by simp [← hv_, go_sem]
  have fbr5 : v6.frozen? ⟨w5.heap.size, 5, none⟩ = false := by simp [← hv_, go_sem]
  have fbr6 : v6.frozen? ⟨w5.heap.size, 6, none⟩ = false := by simp [← hv_, go_sem]
  have fbr7 : v6.frozen? ⟨w5.heap.size, 7, none⟩ = false := by simp [← hv_, go_sem]
  have fbl : w5.heap.size < v6.heap.size := by simp [← hv_]
  clear hv_
  go_upto_region 7 with fail
  replace sc0 : (v6.setCell ⟨w5.heap.size, 4, none⟩ (.int .i64 0)).cell? ⟨w.heap.size, 0, none⟩ = some (.int .i64 kd) := (World.cell?_setCell_other _ _ _ _ (fun e => by injection e with e1 e2; omega)).trans sc0
  replace sc1 : (v6.setCell ⟨w5.heap.size, 4, none⟩ (.int .i64 0)).cell? ⟨w.heap.size, 1, none⟩ = some (.int .i64 ba) := (World.cell?_setCell_other _ _ _ _ (fun e => by injection e with e1 e2; omega)).trans sc1
  replace sc2 : (v6.setCell ⟨w5.heap.size, 4, none⟩ (.int .i64 0)).cell? ⟨w.heap.size, 2, none⟩ = some (.int .i64 ra) := (World.cell?_setCell_other _ _ _ _ (fun e => by injection e with e1 e2; omega)).trans sc2
  replace sc3 : (v6.setCell ⟨w5.heap.size, 4, none⟩ (.int .i64 0)).cell? ⟨w.heap.size, 3, none⟩ = some (.int .i64 en) := (World.cell?_setCell_other _ _ _ _ (fun e => by injection e with e1 e2; omega)).trans sc3
  replace sc4 : (v6.setCell ⟨w5.heap.size, 4, none⟩ (.int .i64 0)).cell? ⟨w.heap.size, 4, none⟩ = some (.int .i64 wa) := (World.cell?_setCell_other _ _ _ _ (fun e => by injection e with e1 e2; omega)).trans sc4
  replace sc5 : (v6.setCell ⟨w5.heap.size, 4, none⟩ (.int .i64 0)).cell? ⟨w.heap.size, 5, none⟩ = some (.int .i64 ev) := (World.cell?_setCell_other _ _ _ _ (fun e => by injection e with e1 e2; omega)).trans sc5
  replace sc6 : (v6.setCell ⟨w5.heap.size, 4, none⟩ (.int .i64 0)).cell? ⟨w.heap.size, 6, none⟩ = some (.int .i64 la) := (World.cell?_setCell_other _ _ _ _ (fun e => by injection e with e1 e2; omega)).trans sc6
  replace sc7 : (v6.setCell ⟨w5.heap.size, 4, none⟩ (.int .i64 0)).cell? ⟨w.heap.size, 7, none⟩ = some (.int .i64 po) := (World.cell?_setCell_other _ _ _ _ (fun e => by injection e with e1 e2; omega)).trans sc7
  replace scl : w.heap.size < (v6.setCell ⟨w5.heap.size, 4, none⟩ (.int .i64 0)).heap.size := by simpa using scl
  replace pf0 : (v6.setCell ⟨w5.heap.size, 4, none⟩ (.int .i64 0)).cell? ⟨w.heap.size + 1, 0, none⟩ = some (.int .i64 f) := (World.cell?_setCell_other _ _ _ _ (fun e => by injection e with e1 e2; omega)).trans pf0
  replace pf1 : (v6.setCell ⟨w5.heap.size, 4, none⟩ (.int .i64 0)).cell? ⟨w.heap.size + 1, 1, none⟩ = some (.int .i64 g) := (World.cell?_setCell_other _ _ _ _ (fun e => by injection e with e1 e2; omega)).trans pf1
  replace pfl : w.heap.size + 1 < (v6.setCell ⟨w5.heap.size, 4, none⟩ (.int .i64 0)).heap.size := by simpa using pfl
  replace fb0 : (v6.setCell ⟨w5.heap.size, 4, none⟩ (.int .i64 0)).cell? ⟨w5.heap.size, 0, none⟩ = some (.int .i64 kd) := (World.cell?_setCell_other _ _ _ _ (fun e => by injection e with e1 e2; omega)).trans fb0
  replace fb1 : (v6.setCell ⟨w5.heap.size, 4, none⟩ (.int .i64 0)).cell? ⟨w5.heap.size, 1, none⟩ = some (.int .i64 ba) := (World.cell?_setCell_other _ _ _ _ (fun e => by injection e with e1 e2; omega)).trans fb1
  replace fb2 : (v6.setCell ⟨w5.heap.size, 4, none⟩ (.int .i64 0)).cell? ⟨w5.heap.size, 2, none⟩ = some (.int .i64 ra) := (World.cell?_setCell_other _ _ _ _ (fun e => by injection e with e1 e2; omega)).trans fb2
  replace fb3 : (v6.setCell ⟨w5.heap.size, 4, none⟩ (.int .i64 0)).cell? ⟨w5.heap.size, 3, none⟩ = some (.int .i64 en) := (World.cell?_setCell_other _ _ _ _ (fun e => by injection e with e1 e2; omega)).trans fb3
  replace fb4 : (v6.setCell ⟨w5.heap.size, 4, none⟩ (.int .i64 0)).cell? ⟨w5.heap.size, 4, none⟩ = some (.int .i64 0) := by simp [go_sem, fb4]
  replace fb5 : (v6.setCell ⟨w5.heap.size, 4, none⟩ (.int .i64 0)).cell? ⟨w5.heap.size, 5, none⟩ = some (.int .i64 ev) := (World.cell?_setCell_other _ _ _ _ (fun e => by injection e with e1 e2; omega)).trans fb5
  replace fb6 : (v6.setCell ⟨w5.heap.size, 4, none⟩ (.int .i64 0)).cell? ⟨w5.heap.size, 6, none⟩ = some (.int .i64 la) := (World.cell?_setCell_other _ _ _ _ (fun e => by injection e with e1 e2; omega)).trans fb6
  replace fb7 : (v6.setCell ⟨w5.heap.size, 4, none⟩ (.int .i64 0)).cell? ⟨w5.heap.size, 7, none⟩ = some (.int .i64 po) := (World.cell?_setCell_other _ _ _ _ (fun e => by injection e with e1 e2; omega)).trans fb7
  replace fbl : w5.heap.size < (v6.setCell ⟨w5.heap.size, 4, none⟩ (.int .i64 0)).heap.size := by simpa using fbl
  replace fbr0 : (v6.setCell ⟨w5.heap.size, 4, none⟩ (.int .i64 0)).frozen? ⟨w5.heap.size, 0, none⟩ = false := by simpa [go_sem] using fbr0
  replace fbr1 : (v6.setCell ⟨w5.heap.size, 4, none⟩ (.int .i64 0)).frozen? ⟨w5.heap.size, 1, none⟩ = false := by simpa [go_sem] using fbr1
  replace fbr2 : (v6.setCell ⟨w5.heap.size, 4, none⟩ (.int .i64 0)).frozen? ⟨w5.heap.size, 2, none⟩ = false := by simpa [go_sem] using fbr2
  replace fbr3 : (v6.setCell ⟨w5.heap.size, 4, none⟩ (.int .i64 0)).frozen? ⟨w5.heap.size, 3, none⟩ = false := by simpa [go_sem] using fbr3
  replace fbr4 : (v6.setCell ⟨w5.heap.size, 4, none⟩ (.int .i64 0)).frozen? ⟨w5.heap.size, 4, none⟩ = false := by simpa [go_sem] using fbr4
  replace fbr5 : (v6.setCell ⟨w5.heap.size, 4, none⟩ (.int .i64 0)).frozen? ⟨w5.heap.size, 5, none⟩ = false := by simpa [go_sem] using fbr5
  replace fbr6 : (v6.setCell ⟨w5.heap.size, 4, none⟩ (.int .i64 0)).frozen? ⟨w5.heap.size, 6, none⟩ = false := by simpa [go_sem] using fbr6
  replace fbr7 : (v6.setCell ⟨w5.heap.size, 4, none⟩ (.int .i64 0)).frozen? ⟨w5.heap.size, 7, none⟩ = false := by simpa [go_sem] using fbr7
  replace cc := cc.setCell (p := ⟨w5.heap.size, 4, none⟩) (show w.heap.size ≤ w5.heap.size by omega) (.int .i64 0)
  generalize v6.setCell ⟨w5.heap.size, 4, none⟩ (.int .i64 0) = v7 at *
  go_wp2_with fail
  refine (CZ _).mono ?_
  rintro e w8 ⟨rfl, b⟩
  rewrite [fR b fbl] at fbr0 fbr1 fbr2 fbr3 fbr4 fbr5 fbr6 fbr7
  rewrite [cR b scl] at sc0 sc1 sc2 sc3 sc4 sc5 sc6 sc7
  replace scl := lK b scl
  rewrite [cR b pfl] at pf0 pf1
  replace pfl := lK b pfl
  rewrite [cR b fbl] at fb0 fb1 fb2 fb3 fb4 fb5 fb6 fb7
  replace fbl := lK b fbl
  replace cc := bK cc b
  clear b
  clear fbr0 fbr1 fbr2 fbr3 fbr4 fbr5 fbr6 fbr7
  go_upto_region 9 with fail
  have lbqsc : w.heap.size < w8.heap.size := scl
  have lbqpf : w.heap.size + 1 < w8.heap.size := pfl
  have lbqfb : w5.heap.size < w8.heap.size := fbl
  generalize hv_ : w8.alloc (.cells #[.int .i64 kd, .int .i64 ba, .int .i64 ra, .int .i64 en, .int .i64 wa, .int .i64 ev, .int .i64 la, .int .i64 po] 23) = v9
  have bA : Below w8.heap.size w8 v9 := by rw [← hv_]; exact below_one _ _
  rewrite [cR bA scl] at sc0 sc1 sc2 sc3 sc4 sc5 sc6 sc7
  replace scl := lK bA scl
  rewrite [cR bA pfl] at pf0 pf1
  replace pfl := lK bA pfl
  rewrite [cR bA fbl] at fb0 fb1 fb2 fb3 fb4 fb5 fb6 fb7
  replace fbl := lK bA fbl
  replace cc := bK cc bA
  clear bA
  have lb0 : v9.cell? ⟨w8.heap.size, 0, none⟩ = some (.int .i64 kd) := by simp [← hv_, go_sem]
  have lb1 : v9.cell? ⟨w8.heap.size, 1, none⟩ = some (.int .i64 ba) := by simp [← hv_, go_sem]
  have lb2 : v9.cell? ⟨w8.heap.size, 2, none⟩ = some (.int .i64 ra) := by simp [← hv_, go_sem]
  have lb3 : v9.cell? ⟨w8.heap.size, 3, none⟩ = some (.int .i64 en) := by simp [← hv_, go_sem]
  have lb4 : v9.cell? ⟨w8.heap.size, 4, none⟩ = some (.int .i64 wa) := by simp [← hv_, go_sem]
  have lb5 : v9.cell? ⟨w8.heap.size, 5, none⟩ = some (.int .i64 ev) := by simp [← hv_, go_sem]
  have lb6 : v9.cell? ⟨w8.heap.size, 6, none⟩ = some (.int .i64 la) := by simp [← hv_, go_sem]
  have lb7 : v9.cell? ⟨w8.heap.size, 7, none⟩ = some (.int .i64 po) := by simp [← hv_, go_sem]
  have lbr0 : v9.frozen? ⟨w8.heap.size, 0, none⟩ = false := by simp [← hv_, go_sem]
  have lbr1 : v9.frozen? ⟨w8.heap.size, 1, none⟩ = false := by simp [← hv_, go_sem]
  have lbr2 : v9.frozen? ⟨w8.heap.size, 2, none⟩ = false := by simp [← hv_, go_sem]
  have lbr3 : v9.frozen? ⟨w8.heap.size, 3, none⟩ = false := by simp [← hv_, go_sem]
  have lbr4 : v9.frozen? ⟨w8.heap.size, 4, none⟩ = false := by simp [← hv_, go_sem]
  have lbr5 : v9.frozen? ⟨w8.heap.size, 5, none⟩ = false := by simp [← hv_, go_sem]
  have lbr6 : v9.frozen? ⟨w8.heap.size, 6, none⟩ = false := by simp [← hv_, go_sem]
  have lbr7 : v9.frozen? ⟨w8.heap.size, 7, none⟩ = false := by simp [← hv_, go_sem]
  have lbl : w8.heap.size < v9.heap.size := by simp [← hv_]
  clear hv_
  go_upto_region 10 with fail
  replace sc0 : (v9.setCell ⟨w8.heap.size, 1, none⟩ (.int .i64 c)).cell? ⟨w.heap.size, 0, none⟩ = some (.int .i64 kd) := (World.cell?_setCell_other _ _ _ _ (fun e => by injection e with e1 e2; omega)).trans sc0
  replace sc1 : (v9.setCell ⟨w8.heap.size, 1, none⟩ (.int .i64 c)).cell? ⟨w.heap.size, 1, none⟩ = some (.int .i64 ba) := (World.cell?_setCell_other _ _ _ _ (fun e => by injection e with e1 e2; omega)).trans sc1
  replace sc2 : (v9.setCell ⟨w8.heap.size, 1, none⟩ (.int .i64 c)).cell? ⟨w.heap.size, 2, none⟩ = some (.int .i64 ra) := (World.cell?_setCell_other _ _ _ _ (fun e => by injection e with e1 e2; omega)).trans sc2
  replace sc3 : (v9.setCell ⟨w8.heap.size, 1, none⟩ (.int .i64 c)).cell? ⟨w.heap.size, 3, none⟩ = some (.int .i64 en) := (World.cell?_setCell_other _ _ _ _ (fun e => by injection e with e1 e2; omega)).trans sc3
  replace sc4 : (v9.setCell ⟨w8.heap.size, 1, none⟩ (.int .i64 c)).cell? ⟨w.heap.size, 4, none⟩ = some (.int .i64 wa) := (World.cell?_setCell_other _ _ _ _ (fun e => by injection e with e1 e2; omega)).trans sc4
  replace sc5 : (v9.setCell ⟨w8.heap.size, 1, none⟩ (.int .i64 c)).cell? ⟨w.heap.size, 5, none⟩ = some (.int .i64 ev) := (World.cell?_setCell_other _ _ _ _ (fun e => by injection e with e1 e2; omega)).trans sc5
  replace sc6 : (v9.setCell ⟨w8.heap.size, 1, none⟩ (.int .i64 c)).cell? ⟨w.heap.size, 6, none⟩ = some (.int .i64 la) := (World.cell?_setCell_other _ _ _ _ (fun e => by injection e with e1 e2; omega)).trans sc6
  replace sc7 : (v9.setCell ⟨w8.heap.size, 1, none⟩ (.int .i64 c)).cell? ⟨w.heap.size, 7, none⟩ = some (.int .i64 po) := (World.cell?_setCell_other _ _ _ _ (fun e => by injection e with e1 e2; omega)).trans sc7
  replace scl : w.heap.size < (v9.setCell ⟨w8.heap.size, 1, none⟩ (.int .i64 c)).heap.size := by simpa using scl
  replace pf0 : (v9.setCell ⟨w8.heap.size, 1, none⟩ (.int .i64 c)).cell? ⟨w.heap.size + 1, 0, none⟩ = some (.int .i64 f) := (World.cell?_setCell_other _ _ _ _ (fun e => by injection e with e1 e2; omega)).trans pf0
  replace pf1 : (v9.setCell ⟨w8.heap.size, 1, none⟩ (.int .i64 c)).cell? ⟨w.heap.size + 1, 1, none⟩ = some (.int .i64 g) := (World.cell?_setCell_other _ _ _ _ (fun e => by injection e with e1 e2; omega)).trans pf1
  replace pfl : w.heap.size + 1 < (v9.setCell ⟨w8.heap.size, 1, none⟩ (.int .i64 c)).heap.size := by simpa using pfl
  replace fb0 : (v9.setCell ⟨w8.heap.size, 1, none⟩ (.int .i64 c)).cell? ⟨w5.heap.size, 0, none⟩ = some (.int .i64 kd) := (World.cell?_setCell_other _ _ _ _ (fun e => by injection e with e1 e2; omega)).trans fb0
  replace fb1 : (v9.setCell ⟨w8.heap.size, 1, none⟩ (.int .i64 c)).cell? ⟨w5.heap.size, 1, none⟩ = some (.int .i64 ba) := (World.cell?_setCell_other _ _ _ _ (fun e => by injection e with e1 e2; omega)).trans fb1
  replace fb2 : (v9.setCell ⟨w8.heap.size, 1, none⟩ (.int .i64 c)).cell? ⟨w5.heap.size, 2, none⟩ = some (.int .i64 ra) := (World.cell?_setCell_other _ _ _ _ (fun e => by injection e with e1 e2; omega)).trans fb2
  replace fb3 : (v9.setCell ⟨w8.heap.size, 1, none⟩ (.int .i64 c)).cell? ⟨w5.heap.size, 3, none⟩ = some (.int .i64 en) := (World.cell?_setCell_other _ _ _ _ (fun e => by injection e with e1 e2; omega)).trans fb3
  replace fb4 : (v9.setCell ⟨w8.heap.size, 1, none⟩ (.int .i64 c)).cell? ⟨w5.heap.size, 4, none⟩ = some (.int .i64 0) := (World.cell?_setCell_other _ _ _ _ (fun e => by injection e with e1 e2; omega)).trans fb4
  replace fb5 : (v9.setCell ⟨w8.heap.size, 1, none⟩ (.int .i64 c)).cell? ⟨w5.heap.size, 5, none⟩ = some (.int .i64 ev) := (World.cell?_setCell_other _ _ _ _ (fun e => by injection e with e1 e2; omega)).trans fb5
  replace fb6 : (v9.setCell ⟨w8.heap.size, 1, none⟩ (.int .i64 c)).cell? ⟨w5.heap.size, 6, none⟩ = some (.int .i64 la) := (World.cell?_setCell_other _ _ _ _ (fun e => by injection e with e1 e2; omega)).trans fb6
  replace fb7 : (v9.setCell ⟨w8.heap.size, 1, none⟩ (.int .i64 c)).cell? ⟨w5.heap.size, 7, none⟩ = some (.int .i64 po) := (World.cell?_setCell_other _ _ _ _ (fun e => by injection e with e1 e2; omega)).trans fb7
  replace fbl : w5.heap.size < (v9.setCell ⟨w8.heap.size, 1, none⟩ (.int .i64 c)).heap.size := by simpa using fbl
  replace lb0 : (v9.setCell ⟨w8.heap.size, 1, none⟩ (.int .i64 c)).cell? ⟨w8.heap.size, 0, none⟩ = some (.int .i64 kd) := (World.cell?_setCell_other _ _ _ _ (fun e => by injection e with e1 e2; omega)).trans lb0
  replace lb1 : (v9.setCell ⟨w8.heap.size, 1, none⟩ (.int .i64 c)).cell? ⟨w8.heap.size, 1, none⟩ = some (.int .i64 c) := by simp [go_sem, lb1]
  replace lb2 : (v9.setCell ⟨w8.heap.size, 1, none⟩ (.int .i64 c)).cell? ⟨w8.heap.size, 2, none⟩ = some (.int .i64 ra) := (World.cell?_setCell_other _ _ _ _ (fun e => by injection e with e1 e2; omega)).trans lb2
  replace lb3 : (v9.setCell ⟨w8.heap.size, 1, none⟩ (.int .i64 c)).cell? ⟨w8.heap.size, 3, none⟩ = some (.int .i64 en) := (World.cell?_setCell_other _ _ _ _ (fun e => by injection e with e1 e2; omega)).trans lb3
  replace lb4 : (v9.setCell ⟨w8.heap.size, 1, none⟩ (.int .i64 c)).cell? ⟨w8.heap.size, 4, none⟩ = some (.int .i64 wa) := (World.cell?_setCell_other _ _ _ _ (fun e => by injection e with e1 e2; omega)).trans lb4
  replace lb5 : (v9.setCell ⟨w8.heap.size, 1, none⟩ (.int .i64 c)).cell? ⟨w8.heap.size, 5, none⟩ = some (.int .i64 ev) := (World.cell?_setCell_other _ _ _ _ (fun e => by injection e with e1 e2; omega)).trans lb5
  replace lb6 : (v9.setCell ⟨w8.heap.size, 1, none⟩ (.int .i64 c)).cell? ⟨w8.heap.size, 6, none⟩ = some (.int .i64 la) := (World.cell?_setCell_other _ _ _ _ (fun e => by injection e with e1 e2; omega)).trans lb6
  replace lb7 : (v9.setCell ⟨w8.heap.size, 1, none⟩ (.int .i64 c)).cell? ⟨w8.heap.size, 7, none⟩ = some (.int .i64 po) := (World.cell?_setCell_other _ _ _ _ (fun e => by injection e with e1 e2; omega)).trans lb7
  replace lbl : w8.heap.size < (v9.setCell ⟨w8.heap.size, 1, none⟩ (.int .i64 c)).heap.size := by simpa using lbl
  replace lbr0 : (v9.setCell ⟨w8.heap.size, 1, none⟩ (.int .i64 c)).frozen? ⟨w8.heap.size, 0, none⟩ = false := by simpa [go_sem] using lbr0
  replace lbr1 : (v9.setCell ⟨w8.heap.size, 1, none⟩ (.int .i64 c)).frozen? ⟨w8.heap.size, 1, none⟩ = false := by simpa [go_sem] using lbr1
  replace lbr2 : (v9.setCell ⟨w8.heap.size, 1, none⟩ (.int .i64 c)).frozen? ⟨w8.heap.size, 2, none⟩ = false := by simpa [go_sem] using lbr2
  replace lbr3 : (v9.setCell ⟨w8.heap.size, 1, none⟩ (.int .i64 c)).frozen? ⟨w8.heap.size, 3, none⟩ = false := by simpa [go_sem] using lbr3
  replace lbr4 : (v9.setCell ⟨w8.heap.size, 1, none⟩ (.int .i64 c)).frozen? ⟨w8.heap.size, 4, none⟩ = false := by simpa [go_sem] using lbr4
  replace lbr5 : (v9.setCell ⟨w8.heap.size, 1, none⟩ (.int .i64 c)).frozen? ⟨w8.heap.size, 5, none⟩ = false := by simpa [go_sem] using lbr5
  replace lbr6 : (v9.setCell ⟨w8.heap.size, 1, none⟩ (.int .i64 c)).frozen? ⟨w8.heap.size, 6, none⟩ = false := by simpa [go_sem] using lbr6
  replace lbr7 : (v9.setCell ⟨w8.heap.size, 1, none⟩ (.int .i64 c)).frozen? ⟨w8.heap.size, 7, none⟩ = false := by simpa [go_sem] using lbr7
  replace cc := cc.setCell (p := ⟨w8.heap.size, 1, none⟩) (show w.heap.size ≤ w8.heap.size by omega) (.int .i64 c)
  generalize v9.setCell ⟨w8.heap.size, 1, none⟩ (.int .i64 c) = v10 at *
  go_upto_region 11 with fail
  replace sc0 : (v10.setCell ⟨w8.heap.size, 3, none⟩ (.int .i64 0)).cell? ⟨w.heap.size, 0, none⟩ = some (.int .i64 kd) := (World.cell?_setCell_other _ _ _ _ (fun e => by injection e with e1 e2; omega)).trans sc0
  replace sc1 : (v10.setCell ⟨w8.heap.size, 3, none⟩ (.int .i64 0)).cell? ⟨w.heap.size, 1, none⟩ = some (.int .i64 ba) := (World.cell?_setCell_other _ _ _ _ (fun e => by injection e with e1 e2; omega)).trans sc1
  replace sc2 : (v10.setCell ⟨w8.heap.size, 3, none⟩ (.int .i64 0)).cell? ⟨w.heap.size, 2, none⟩ = some (.int .i64 ra) := (World.cell?_setCell_other _ _ _ _ (fun e => by injection e with e1 e2; omega)).trans sc2
  replace sc3 : (v10.setCell ⟨w8.heap.size, 3, none⟩ (.int .i64 0)).cell? ⟨w.heap.size, 3, none⟩ = some (.int .i64 en) := (World.cell?_setCell_other _ _ _ _ (fun e => by injection e with e1 e2; omega)).trans sc3
  replace sc4 : (v10.setCell ⟨w8.heap.size, 3, none⟩ (.int .i64 0)).cell? ⟨w.heap.size, 4, none⟩ = some (.int .i64 wa) := (World.cell?_setCell_other _ _ _ _ (fun e => by injection e with e1 e2; omega)).trans sc4
  replace sc5 : (v10.setCell ⟨w8.heap.size, 3, none⟩ (.int .i64 0)).cell? ⟨w.heap.size, 5, none⟩ = some (.int .i64 ev) := (World.cell?_setCell_other _ _ _ _ (fun e => by injection e with e1 e2; omega)).trans sc5
  replace sc6 : (v10.setCell ⟨w8.heap.size, 3, none⟩ (.int .i64 0)).cell? ⟨w.heap.size, 6, none⟩ = some (.int .i64 la) := (World.cell?_setCell_other _ _ _ _ (fun e => by injection e with e1 e2; omega)).trans sc6
  replace sc7 : (v10.setCell ⟨w8.heap.size, 3, none⟩ (.int .i64 0)).cell? ⟨w.heap.size, 7, none⟩ = some (.int .i64 po) := (World.cell?_setCell_other _ _ _ _ (fun e => by injection e with e1 e2; omega)).trans sc7
  replace scl : w.heap.size < (v10.setCell ⟨w8.heap.size, 3, none⟩ (.int .i64 0)).heap.size := by simpa using scl
  replace pf0 : (v10.setCell ⟨w8.heap.size, 3, none⟩ (.int .i64 0)).cell? ⟨w.heap.size + 1, 0, none⟩ = some (.int .i64 f) := (World.cell?_setCell_other _ _ _ _ (fun e => by injection e with e1 e2; omega)).trans pf0
  replace pf1 : (v10.setCell ⟨w8.heap.size, 3, none⟩ (.int .i64 0)).cell? ⟨w.heap.size + 1, 1, none⟩ = some (.int .i64 g) := (World.cell?_setCell_other _ _ _ _ (fun e => by injection e with e1 e2; omega)).trans pf1
  replace pfl : w.heap.size + 1 < (v10.setCell ⟨w8.heap.size, 3, none⟩ (.int .i64 0)).heap.size := by simpa using pfl
  replace fb0 : (v10.setCell ⟨w8.heap.size, 3, none⟩ (.int .i64 0)).cell? ⟨w5.heap.size, 0, none⟩ = some (.int .i64 kd) := (World.cell?_setCell_other _ _ _ _ (fun e => by injection e with e1 e2; omega)).trans fb0
  replace fb1 : (v10.setCell ⟨w8.heap.size, 3, none⟩ (.int .i64 0)).cell? ⟨w5.heap.size, 1, none⟩ = some (.int .i64 ba) := (World.cell?_setCell_other _ _ _ _ (fun e => by injection e with e1 e2; omega)).trans fb1
  replace fb2 : (v10.setCell ⟨w8.heap.size, 3, none⟩ (.int .i64 0)).cell? ⟨w5.heap.size, 2, none⟩ = some (.int .i64 ra) := (World.cell?_setCell_other _ _ _ _ (fun e => by injection e with e1 e2; omega)).trans fb2
  replace fb3 : (v10.setCell ⟨w8.heap.size, 3, none⟩ (.int .i64 0)).cell? ⟨w5.heap.size, 3, none⟩ = some (.int .i64 en) := (World.cell?_setCell_other _ _ _ _ (fun e => by injection e with e1 e2; omega)).trans fb3
  replace fb4 : (v10.setCell ⟨w8.heap.size, 3, none⟩ (.int .i64 0)).cell? ⟨w5.heap.size, 4, none⟩ = some (.int .i64 0) := (World.cell?_setCell_other _ _ _ _ (fun e => by injection e with e1 e2; omega)).trans fb4
  replace fb5 : (v10.setCell ⟨w8.heap.size, 3, none⟩ (.int .i64 0)).cell? ⟨w5.heap.size, 5, none⟩ = some (.int .i64 ev) := (World.cell?_setCell_other _ _ _ _ (fun e => by injection e with e1 e2; omega)).trans fb5
  replace fb6 : (v10.setCell ⟨w8.heap.size, 3, none⟩ (.int .i64 0)).cell? ⟨w5.heap.size, 6, none⟩ = some (.int .i64 la) := (World.cell?_setCell_other _ _ _ _ (fun e => by injection e with e1 e2; omega)).trans fb6
  replace fb7 : (v10.setCell ⟨w8.heap.size, 3, none⟩ (.int .i64 0)).cell? ⟨w5.heap.size, 7, none⟩ = some (.int .i64 po) := (World.cell?_setCell_other _ _ _ _ (fun e => by injection e with e1 e2; omega)).trans fb7
  replace fbl : w5.heap.size < (v10.setCell ⟨w8.heap.size, 3, none⟩ (.int .i64 0)).heap.size := by simpa using fbl
  replace lb0 : (v10.setCell ⟨w8.heap.size, 3, none⟩ (.int .i64 0)).cell? ⟨w8.heap.size, 0, none⟩ = some (.int .i64 kd) := (World.cell?_setCell_other _ _ _ _ (fun e => by injection e with e1 e2; omega)).trans lb0
  replace lb1 : (v10.setCell ⟨w8.heap.size, 3, none⟩ (.int .i64 0)).cell? ⟨w8.heap.size, 1, none⟩ = some (.int .i64 c) := (World.cell?_setCell_other _ _ _ _ (fun e => by injection e with e1 e2; omega)).trans lb1
  replace lb2 : (v10.setCell ⟨w8.heap.size, 3, none⟩ (.int .i64 0)).cell? ⟨w8.heap.size, 2, none⟩ = some (.int .i64 ra) := (World.cell?_setCell_other _ _ _ _ (fun e => by injection e with e1 e2; omega)).trans lb2
  replace lb3 : (v10.setCell ⟨w8.heap.size, 3, none⟩ (.int .i64 0)).cell? ⟨w8.heap.size, 3, none⟩ = some (.int .i64 0) := by simp [go_sem, lb3]
  replace lb4 : (v10.setCell ⟨w8.heap.size, 3, none⟩ (.int .i64 0)).cell? ⟨w8.heap.size, 4, none⟩ = some (.int .i64 wa) := (World.cell?_setCell_other _ _ _ _ (fun e => by injection e with e1 e2; omega)).trans lb4
  replace lb5 : (v10.setCell ⟨w8.heap.size, 3, none⟩ (.int .i64 0)).cell? ⟨w8.heap.size, 5, none⟩ = some (.int .i64 ev) := (World.cell?_setCell_other _ _ _ _ (fun e => by injection e with e1 e2; omega)).trans lb5
  replace lb6 : (v10.setCell ⟨w8.heap.size, 3, none⟩ (.int .i64 0)).cell? ⟨w8.heap.size, 6, none⟩ = some (.int .i64 la) := (World.cell?_setCell_other _ _ _ _ (fun e => by injection e with e1 e2; omega)).trans lb6
  replace lb7 : (v10.setCell ⟨w8.heap.size, 3, none⟩ (.int .i64 0)).cell? ⟨w8.heap.size, 7, none⟩ = some (.int .i64 po) := (World.cell?_setCell_other _ _ _ _ (fun e => by injection e with e1 e2; omega)).trans lb7
  replace lbl : w8.heap.size < (v10.setCell ⟨w8.heap.size, 3, none⟩ (.int .i64 0)).heap.size := by simpa using lbl
  replace lbr0 : (v10.setCell ⟨w8.heap.size, 3, none⟩ (.int .i64 0)).frozen? ⟨w8.heap.size, 0, none⟩ = false := by simpa [go_sem] using lbr0
  replace lbr1 : (v10.setCell ⟨w8.heap.size, 3, none⟩ (.int .i64 0)).frozen? ⟨w8.heap.size, 1, none⟩ = false := by simpa [go_sem] using lbr1
  replace lbr2 : (v10.setCell ⟨w8.heap.size, 3, none⟩ (.int .i64 0)).frozen? ⟨w8.heap.size, 2, none⟩ = false := by simpa [go_sem] using lbr2
  replace lbr3 : (v10.setCell ⟨w8.heap.size, 3, none⟩ (.int .i64 0)).frozen? ⟨w8.heap.size, 3, none⟩ = false := by simpa [go_sem] using lbr3
  replace lbr4 : (v10.setCell ⟨w8.heap.size, 3, none⟩ (.int .i64 0)).frozen? ⟨w8.heap.size, 4, none⟩ = false := by simpa [go_sem] using lbr4
  replace lbr5 : (v10.setCell ⟨w8.heap.size, 3, none⟩ (.int .i64 0)).frozen? ⟨w8.heap.size, 5, none⟩ = false := by simpa [go_sem] using lbr5
  replace lbr6 : (v10.setCell ⟨w8.heap.size, 3, none⟩ (.int .i64 0)).frozen? ⟨w8.heap.size, 6, none⟩ = false := by simpa [go_sem] using lbr6
  replace lbr7 : (v10.setCell ⟨w8.heap.size, 3, none⟩ (.int .i64 0)).frozen? ⟨w8.heap.size, 7, none⟩ = false := by simpa [go_sem] using lbr7
  replace cc := cc.setCell (p := ⟨w8.heap.size, 3, none⟩) (show w.heap.size ≤ w8.heap.size by omega) (.int .i64 0)
  generalize v10.setCell ⟨w8.heap.size, 3, none⟩ (.int .i64 0) = v11 at *
  go_wp2_with fail
  refine (CL _).mono ?_
  rintro e w12 ⟨rfl, b⟩
  rewrite [fR b lbl] at lbr0 lbr1 lbr2 lbr3 lbr4 lbr5 lbr6 lbr7
  rewrite [cR b scl] at sc0 sc1 sc2 sc3 sc4 sc5 sc6 sc7
  replace scl := lK b scl
  rewrite [cR b pfl] at pf0 pf1
  replace pfl := lK b pfl
  rewrite [cR b fbl] at fb0 fb1 fb2 fb3 fb4 fb5 fb6 fb7
  replace fbl := lK b fbl
  rewrite [cR b lbl] at lb0 lb1 lb2 lb3 lb4 lb5 lb6 lb7
  replace lbl := lK b lbl
  replace cc := bK cc b
  clear b
  go_wp2_with fail
  refine (alive15_any _).mono ?_
  rintro e w13 ⟨rfl, b⟩
  rewrite [fR b lbl] at lbr0 lbr1 lbr2 lbr3 lbr4 lbr5 lbr6 lbr7
  rewrite [cR b scl] at sc0 sc1 sc2 sc3 sc4 sc5 sc6 sc7
  replace scl := lK b scl
  rewrite [cR b pfl] at pf0 pf1
  replace pfl := lK b pfl
  rewrite [cR b fbl] at fb0 fb1 fb2 fb3 fb4 fb5 fb6 fb7
  replace fbl := lK b fbl
  rewrite [cR b lbl] at lb0 lb1 lb2 lb3 lb4 lb5 lb6 lb7
  replace lbl := lK b lbl
  replace cc := bK cc b
  clear b
  go_wp2_with fail
  go_ret
  exact ⟨rfl, cc⟩

theorem SchedAny_all {w : World} {kd ba ra en wa ev la po t f g : Int} (hI : I64 kd ∧ I64 ba ∧ I64 ra ∧ I64 en ∧ I64 wa ∧ I64 ev ∧ I64 la ∧ I64 po ∧ I64 t ∧ I64 f) (hIg : I64 g) : Calls Try.prog 7 #[.agg #[.int .i64 kd, .int .i64 ba, .int .i64 ra, .int .i64 en, .int .i64 wa, .int .i64 ev, .int .i64 la, .int .i64 po], .int .i64 t, .agg #[.int .i64 f, .int .i64 g]] w fun e w' => e = .returned (.bool true) ∧ Below w.heap.size w w' := by
  by_cases hR0 : OkR f kd ba ra en wa ev la po
  rotate_left
  · exact SchedAny_n0 hR0
  by_cases hR1 : OkR g kd ba ra en wa ev la po
  rotate_left
  · exact SchedAny_n1 hR0 hR1
  by_cases h0 : kd = 2
  · exact SchedAny_e0 hR0 hR1 h0
  by_cases h1 : t < 1
  · exact SchedAny_e1 hR0 hR1 h0 h1
  by_cases h2 : 1000000 < t
  · exact SchedAny_e2 hR0 hR1 h0 h1 h2
  by_cases hk : kd = 3
  · exact SchedAny_p hR0 hR1 h0 h1 h2 hk hI hIg
  · exact SchedAny_k hR0 hR1 h0 h1 h2 hk hI hIg

end Go.Proofs.Ytmaolhajeoigpaa
