/-
  The walk of SchedRoot.
-/
import Derived.Test.YtmaolhajeoigpaaA9
import Derived.Test.YtmaolhajeoigpaaA10
import Derived.Test.YtmaolhajeoigpaaA3
namespace Go.Proofs.Ytmaolhajeoigpaa
set_option maxRecDepth 100000
set_option maxHeartbeats 8000000
open Go.RowKit
set_option linter.unusedVariables false
set_option linter.unusedSimpArgs false

attribute [local go_sem ↓] mx15_run
theorem SchedRoot_n0 {w : World} {kd ba ra en wa ev la po t f : Int} (hR0 : ¬ OkR f kd ba ra en wa ev la po) :
    Calls Try.prog 5 #[.agg #[.int .i64 kd, .int .i64 ba, .int .i64 ra, .int .i64 en, .int .i64 wa, .int .i64 ev, .int .i64 la, .int .i64 po], .int .i64 t, .int .i64 f] w fun e w' => e = .returned (.bool true) ∧ Below w.heap.size w w' := by
  have CR0 : ∀ W : World, Calls Try.prog 8 #[.agg #[.int .i64 kd, .int .i64 ba, .int .i64 ra, .int .i64 en, .int .i64 wa, .int .i64 ev, .int .i64 la, .int .i64 po], .int .i64 f] W (GotV W (.bool false)) := fun W => by have h := rRight15_N (w := W) (f := f) (kd := kd) (ba := ba) (ra := ra) (en := en) (wa := wa) (ev := ev) (la := la) (po := po); rw [decide_eq_false hR0] at h; exact h
  clear hR0
  have cc := Below.refl w.heap.size w
  go_enter Try.func5, Try.ntmps5
  go_wp2_with fail
  generalize hv_ : w.alloc (.cells #[.int .i64 kd, .int .i64 ba, .int .i64 ra, .int .i64 en, .int .i64 wa, .int .i64 ev, .int .i64 la, .int .i64 po] 23) = v1
  have bA : Below w.heap.size w v1 := by rw [← hv_]; exact ((Below.refl _ w).alloc (by simp) _)
  replace cc := bK cc bA
  clear bA
  have sc0 : v1.cell? ⟨w.heap.size, 0, none⟩ = some (.int .i64 kd) := by simp [← hv_, go_sem]
  have sc1 : v1.cell? ⟨w.heap.size, 1, none⟩ = some (.int .i64 ba) := by simp [← hv_, go_sem]
  have sc2 : v1.cell? ⟨w.heap.size, 2, none⟩ = some (.int .i64 ra) := by simp [← hv_, go_sem]
  have sc3 : v1.cell? ⟨w.heap.size, 3, none⟩ = some (.int .i64 en) := by simp [← hv_, go_sem]
  have sc4 : v1.cell? ⟨w.heap.size, 4, none⟩ = some (.int .i64 wa) := by simp [← hv_, go_sem]
  have sc5 : v1.cell? ⟨w.heap.size, 5, none⟩ = some (.int .i64 ev) := by simp [← hv_, go_sem]
  have sc6 : v1.cell? ⟨w.heap.size, 6, none⟩ = some (.int .i64 la) := by simp [← hv_, go_sem]
  have sc7 : v1.cell? ⟨w.heap.size, 7, none⟩ = some (.int .i64 po) := by simp [← hv_, go_sem]
  have scl : w.heap.size < v1.heap.size := by simp [← hv_] <;> omega
  clear hv_
  go_wp2_with fail
  refine (CR0 _).mono ?_
  rintro e w2 ⟨rfl, b⟩
  rewrite [cR b scl] at sc0 sc1 sc2 sc3 sc4 sc5 sc6 sc7
  replace scl := lK b scl
  replace cc := bK cc b
  clear b
  go_wp2_with fail
  refine (alive15_any _).mono ?_
  rintro e w3 ⟨rfl, b⟩
  rewrite [cR b scl] at sc0 sc1 sc2 sc3 sc4 sc5 sc6 sc7
  replace scl := lK b scl
  replace cc := bK cc b
  clear b
  go_wp2_with fail
  go_ret
  exact ⟨rfl, cc⟩

theorem SchedRoot_e0 {w : World} {kd ba ra en wa ev la po t f : Int} (hR0 : OkR f kd ba ra en wa ev la po) (h0 : ¬ kd = 1) :
    Calls Try.prog 5 #[.agg #[.int .i64 kd, .int .i64 ba, .int .i64 ra, .int .i64 en, .int .i64 wa, .int .i64 ev, .int .i64 la, .int .i64 po], .int .i64 t, .int .i64 f] w fun e w' => e = .returned (.bool true) ∧ Below w.heap.size w w' := by
  have CR0 : ∀ W : World, Calls Try.prog 8 #[.agg #[.int .i64 kd, .int .i64 ba, .int .i64 ra, .int .i64 en, .int .i64 wa, .int .i64 ev, .int .i64 la, .int .i64 po], .int .i64 f] W (GotV W (.bool true)) := fun W => by have h := rRight15_N (w := W) (f := f) (kd := kd) (ba := ba) (ra := ra) (en := en) (wa := wa) (ev := ev) (la := la) (po := po); rw [decide_eq_true hR0] at h; exact h
  have t0 : ((kd : Int) == 1) = false := beq_eq_false_iff_ne.2 h0
  have t0n : ((kd : Int) != 1) = true := by simp; omega
  clear hR0 h0
  have cc := Below.refl w.heap.size w
  go_enter Try.func5, Try.ntmps5
  go_wp2_with fail
  generalize hv_ : w.alloc (.cells #[.int .i64 kd, .int .i64 ba, .int .i64 ra, .int .i64 en, .int .i64 wa, .int .i64 ev, .int .i64 la, .int .i64 po] 23) = v1
  have bA : Below w.heap.size w v1 := by rw [← hv_]; exact ((Below.refl _ w).alloc (by simp) _)
  replace cc := bK cc bA
  clear bA
  have sc0 : v1.cell? ⟨w.heap.size, 0, none⟩ = some (.int .i64 kd) := by simp [← hv_, go_sem]
  have sc1 : v1.cell? ⟨w.heap.size, 1, none⟩ = some (.int .i64 ba) := by simp [← hv_, go_sem]
  have sc2 : v1.cell? ⟨w.heap.size, 2, none⟩ = some (.int .i64 ra) := by simp [← hv_, go_sem]
  have sc3 : v1.cell? ⟨w.heap.size, 3, none⟩ = some (.int .i64 en) := by simp [← hv_, go_sem]
  have sc4 : v1.cell? ⟨w.heap.size, 4, none⟩ = some (.int .i64 wa) := by simp [← hv_, go_sem]
  have sc5 : v1.cell? ⟨w.heap.size, 5, none⟩ = some (.int .i64 ev) := by simp [← hv_, go_sem]
  have sc6 : v1.cell? ⟨w.heap.size, 6, none⟩ = some (.int .i64 la) := by simp [← hv_, go_sem]
  have sc7 : v1.cell? ⟨w.heap.size, 7, none⟩ = some (.int .i64 po) := by simp [← hv_, go_sem]
  have scl : w.heap.size < v1.heap.size := by simp [← hv_] <;> omega
  clear hv_
  go_wp2_with fail
  refine (CR0 _).mono ?_
  rintro e w2 ⟨rfl, b⟩
  rewrite [cR b scl] at sc0 sc1 sc2 sc3 sc4 sc5 sc6 sc7
  replace scl := lK b scl
  replace cc := bK cc b
  clear b
  go_wp2_with fail
  refine (alive15_any _).mono ?_
  rintro e w3 ⟨rfl, b⟩
  rewrite [cR b scl] at sc0 sc1 sc2 sc3 sc4 sc5 sc6 sc7
  replace scl := lK b scl
  replace cc := bK cc b
  clear b
  go_wp2_with fail
  go_ret
  exact ⟨rfl, cc⟩

theorem SchedRoot_e1 {w : World} {kd ba ra en wa ev la po t f : Int} (hR0 : OkR f kd ba ra en wa ev la po) (h0 : kd = 1) (h1 : t ≤ wa) :
    Calls Try.prog 5 #[.agg #[.int .i64 kd, .int .i64 ba, .int .i64 ra, .int .i64 en, .int .i64 wa, .int .i64 ev, .int .i64 la, .int .i64 po], .int .i64 t, .int .i64 f] w fun e w' => e = .returned (.bool true) ∧ Below w.heap.size w w' := by
  have CR0 : ∀ W : World, Calls Try.prog 8 #[.agg #[.int .i64 kd, .int .i64 ba, .int .i64 ra, .int .i64 en, .int .i64 wa, .int .i64 ev, .int .i64 la, .int .i64 po], .int .i64 f] W (GotV W (.bool true)) := fun W => by have h := rRight15_N (w := W) (f := f) (kd := kd) (ba := ba) (ra := ra) (en := en) (wa := wa) (ev := ev) (la := la) (po := po); rw [decide_eq_true hR0] at h; exact h
  have t0 : ((kd : Int) == 1) = true := beq_iff_eq.2 h0
  have t0n : ((kd : Int) != 1) = false := by simp; omega
  have t1 : decide (t ≤ wa) = true := decide_eq_true h1
  clear hR0 h0 h1
  have cc := Below.refl w.heap.size w
  go_enter Try.func5, Try.ntmps5
  go_wp2_with fail
  generalize hv_ : w.alloc (.cells #[.int .i64 kd, .int .i64 ba, .int .i64 ra, .int .i64 en, .int .i64 wa, .int .i64 ev, .int .i64 la, .int .i64 po] 23) = v1
  have bA : Below w.heap.size w v1 := by rw [← hv_]; exact ((Below.refl _ w).alloc (by simp) _)
  replace cc := bK cc bA
  clear bA
  have sc0 : v1.cell? ⟨w.heap.size, 0, none⟩ = some (.int .i64 kd) := by simp [← hv_, go_sem]
  have sc1 : v1.cell? ⟨w.heap.size, 1, none⟩ = some (.int .i64 ba) := by simp [← hv_, go_sem]
  have sc2 : v1.cell? ⟨w.heap.size, 2, none⟩ = some (.int .i64 ra) := by simp [← hv_, go_sem]
  have sc3 : v1.cell? ⟨w.heap.size, 3, none⟩ = some (.int .i64 en) := by simp [← hv_, go_sem]
  have sc4 : v1.cell? ⟨w.heap.size, 4, none⟩ = some (.int .i64 wa) := by simp [← hv_, go_sem]
  have sc5 : v1.cell? ⟨w.heap.size, 5, none⟩ = some (.int .i64 ev) := by simp [← hv_, go_sem]
  have sc6 : v1.cell? ⟨w.heap.size, 6, none⟩ = some (.int .i64 la) := by simp [← hv_, go_sem]
  have sc7 : v1.cell? ⟨w.heap.size, 7, none⟩ = some (.int .i64 po) := by simp [← hv_, go_sem]
  have scl : w.heap.size < v1.heap.size := by simp [← hv_] <;> omega
  clear hv_
  go_wp2_with fail
  refine (CR0 _).mono ?_
  rintro e w2 ⟨rfl, b⟩
  rewrite [cR b scl] at sc0 sc1 sc2 sc3 sc4 sc5 sc6 sc7
  replace scl := lK b scl
  replace cc := bK cc b
  clear b
  go_wp2_with fail
  refine (alive15_any _).mono ?_
  rintro e w3 ⟨rfl, b⟩
  rewrite [cR b scl] at sc0 sc1 sc2 sc3 sc4 sc5 sc6 sc7
  replace scl := lK b scl
  replace cc := bK cc b
  clear b
  go_wp2_with fail
  go_ret
  exact ⟨rfl, cc⟩

theorem SchedRoot_e2 {w : World} {kd ba ra en wa ev la po t f : Int} (hR0 : OkR f kd ba ra en wa ev la po) (h0 : kd = 1) (h1 : ¬ t ≤ wa) (h2 : t < 1) :
    Calls Try.prog 5 #[.agg #[.int .i64 kd, .int .i64 ba, .int .i64 ra, .int .i64 en, .int .i64 wa, .int .i64 ev, .int .i64 la, .int .i64 po], .int .i64 t, .int .i64 f] w fun e w' => e = .returned (.bool true) ∧ Below w.heap.size w w' := by
  have CR0 : ∀ W : World, Calls Try.prog 8 #[.agg #[.int .i64 kd, .int .i64 ba, .int .i64 ra, .int .i64 en, .int .i64 wa, .int .i64 ev, .int .i64 la, .int .i64 po], .int .i64 f] W (GotV W (.bool true)) := fun W => by have h := rRight15_N (w := W) (f := f) (kd := kd) (ba := ba) (ra := ra) (en := en) (wa := wa) (ev := ev) (la := la) (po := po); rw [decide_eq_true hR0] at h; exact h
  have t0 : ((kd : Int) == 1) = true := beq_iff_eq.2 h0
  have t0n : ((kd : Int) != 1) = false := by simp; omega
  have t1 : decide (t ≤ wa) = false := decide_eq_false h1
  have t2 : decide (t < 1) = true := decide_eq_true h2
  clear hR0 h0 h1 h2
  have cc := Below.refl w.heap.size w
  go_enter Try.func5, Try.ntmps5
  go_wp2_with fail
  generalize hv_ : w.alloc (.cells #[.int .i64 kd, .int .i64 ba, .int .i64 ra, .int .i64 en, .int .i64 wa, .int .i64 ev, .int .i64 la, .int .i64 po] 23) = v1
  have bA : Below w.heap.size w v1 := by rw [← hv_]; exact ((Below.refl _ w).alloc (by simp) _)
  replace cc := bK cc bA
  clear bA
  have sc0 : v1.cell? ⟨w.heap.size, 0, none⟩ = some (.int .i64 kd) := by simp [← hv_, go_sem]
  have sc1 : v1.cell? ⟨w.heap.size, 1, none⟩ = some (.int .i64 ba) := by simp [← hv_, go_sem]
  have sc2 : v1.cell? ⟨w.heap.size, 2, none⟩ = some (.int .i64 ra) := by simp [← hv_, go_sem]
  have sc3 : v1.cell? ⟨w.heap.size, 3, none⟩ = some (.int .i64 en) := by simp [← hv_, go_sem]
  have sc4 : v1.cell? ⟨w.heap.size, 4, none⟩ = some (.int .i64 wa) := by simp [← hv_, go_sem]
  have sc5 : v1.cell? ⟨w.heap.size, 5, none⟩ = some (.int .i64 ev) := by simp [← hv_, go_sem]
  have sc6 : v1.cell? ⟨w.heap.size, 6, none⟩ = some (.int .i64 la) := by simp [← hv_, go_sem]
  have sc7 : v1.cell? ⟨w.heap.size, 7, none⟩ = some (.int .i64 po) := by simp [← hv_, go_sem]
  have scl : w.heap.size < v1.heap.size := by simp [← hv_] <;> omega
  clear hv_
  go_wp2_with fail
  refine (CR0 _).mono ?_
  rintro e w2 ⟨rfl, b⟩
  rewrite [cR b scl] at sc0 sc1 sc2 sc3 sc4 sc5 sc6 sc7
  replace scl := lK b scl
  replace cc := bK cc b
  clear b
  go_wp2_with fail
  refine (alive15_any _).mono ?_
  rintro e w3 ⟨rfl, b⟩
  rewrite [cR b scl] at sc0 sc1 sc2 sc3 sc4 sc5 sc6 sc7
  replace scl := lK b scl
  replace cc := bK cc b
  clear b
  go_wp2_with fail
  go_ret
  exact ⟨rfl, cc⟩

theorem SchedRoot_e3 {w : World} {kd ba ra en wa ev la po t f : Int} (hR0 : OkR f kd ba ra en wa ev la po) (h0 : kd = 1) (h1 : ¬ t ≤ wa) (h2 : ¬ t < 1) (h3 : 1000000 < t) :
    Calls Try.prog 5 #[.agg #[.int .i64 kd, .int .i64 ba, .int .i64 ra, .int .i64 en, .int .i64 wa, .int .i64 ev, .int .i64 la, .int .i64 po], .int .i64 t, .int .i64 f] w fun e w' => e = .returned (.bool true) ∧ Below w.heap.size w w' := by
  have CR0 : ∀ W : World, Calls Try.prog 8 #[.agg #[.int .i64 kd, .int .i64 ba, .int .i64 ra, .int .i64 en, .int .i64 wa, .int .i64 ev, .int .i64 la, .int .i64 po], .int .i64 f] W (GotV W (.bool true)) := fun W => by have h := rRight15_N (w := W) (f := f) (kd := kd) (ba := ba) (ra := ra) (en := en) (wa := wa) (ev := ev) (la := la) (po := po); rw [decide_eq_true hR0] at h; exact h
  have t0 : ((kd : Int) == 1) = true := beq_iff_eq.2 h0
  have t0n : ((kd : Int) != 1) = false := by simp; omega
  have t1 : decide (t ≤ wa) = false := decide_eq_false h1
  have t2 : decide (t < 1) = false := decide_eq_false h2
  have t3 : decide (1000000 < t) = true := decide_eq_true h3
  clear hR0 h0 h1 h2 h3
  have cc := Below.refl w.heap.size w
  go_enter Try.func5, Try.ntmps5
  go_wp2_with fail
  generalize hv_ : w.alloc (.cells #[.int .i64 kd, .int .i64 ba, .int .i64 ra, .int .i64 en, .int .i64 wa, .int .i64 ev, .int .i64 la, .int .i64 po] 23) = v1
  have bA : Below w.heap.size w v1 := by rw [← hv_]; exact ((Below.refl _ w).alloc (by simp) _)
  replace cc := bK cc bA
  clear bA
  have sc0 : v1.cell? ⟨w.heap.size, 0, none⟩ = some (.int .i64 kd) := by simp [← hv_, go_sem]
  have sc1 : v1.cell? ⟨w.heap.size, 1, none⟩ = some (.int .i64 ba) := by simp [← hv_, go_sem]
  have sc2 : v1.cell? ⟨w.heap.size, 2, none⟩ = some (.int .i64 ra) := by simp [← hv_, go_sem]
  have sc3 : v1.cell? ⟨w.heap.size, 3, none⟩ = some (.int .i64 en) := by simp [← hv_, go_sem]
  have sc4 : v1.cell? ⟨w.heap.size, 4, none⟩ = some (.int .i64 wa) := by simp [← hv_, go_sem]
  have sc5 : v1.cell? ⟨w.heap.size, 5, none⟩ = some (.int .i64 ev) := by simp [← hv_, go_sem]
  have sc6 : v1.cell? ⟨w.heap.size, 6, none⟩ = some (.int .i64 la) := by simp [← hv_, go_sem]
  have sc7 : v1.cell? ⟨w.heap.size, 7, none⟩ = some (.int .i64 po) := by simp [← hv_, go_sem]
  have scl : w.heap.size < v1.heap.size := by simp [← hv_] <;> omega
  clear hv_
  go_wp2_with fail
  refine (CR0 _).mono ?_
  rintro e w2 ⟨rfl, b⟩
  rewrite [cR b scl] at sc0 sc1 sc2 sc3 sc4 sc5 sc6 sc7
  replace scl := lK b scl
  replace cc := bK cc b
  clear b
  go_wp2_with fail
  refine (alive15_any _).mono ?_
  rintro e w3 ⟨rfl, b⟩
  rewrite [cR b scl] at sc0 sc1 sc2 sc3 sc4 sc5 sc6 sc7
  replace scl := lK b scl
  replace cc := bK cc b
  clear b
  go_wp2_with fail
  go_ret
  exact ⟨rfl, cc⟩

theorem SchedRoot_main {w : World} {kd ba ra en wa ev la po t f : Int} (hR0 : OkR f kd ba ra en wa ev la po) (h0 : kd = 1) (h1 : ¬ t ≤ wa) (h2 : ¬ t < 1) (h3 : ¬ 1000000 < t) (hIt : I64 kd ∧ I64 ba ∧ I64 ra ∧ I64 en ∧ I64 wa ∧ I64 ev ∧ I64 la ∧ I64 po ∧ I64 t ∧ I64 f) :
    Calls Try.prog 5 #[.agg #[.int .i64 kd, .int .i64 ba, .int .i64 ra, .int .i64 en, .int .i64 wa, .int .i64 ev, .int .i64 la, .int .i64 po], .int .i64 t, .int .i64 f] w fun e w' => e = .returned (.bool true) ∧ Below w.heap.size w w' := by
  have CR0 : ∀ W : World, Calls Try.prog 8 #[.agg #[.int .i64 kd, .int .i64 ba, .int .i64 ra, .int .i64 en, .int .i64 wa, .int .i64 ev, .int .i64 la, .int .i64 po], .int .i64 f] W (GotV W (.bool true)) := fun W => by have h := rRight15_N (w := W) (f := f) (kd := kd) (ba := ba) (ra := ra) (en := en) (wa := wa) (ev := ev) (la := la) (po := po); rw [decide_eq_true hR0] at h; exact h
  have t0 : ((kd : Int) == 1) = true := beq_iff_eq.2 h0
  have t0n : ((kd : Int) != 1) = false := by simp; omega
  have t1 : decide (t ≤ wa) = false := decide_eq_false h1
  have t2 : decide (t < 1) = false := decide_eq_false h2
  have t3 : decide (1000000 < t) = false := decide_eq_false h3
  obtain ⟨i_kd, i_ba, i_ra, i_en, i_wa, i_ev, i_la, i_po, i_t, i_f⟩ := id hIt
  have hb := hR0.2.2.1
  have hwa := hR0.2.2.2.1
  have hx := fell_le (wa := wa) (t := t) hb (by omega) (by omega)
  have hr := fell_root (wa := wa) (t := t) hb (by omega)
  obtain ⟨xn, ex⟩ : ∃ n : Nat, fellR ba wa t = (n : Int) := ⟨(fellR ba wa t).toNat, by omega⟩
  rw [ex] at hx hr
  rw [Int.toNat_natCast] at hr
  have e_x : rt15 f kd ba ra en wa ev la po t = (xn : Int) := by rw [rt_root (by omega) h0]; exact ex
  have CX : ∀ W : World, Calls Try.prog 10 #[.agg #[.int .i64 kd, .int .i64 ba, .int .i64 ra, .int .i64 en, .int .i64 wa, .int .i64 ev, .int .i64 la, .int .i64 po], .int .i64 t, .int .i64 f] W (GotV W (.tuple #[.int .i64 (xn : Int), .int .i64 0])) := fun W => by
    have h := sRate_N W hIt
    rw [(rVE hR0 (by omega) (by omega)).1, (rVE hR0 (by omega) (by omega)).2, e_x] at h
    exact h
  obtain ⟨mn, em⟩ : ∃ n : Nat, mx15 wa = (n : Int) := ⟨(mx15 wa).toNat, by unfold mx15; omega⟩
  have hm1 : 1 ≤ mn ∧ mn ≤ 1000000 := by unfold mx15 at em; omega
  rw [show max wa 1 = (mn : Int) from em, Int.toNat_natCast] at hr
  clear e_x ex
  obtain ⟨bn, rfl⟩ : ∃ n : Nat, ba = (n : Int) := ⟨ba.toNat, by omega⟩
  obtain ⟨tn, rfl⟩ : ∃ n : Nat, t = (n : Int) := ⟨t.toNat, by omega⟩
  rw [Int.toNat_natCast, Int.toNat_natCast] at hr
  have b64 : bn < B64 := by unfold I64 at i_ba; unfold B64; omega
  have m64 : mn < B64 := by unfold B64; omega
  have n64 : tn < B64 := by unfold B64; omega
  have x64 : xn < B64 := by omega
  have y64 : xn + 1 < B64 := by unfold I64 at i_ba; unfold B64; omega
  have CB := fun W : World => rof_N W bn b64
  have CM := fun W : World => rof_N W mn m64
  have CT := fun W : World => rof_N W tn n64
  have CN := fun W : World => rof_N W xn x64
  have CO := fun W : World => rof_N W (xn + 1) y64
  have lb_ := len_one b64
  have lm_ := len_one m64
  have lt_ := len_one n64
  have lx_ := len_one x64
  have ly_ := len_one y64
  have lp_ := limbs_length_mul lb_ lb_
  have lq_ := limbs_length_mul lp_ lm_
  have lu_ := limbs_length_mul lx_ lx_
  have lv_ := limbs_length_mul lu_ lt_
  have lr_ := limbs_length_mul ly_ ly_
  have ls_ := limbs_length_mul lr_ lt_
  obtain ⟨c1, ec1⟩ : ∃ c, cmpN (xn * xn * tn) (bn * bn * mn) = c := ⟨_, rfl⟩
  have Cc1 := fun {W : World} {A B : Option Addr} {a b c d : Nat} (h1 : Num W A a b (xn * xn * tn)) (h2 : Num W B c d (bn * bn * mn)) => rcmp_N h1 h2 (Nat.le_trans lv_ (by omega)) (Nat.le_trans lq_ (by omega))
  rw [ec1] at Cc1
  have rc1 : decide (c1 ≤ 0) = true := decide_eq_true (by rw [← ec1]; unfold cmpN; have := hr.1; split <;> (try split) <;> omega)
  obtain ⟨c2, ec2⟩ : ∃ c, cmpN ((xn + 1) * (xn + 1) * tn) (bn * bn * mn) = c := ⟨_, rfl⟩
  have Cc2 := fun {W : World} {A B : Option Addr} {a b c d : Nat} (h1 : Num W A a b ((xn + 1) * (xn + 1) * tn)) (h2 : Num W B c d (bn * bn * mn)) => rcmp_N h1 h2 (Nat.le_trans ls_ (by omega)) (Nat.le_trans lq_ (by omega))
  rw [ec2] at Cc2
  have rc2 : decide (0 < c2) = true := decide_eq_true (by rw [← ec2]; unfold cmpN; have := hr.2; split <;> (try split) <;> omega)
  have k1 : IntKind.u64.wrap (bn : Int) = (bn : Int) := by rw [IntKind.wrap_u64]; unfold B64 at b64; omega
  have k2 : IntKind.u64.wrap (mx15 wa) = (mn : Int) := by rw [em, IntKind.wrap_u64]; omega
  have k3 : IntKind.u64.wrap (tn : Int) = (tn : Int) := by rw [IntKind.wrap_u64]; omega
  have k4 : IntKind.u64.wrap (xn : Int) = (xn : Int) := by rw [IntKind.wrap_u64]; unfold B64 at x64; omega
  have k5 : IntKind.u64.wrap ((xn : Int) + 1) = ((xn + 1 : Nat) : Int) := by rw [IntKind.wrap_u64]; unfold B64 at y64; omega
  have k6 : decide ((xn : Int) < 0) = false := decide_eq_false (by omega)
  have k7 : IntKind.u64.wrap (mn : Int) = (mn : Int) := by rw [IntKind.wrap_u64]; omega
  have Hb := Lib.hid lb_
  have Hm := Lib.hid lm_
  have Ht := Lib.hid lt_
  have Hx := Lib.hid lx_
  have Hy := Lib.hid ly_
  have Hp := Lib.hid lp_
  have Hq := Lib.hid lq_
  have Hu := Lib.hid lu_
  have Hr := Lib.hid lr_
  have Hv := Lib.hid lv_
  have Hs := Lib.hid ls_
  clear hR0 h0 h1 h2 h3 hIt i_kd i_ba i_ra i_en i_wa i_ev i_la i_po i_t i_f hb hwa hx hr hm1 b64 m64 n64 x64 y64 ec1 ec2 lb_ lm_ lt_ lx_ ly_ lp_ lq_ lu_ lv_ lr_ ls_
  have cc := Below.refl w.heap.size w
  go_enter Try.func5, Try.ntmps5
  go_wp2_with fail
  generalize hv_ : w.alloc (.cells #[.int .i64 kd, .int .i64 (bn : Int), .int .i64 ra, .int .i64 en, .int .i64 wa, .int .i64 ev, .int .i64 la, .int .i64 po] 23) = v1
  have bA : Below w.heap.size w v1 := by rw [← hv_]; exact ((Below.refl _ w).alloc (by simp) _)
  replace cc := bK cc bA
  clear bA
  have sc0 : v1.cell? ⟨w.heap.size, 0, none⟩ = some (.int .i64 kd) := by simp [← hv_, go_sem]
  have sc1 : v1.cell? ⟨w.heap.size, 1, none⟩ = some (.int .i64 (bn : Int)) := by simp [← hv_, go_sem]
  have sc2 : v1.cell? ⟨w.heap.size, 2, none⟩ = some (.int .i64 ra) := by simp [← hv_, go_sem]
  have sc3 : v1.cell? ⟨w.heap.size, 3, none⟩ = some (.int .i64 en) := by simp [← hv_, go_sem]
  have sc4 : v1.cell? ⟨w.heap.size, 4, none⟩ = some (.int .i64 wa) := by simp [← hv_, go_sem]
  have sc5 : v1.cell? ⟨w.heap.size, 5, none⟩ = some (.int .i64 ev) := by simp [← hv_, go_sem]
  have sc6 : v1.cell? ⟨w.heap.size, 6, none⟩ = some (.int .i64 la) := by simp [← hv_, go_sem]
  have sc7 : v1.cell? ⟨w.heap.size, 7, none⟩ = some (.int .i64 po) := by simp [← hv_, go_sem]
  have scl : w.heap.size < v1.heap.size := by simp [← hv_] <;> omega
  clear hv_
  go_wp2_with fail
  refine (CR0 _).mono ?_
  rintro e w2 ⟨rfl, b⟩
  rewrite [cR b scl] at sc0 sc1 sc2 sc3 sc4 sc5 sc6 sc7
  replace scl := lK b scl
  replace cc := bK cc b
  clear b
  go_wp2_with fail
  refine (CX _).mono ?_
  rintro e w3 ⟨rfl, b⟩
  rewrite [cR b scl] at sc0 sc1 sc2 sc3 sc4 sc5 sc6 sc7
  replace scl := lK b scl
  replace cc := bK cc b
  clear b
  go_wp2_with fail
  refine (CN _).mono ?_
  rintro e w4 ⟨An, nn, cn, rfl, hn, b⟩
  rewrite [cR b scl] at sc0 sc1 sc2 sc3 sc4 sc5 sc6 sc7
  replace scl := lK b scl
  replace cc := bK cc b
  clear b
  go_wp2_with fail
  refine (CO _).mono ?_
  rintro e w5 ⟨Ao, no, co, rfl, ho, b⟩
  replace hn := hn.on b
  rewrite [cR b scl] at sc0 sc1 sc2 sc3 sc4 sc5 sc6 sc7
  replace scl := lK b scl
  replace cc := bK cc b
  clear b
  go_wp2_with fail
  refine (CT _).mono ?_
  rintro e w6 ⟨At, nt, ct, rfl, ht, b⟩
  replace hn := hn.on b
  replace ho := ho.on b
  rewrite [cR b scl] at sc0 sc1 sc2 sc3 sc4 sc5 sc6 sc7
  replace scl := lK b scl
  replace cc := bK cc b
  clear b
  go_wp2_with fail
  refine (CB _).mono ?_
  rintro e w7 ⟨Ab, nb, cb, rfl, hb, b⟩
  replace hn := hn.on b
  replace ho := ho.on b
  replace ht := ht.on b
  rewrite [cR b scl] at sc0 sc1 sc2 sc3 sc4 sc5 sc6 sc7
  replace scl := lK b scl
  replace cc := bK cc b
  clear b
  go_wp2_with fail
  have qq : Below w7.heap.size w7 w7.drew := below_drewN (Below.refl _ w7) 1
  have hn' := hn.on qq
  have ho' := ho.on qq
  have ht' := ht.on qq
  have hb' := hb.on qq
  go_region_held3 (fun w' => w'.cell? ⟨w.heap.size, 0, none⟩ = some (.int .i64 kd) ∧ w'.cell? ⟨w.heap.size, 1, none⟩ = some (.int .i64 (bn : Int)) ∧ w'.cell? ⟨w.heap.size, 2, none⟩ = some (.int .i64 ra) ∧ w'.cell? ⟨w.heap.size, 3, none⟩ = some (.int .i64 en) ∧ w'.cell? ⟨w.heap.size, 4, none⟩ = some (.int .i64 wa) ∧ w'.cell? ⟨w.heap.size, 5, none⟩ = some (.int .i64 ev) ∧ w'.cell? ⟨w.heap.size, 6, none⟩ = some (.int .i64 la) ∧ w'.cell? ⟨w.heap.size, 7, none⟩ = some (.int .i64 po))
    (first | with_reducible exact ⟨cK qq sc0 scl, cK qq sc1 scl, cK qq sc2 scl, cK qq sc3 scl, cK qq sc4 scl, cK qq sc5 scl, cK qq sc6 scl, cK qq sc7 scl⟩ | go_keep)
    (first
      | (go_at_call 12; (with_reducible refine (rmul_N hb' hb' (Nat.le_trans Hb.out (by omega)) (Nat.le_trans Hb.out (by omega))).mono ?_); rintro e wz ⟨Ap, np, cp, rfl, hp, q⟩; replace qq := bK qq q; (try replace hn' := hn'.on q); (try replace ho' := ho'.on q); (try replace ht' := ht'.on q); (try replace hb' := hb'.on q); (try replace hm := hm.on q); (try replace hq := hq.on q); clear q)
      | (go_at_call 11; (with_reducible refine (CM _).mono ?_); rintro e wz ⟨Am, nm_, cm_, rfl, hm, q⟩; replace qq := bK qq q; (try replace hn' := hn'.on q); (try replace ho' := ho'.on q); (try replace ht' := ht'.on q); (try replace hb' := hb'.on q); (try replace hp := hp.on q); (try replace hq := hq.on q); clear q)
      | (go_at_call 12; (with_reducible refine (rmul_N hp hm (Nat.le_trans Hp.out (by omega)) (Nat.le_trans Hm.out (by omega))).mono ?_); rintro e wz ⟨Aq, nq, cq, rfl, hq, q⟩; replace qq := bK qq q; (try replace hn' := hn'.on q); (try replace ho' := ho'.on q); (try replace ht' := ht'.on q); (try replace hb' := hb'.on q); (try replace hp := hp.on q); (try replace hm := hm.on q); clear q))
  all_goals
    clear hn
    have hn := hn'
    clear hn'
    clear ho
    have ho := ho'
    clear ho'
    clear ht
    have ht := ht'
    clear ht'
    clear hb
    have hb := hb'
    clear hb'
    rewrite [cR qq scl] at sc0 sc1 sc2 sc3 sc4 sc5 sc6 sc7
    replace scl := lK qq scl
    replace cc := bK cc qq
    clear qq
    clear hp hm
    go_wp2_with fail
    refine (rmul_N hn hn (Nat.le_trans Hx.out (by omega)) (Nat.le_trans Hx.out (by omega))).mono ?_
    rintro e w11 ⟨Au, nu, cu, rfl, hu, b⟩
    replace hn := hn.on b
    replace ho := ho.on b
    replace ht := ht.on b
    replace hb := hb.on b
    replace hq := hq.on b
    rewrite [cR b scl] at sc0 sc1 sc2 sc3 sc4 sc5 sc6 sc7
    replace scl := lK b scl
    replace cc := bK cc b
    clear b
    go_wp2_with fail
    refine (rmul_N hu ht (Nat.le_trans Hu.out (by omega)) (Nat.le_trans Ht.out (by omega))).mono ?_
    rintro e w12 ⟨Av, nv, cv, rfl, hv, b⟩
    replace hn := hn.on b
    replace ho := ho.on b
    replace ht := ht.on b
    replace hb := hb.on b
    replace hq := hq.on b
    replace hu := hu.on b
    rewrite [cR b scl] at sc0 sc1 sc2 sc3 sc4 sc5 sc6 sc7
    replace scl := lK b scl
    replace cc := bK cc b
    clear b
    go_wp2_with fail
    refine (rmul_N ho ho (Nat.le_trans Hy.out (by omega)) (Nat.le_trans Hy.out (by omega))).mono ?_
    rintro e w13 ⟨Ar, nr_, cr_, rfl, hr, b⟩
    replace hn := hn.on b
    replace ho := ho.on b
    replace ht := ht.on b
    replace hb := hb.on b
    replace hq := hq.on b
    replace hu := hu.on b
    replace hv := hv.on b
    rewrite [cR b scl] at sc0 sc1 sc2 sc3 sc4 sc5 sc6 sc7
    replace scl := lK b scl
    replace cc := bK cc b
    clear b
    go_wp2_with fail
    refine (rmul_N hr ht (Nat.le_trans Hr.out (by omega)) (Nat.le_trans Ht.out (by omega))).mono ?_
    rintro e w14 ⟨As, ns, cs, rfl, hs, b⟩
    replace hn := hn.on b
    replace ho := ho.on b
    replace ht := ht.on b
    replace hb := hb.on b
    replace hq := hq.on b
    replace hu := hu.on b
    replace hv := hv.on b
    replace hr := hr.on b
    rewrite [cR b scl] at sc0 sc1 sc2 sc3 sc4 sc5 sc6 sc7
    replace scl := lK b scl
    replace cc := bK cc b
    clear b
    go_wp2_with fail
    refine (alive15_any _).mono ?_
    rintro e w15 ⟨rfl, b⟩
    replace hn := hn.on b
    replace ho := ho.on b
    replace ht := ht.on b
    replace hb := hb.on b
    replace hq := hq.on b
    replace hu := hu.on b
    replace hv := hv.on b
    replace hr := hr.on b
    replace hs := hs.on b
    rewrite [cR b scl] at sc0 sc1 sc2 sc3 sc4 sc5 sc6 sc7
    replace scl := lK b scl
    replace cc := bK cc b
    clear b
    go_wp2_with fail
    refine (Cc1 hv hq).mono ?_
    rintro e w16 ⟨rfl, b⟩
    replace hn := hn.on b
    replace ho := ho.on b
    replace ht := ht.on b
    replace hb := hb.on b
    replace hq := hq.on b
    replace hu := hu.on b
    replace hv := hv.on b
    replace hr := hr.on b
    replace hs := hs.on b
    rewrite [cR b scl] at sc0 sc1 sc2 sc3 sc4 sc5 sc6 sc7
    replace scl := lK b scl
    replace cc := bK cc b
    clear b
    go_wp2_with fail
    refine (Cc2 hs hq).mono ?_
    rintro e w17 ⟨rfl, b⟩
    replace hn := hn.on b
    replace ho := ho.on b
    replace ht := ht.on b
    replace hb := hb.on b
    replace hq := hq.on b
    replace hu := hu.on b
    replace hv := hv.on b
    replace hr := hr.on b
    replace hs := hs.on b
    rewrite [cR b scl] at sc0 sc1 sc2 sc3 sc4 sc5 sc6 sc7
    replace scl := lK b scl
    replace cc := bK cc b
    clear b
    go_wp2_with fail
    go_ret
    exact ⟨rfl, cc⟩

theorem SchedRoot_all {w : World} {kd ba ra en wa ev la po t f : Int} (hIt : I64 kd ∧ I64 ba ∧ I64 ra ∧ I64 en ∧ I64 wa ∧ I64 ev ∧ I64 la ∧ I64 po ∧ I64 t ∧ I64 f) : Calls Try.prog 5 #[.agg #[.int .i64 kd, .int .i64 ba, .int .i64 ra, .int .i64 en, .int .i64 wa, .int .i64 ev, .int .i64 la, .int .i64 po], .int .i64 t, .int .i64 f] w fun e w' => e = .returned (.bool true) ∧ Below w.heap.size w w' := by
  by_cases hR0 : OkR f kd ba ra en wa ev la po
  rotate_left
  · exact SchedRoot_n0 hR0
  by_cases h0 : kd = 1
  rotate_left
  · exact SchedRoot_e0 hR0 h0
  by_cases h1 : t ≤ wa
  · exact SchedRoot_e1 hR0 h0 h1
  by_cases h2 : t < 1
  · exact SchedRoot_e2 hR0 h0 h1 h2
  by_cases h3 : 1000000 < t
  · exact SchedRoot_e3 hR0 h0 h1 h2 h3
  exact SchedRoot_main hR0 h0 h1 h2 h3 hIt

end Go.Proofs.Ytmaolhajeoigpaa
