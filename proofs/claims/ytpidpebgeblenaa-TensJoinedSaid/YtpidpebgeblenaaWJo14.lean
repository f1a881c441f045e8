/-
  TensJoined: where it ends before it keeps anything.
-/
import Derived.Test.YtpidpebgeblenaaA13
import Derived.Test.YtpidpebgeblenaaA11
import Derived.Test.YtpidpebgeblenaaA3
namespace Go.Proofs.Ytpidpebgeblenaa
set_option maxRecDepth 100000
open Go.RowKit
set_option linter.unusedVariables false
set_option linter.unusedSimpArgs false

set_option maxRecDepth 100000 in
set_option maxHeartbeats 8000000 in
theorem TensJoined_few {w : World} {kk ks km ko : Int} {A : Option Addr} {n c : Nat} {L : List Int} (hA : IR w A n c L) {B : Option Addr} {m d : Nat} {M : List Int} (hB : IR w B m d M) (bn : n ≤ 17592186044416) (bm : m ≤ 17592186044416) (h : 24 < n + m) :
    Calls Try.prog 5 #[.agg #[.int .i64 kk, .int .i64 ks, .int .i64 km, .int .i64 ko], .slice A n c, .slice B m d] w fun e w' => e = .returned (.bool true) ∧ Below w.heap.size w w' := by
  have k0_ : IntKind.i64.wrap ((n : Int) + (m : Int)) = (n : Int) + (m : Int) := IntWalk.i64_in _ (by omega)
  have t0 : decide ((24 : Int) < (n : Int) + (m : Int)) = true := decide_eq_true (by omega)
  have t1 : decide (24 < n + m) = true := decide_eq_true (by omega)
  clear hA hB bn bm h
  have cc := Below.refl w.heap.size w
  go_enter Try.func5, Try.ntmps5
  go_wp2_with fail
  have bA : Below w.heap.size w (w.alloc (.cells #[.int .i64 kk, .int .i64 ks, .int .i64 km, .int .i64 ko] 23)) := ((Below.refl _ w).alloc (by simp) _)
  replace cc := bK cc bA
  clear bA
  have ka0 : (w.alloc (.cells #[.int .i64 kk, .int .i64 ks, .int .i64 km, .int .i64 ko] 23)).cell? ⟨w.heap.size, 0, none⟩ = some (.int .i64 kk) := by simp [go_sem]
  have ka1 : (w.alloc (.cells #[.int .i64 kk, .int .i64 ks, .int .i64 km, .int .i64 ko] 23)).cell? ⟨w.heap.size, 1, none⟩ = some (.int .i64 ks) := by simp [go_sem]
  have ka2 : (w.alloc (.cells #[.int .i64 kk, .int .i64 ks, .int .i64 km, .int .i64 ko] 23)).cell? ⟨w.heap.size, 2, none⟩ = some (.int .i64 km) := by simp [go_sem]
  have ka3 : (w.alloc (.cells #[.int .i64 kk, .int .i64 ks, .int .i64 km, .int .i64 ko] 23)).cell? ⟨w.heap.size, 3, none⟩ = some (.int .i64 ko) := by simp [go_sem]
  have kal : w.heap.size < (w.alloc (.cells #[.int .i64 kk, .int .i64 ks, .int .i64 km, .int .i64 ko] 23)).heap.size := by simp <;> omega
  generalize w.alloc (.cells #[.int .i64 kk, .int .i64 ks, .int .i64 km, .int .i64 ko] 23) = v1 at *
  go_wp2_with fail
  refine (alive14_any _).mono ?_
  rintro e w2 ⟨rfl, b⟩
  replace ka0 := cK b ka0 kal
  replace ka1 := cK b ka1 kal
  replace ka2 := cK b ka2 kal
  replace ka3 := cK b ka3 kal
  replace kal := lK b kal
  replace cc := bK cc b
  clear b
  go_wp2_with fail
  go_ret
  exact ⟨rfl, cc⟩

set_option maxRecDepth 100000 in
set_option maxHeartbeats 8000000 in
theorem TensJoined_may {w : World} {kk ks km ko : Int} {A : Option Addr} {n c : Nat} {L : List Int} (hA : IR w A n c L) {B : Option Addr} {m d : Nat} {M : List Int} (hB : IR w B m d M) (bn : n ≤ 17592186044416) (bm : m ≤ 17592186044416) (h : n + m ≤ 24) (hK : ¬ OkK kk ks km ko) :
    Calls Try.prog 5 #[.agg #[.int .i64 kk, .int .i64 ks, .int .i64 km, .int .i64 ko], .slice A n c, .slice B m d] w fun e w' => e = .returned (.bool true) ∧ Below w.heap.size w w' := by
  have k0_ : IntKind.i64.wrap ((n : Int) + (m : Int)) = (n : Int) + (m : Int) := IntWalk.i64_in _ (by omega)
  have t0 : decide ((24 : Int) < (n : Int) + (m : Int)) = false := decide_eq_false (by omega)
  have t1 : decide (24 < n + m) = false := decide_eq_false (by omega)
  have CM : ∀ V : World, Calls Try.prog 10 #[.agg #[.int .i64 kk, .int .i64 ks, .int .i64 km, .int .i64 ko]] V (GotV V (.bool false)) := fun V => by have h := rMay14_N V (kk := kk) (ks := ks) (km := km) (ko := ko); rw [decide_eq_false hK] at h; exact h
  clear hA hB bn bm h hK
  have cc := Below.refl w.heap.size w
  go_enter Try.func5, Try.ntmps5
  go_wp2_with fail
  have bA : Below w.heap.size w (w.alloc (.cells #[.int .i64 kk, .int .i64 ks, .int .i64 km, .int .i64 ko] 23)) := ((Below.refl _ w).alloc (by simp) _)
  replace cc := bK cc bA
  clear bA
  have ka0 : (w.alloc (.cells #[.int .i64 kk, .int .i64 ks, .int .i64 km, .int .i64 ko] 23)).cell? ⟨w.heap.size, 0, none⟩ = some (.int .i64 kk) := by simp [go_sem]
  have ka1 : (w.alloc (.cells #[.int .i64 kk, .int .i64 ks, .int .i64 km, .int .i64 ko] 23)).cell? ⟨w.heap.size, 1, none⟩ = some (.int .i64 ks) := by simp [go_sem]
  have ka2 : (w.alloc (.cells #[.int .i64 kk, .int .i64 ks, .int .i64 km, .int .i64 ko] 23)).cell? ⟨w.heap.size, 2, none⟩ = some (.int .i64 km) := by simp [go_sem]
  have ka3 : (w.alloc (.cells #[.int .i64 kk, .int .i64 ks, .int .i64 km, .int .i64 ko] 23)).cell? ⟨w.heap.size, 3, none⟩ = some (.int .i64 ko) := by simp [go_sem]
  have kal : w.heap.size < (w.alloc (.cells #[.int .i64 kk, .int .i64 ks, .int .i64 km, .int .i64 ko] 23)).heap.size := by simp <;> omega
  generalize w.alloc (.cells #[.int .i64 kk, .int .i64 ks, .int .i64 km, .int .i64 ko] 23) = v1 at *
  go_wp2_with fail
  refine (CM _).mono ?_
  rintro e w2 ⟨rfl, b⟩
  replace ka0 := cK b ka0 kal
  replace ka1 := cK b ka1 kal
  replace ka2 := cK b ka2 kal
  replace ka3 := cK b ka3 kal
  replace kal := lK b kal
  replace cc := bK cc b
  clear b
  go_wp2_with fail
  refine (alive14_any _).mono ?_
  rintro e w3 ⟨rfl, b⟩
  replace ka0 := cK b ka0 kal
  replace ka1 := cK b ka1 kal
  replace ka2 := cK b ka2 kal
  replace ka3 := cK b ka3 kal
  replace kal := lK b kal
  replace cc := bK cc b
  clear b
  go_wp2_with fail
  go_ret
  exact ⟨rfl, cc⟩

set_option maxRecDepth 100000 in
set_option maxHeartbeats 8000000 in
theorem TensJoined_rem {w : World} {kk ks km ko : Int} {A : Option Addr} {n c : Nat} {L : List Int} (hA : IR w A n c L) {B : Option Addr} {m d : Nat} {M : List Int} (hB : IR w B m d M) (bn : n ≤ 17592186044416) (bm : m ≤ 17592186044416) (h : n + m ≤ 24) (hK : OkK kk ks km ko) {r : Nat} (hr : (n : Int) % ks = (r : Int)) (h2 : 0 < r) :
    Calls Try.prog 5 #[.agg #[.int .i64 kk, .int .i64 ks, .int .i64 km, .int .i64 ko], .slice A n c, .slice B m d] w fun e w' => e = .returned (.bool true) ∧ Below w.heap.size w w' := by
  have k0_ : IntKind.i64.wrap ((n : Int) + (m : Int)) = (n : Int) + (m : Int) := IntWalk.i64_in _ (by omega)
  have t0 : decide ((24 : Int) < (n : Int) + (m : Int)) = false := decide_eq_false (by omega)
  have t1 : decide (24 < n + m) = false := decide_eq_false (by omega)
  have CM : ∀ V : World, Calls Try.prog 10 #[.agg #[.int .i64 kk, .int .i64 ks, .int .i64 km, .int .i64 ko]] V (GotV V (.bool true)) := fun V => by have h := rMay14_N V (kk := kk) (ks := ks) (km := km) (ko := ko); rw [decide_eq_true hK] at h; exact h
  have hks : 1 ≤ ks ∧ ks ≤ 4096 := by unfold OkK at hK; omega
  have k5 : (ks == 0) = false := beq_eq_false_iff_ne.2 (by omega)
  have k7 : ¬ ks = 0 := by omega
  have k3q : Int.tmod (n : Int) ks = (r : Int) := by rw [Int.tmod_eq_emod_of_nonneg (by omega)]; exact hr
  have k4q : IntKind.i64.wrap (r : Int) = (r : Int) := IntWalk.i64_in _ (by have := Int.emod_lt_of_pos (n : Int) (show 0 < ks by omega); omega)
  have k6q : IntKind.i64.wrap (Int.tmod (n : Int) ks) = (r : Int) := by rw [k3q]; exact k4q
  have t2 : ((r : Int) == 0) = false := beq_eq_false_iff_ne.2 (by omega)
  have t3 : ((r : Int) != 0) = true := by simp; omega
  clear hA hB bn bm h hK hr h2 hks
  have cc := Below.refl w.heap.size w
  go_enter Try.func5, Try.ntmps5
  go_wp2_with fail
  have bA : Below w.heap.size w (w.alloc (.cells #[.int .i64 kk, .int .i64 ks, .int .i64 km, .int .i64 ko] 23)) := ((Below.refl _ w).alloc (by simp) _)
  replace cc := bK cc bA
  clear bA
  have ka0 : (w.alloc (.cells #[.int .i64 kk, .int .i64 ks, .int .i64 km, .int .i64 ko] 23)).cell? ⟨w.heap.size, 0, none⟩ = some (.int .i64 kk) := by simp [go_sem]
  have ka1 : (w.alloc (.cells #[.int .i64 kk, .int .i64 ks, .int .i64 km, .int .i64 ko] 23)).cell? ⟨w.heap.size, 1, none⟩ = some (.int .i64 ks) := by simp [go_sem]
  have ka2 : (w.alloc (.cells #[.int .i64 kk, .int .i64 ks, .int .i64 km, .int .i64 ko] 23)).cell? ⟨w.heap.size, 2, none⟩ = some (.int .i64 km) := by simp [go_sem]
  have ka3 : (w.alloc (.cells #[.int .i64 kk, .int .i64 ks, .int .i64 km, .int .i64 ko] 23)).cell? ⟨w.heap.size, 3, none⟩ = some (.int .i64 ko) := by simp [go_sem]
  have kal : w.heap.size < (w.alloc (.cells #[.int .i64 kk, .int .i64 ks, .int .i64 km, .int .i64 ko] 23)).heap.size := by simp <;> omega
  generalize w.alloc (.cells #[.int .i64 kk, .int .i64 ks, .int .i64 km, .int .i64 ko] 23) = v1 at *
  go_wp2_with fail
  refine (CM _).mono ?_
  rintro e w2 ⟨rfl, b⟩
  replace ka0 := cK b ka0 kal
  replace ka1 := cK b ka1 kal
  replace ka2 := cK b ka2 kal
  replace ka3 := cK b ka3 kal
  replace kal := lK b kal
  replace cc := bK cc b
  clear b
  go_wp2_with fail
  refine (alive14_any _).mono ?_
  rintro e w3 ⟨rfl, b⟩
  replace ka0 := cK b ka0 kal
  replace ka1 := cK b ka1 kal
  replace ka2 := cK b ka2 kal
  replace ka3 := cK b ka3 kal
  replace kal := lK b kal
  replace cc := bK cc b
  clear b
  go_wp2_with fail
  go_ret
  exact ⟨rfl, cc⟩

set_option maxRecDepth 100000 in
set_option maxHeartbeats 8000000 in
theorem TensJoined_shA {w : World} {kk ks km ko : Int} {A : Option Addr} {n c : Nat} {L : List Int} (hA : IR w A n c L) {B : Option Addr} {m d : Nat} {M : List Int} (hB : IR w B m d M) (bn : n ≤ 17592186044416) (bm : m ≤ 17592186044416) (h : n + m ≤ 24) (hK : OkK kk ks km ko) {r : Nat} (hr : (n : Int) % ks = (r : Int)) (h2 : r = 0) (h3 : (n : Int) < km) :
    Calls Try.prog 5 #[.agg #[.int .i64 kk, .int .i64 ks, .int .i64 km, .int .i64 ko], .slice A n c, .slice B m d] w fun e w' => e = .returned (.bool true) ∧ Below w.heap.size w w' := by
  have k0_ : IntKind.i64.wrap ((n : Int) + (m : Int)) = (n : Int) + (m : Int) := IntWalk.i64_in _ (by omega)
  have t0 : decide ((24 : Int) < (n : Int) + (m : Int)) = false := decide_eq_false (by omega)
  have t1 : decide (24 < n + m) = false := decide_eq_false (by omega)
  have CM : ∀ V : World, Calls Try.prog 10 #[.agg #[.int .i64 kk, .int .i64 ks, .int .i64 km, .int .i64 ko]] V (GotV V (.bool true)) := fun V => by have h := rMay14_N V (kk := kk) (ks := ks) (km := km) (ko := ko); rw [decide_eq_true hK] at h; exact h
  have hks : 1 ≤ ks ∧ ks ≤ 4096 := by unfold OkK at hK; omega
  have k5 : (ks == 0) = false := beq_eq_false_iff_ne.2 (by omega)
  have k7 : ¬ ks = 0 := by omega
  have k3q : Int.tmod (n : Int) ks = (r : Int) := by rw [Int.tmod_eq_emod_of_nonneg (by omega)]; exact hr
  have k4q : IntKind.i64.wrap (r : Int) = (r : Int) := IntWalk.i64_in _ (by have := Int.emod_lt_of_pos (n : Int) (show 0 < ks by omega); omega)
  have k6q : IntKind.i64.wrap (Int.tmod (n : Int) ks) = (r : Int) := by rw [k3q]; exact k4q
  have t2 : ((r : Int) == 0) = true := beq_iff_eq.2 (by omega)
  have t3 : ((r : Int) != 0) = false := by simp; omega
  have t_n : decide ((n : Int) < km) = true := decide_eq_true (by omega)
  clear hA hB bn bm h hK hr h2 h3 hks
  have cc := Below.refl w.heap.size w
  go_enter Try.func5, Try.ntmps5
  go_wp2_with fail
  have bA : Below w.heap.size w (w.alloc (.cells #[.int .i64 kk, .int .i64 ks, .int .i64 km, .int .i64 ko] 23)) := ((Below.refl _ w).alloc (by simp) _)
  replace cc := bK cc bA
  clear bA
  have ka0 : (w.alloc (.cells #[.int .i64 kk, .int .i64 ks, .int .i64 km, .int .i64 ko] 23)).cell? ⟨w.heap.size, 0, none⟩ = some (.int .i64 kk) := by simp [go_sem]
  have ka1 : (w.alloc (.cells #[.int .i64 kk, .int .i64 ks, .int .i64 km, .int .i64 ko] 23)).cell? ⟨w.heap.size, 1, none⟩ = some (.int .i64 ks) := by simp [go_sem]
  have ka2 : (w.alloc (.cells #[.int .i64 kk, .int .i64 ks, .int .i64 km, .int .i64 ko] 23)).cell? ⟨w.heap.size, 2, none⟩ = some (.int .i64 km) := by simp [go_sem]
  have ka3 : (w.alloc (.cells #[.int .i64 kk, .int .i64 ks, .int .i64 km, .int .i64 ko] 23)).cell? ⟨w.heap.size, 3, none⟩ = some (.int .i64 ko) := by simp [go_sem]
  have kal : w.heap.size < (w.alloc (.cells #[.int .i64 kk, .int .i64 ks, .int .i64 km, .int .i64 ko] 23)).heap.size := by simp <;> omega
  generalize w.alloc (.cells #[.int .i64 kk, .int .i64 ks, .int .i64 km, .int .i64 ko] 23) = v1 at *
  go_wp2_with fail
  refine (CM _).mono ?_
  rintro e w2 ⟨rfl, b⟩
  replace ka0 := cK b ka0 kal
  replace ka1 := cK b ka1 kal
  replace ka2 := cK b ka2 kal
  replace ka3 := cK b ka3 kal
  replace kal := lK b kal
  replace cc := bK cc b
  clear b
  go_wp2_with fail
  refine (alive14_any _).mono ?_
  rintro e w3 ⟨rfl, b⟩
  replace ka0 := cK b ka0 kal
  replace ka1 := cK b ka1 kal
  replace ka2 := cK b ka2 kal
  replace ka3 := cK b ka3 kal
  replace kal := lK b kal
  replace cc := bK cc b
  clear b
  go_wp2_with fail
  go_ret
  exact ⟨rfl, cc⟩

set_option maxRecDepth 100000 in
set_option maxHeartbeats 8000000 in
theorem TensJoined_shB {w : World} {kk ks km ko : Int} {A : Option Addr} {n c : Nat} {L : List Int} (hA : IR w A n c L) {B : Option Addr} {m d : Nat} {M : List Int} (hB : IR w B m d M) (bn : n ≤ 17592186044416) (bm : m ≤ 17592186044416) (h : n + m ≤ 24) (hK : OkK kk ks km ko) {r : Nat} (hr : (n : Int) % ks = (r : Int)) (h2 : r = 0) (h3 : km ≤ (n : Int)) (h4 : (m : Int) < km) :
    Calls Try.prog 5 #[.agg #[.int .i64 kk, .int .i64 ks, .int .i64 km, .int .i64 ko], .slice A n c, .slice B m d] w fun e w' => e = .returned (.bool true) ∧ Below w.heap.size w w' := by
  have k0_ : IntKind.i64.wrap ((n : Int) + (m : Int)) = (n : Int) + (m : Int) := IntWalk.i64_in _ (by omega)
  have t0 : decide ((24 : Int) < (n : Int) + (m : Int)) = false := decide_eq_false (by omega)
  have t1 : decide (24 < n + m) = false := decide_eq_false (by omega)
  have CM : ∀ V : World, Calls Try.prog 10 #[.agg #[.int .i64 kk, .int .i64 ks, .int .i64 km, .int .i64 ko]] V (GotV V (.bool true)) := fun V => by have h := rMay14_N V (kk := kk) (ks := ks) (km := km) (ko := ko); rw [decide_eq_true hK] at h; exact h
  have hks : 1 ≤ ks ∧ ks ≤ 4096 := by unfold OkK at hK; omega
  have k5 : (ks == 0) = false := beq_eq_false_iff_ne.2 (by omega)
  have k7 : ¬ ks = 0 := by omega
  have k3q : Int.tmod (n : Int) ks = (r : Int) := by rw [Int.tmod_eq_emod_of_nonneg (by omega)]; exact hr
  have k4q : IntKind.i64.wrap (r : Int) = (r : Int) := IntWalk.i64_in _ (by have := Int.emod_lt_of_pos (n : Int) (show 0 < ks by omega); omega)
  have k6q : IntKind.i64.wrap (Int.tmod (n : Int) ks) = (r : Int) := by rw [k3q]; exact k4q
  have t2 : ((r : Int) == 0) = true := beq_iff_eq.2 (by omega)
  have t3 : ((r : Int) != 0) = false := by simp; omega
  have t_n : decide ((n : Int) < km) = false := decide_eq_false (by omega)
  have t_m : decide ((m : Int) < km) = true := decide_eq_true (by omega)
  clear hA hB bn bm h hK hr h2 h3 h4 hks
  have cc := Below.refl w.heap.size w
  go_enter Try.func5, Try.ntmps5
  go_wp2_with fail
  have bA : Below w.heap.size w (w.alloc (.cells #[.int .i64 kk, .int .i64 ks, .int .i64 km, .int .i64 ko] 23)) := ((Below.refl _ w).alloc (by simp) _)
  replace cc := bK cc bA
  clear bA
  have ka0 : (w.alloc (.cells #[.int .i64 kk, .int .i64 ks, .int .i64 km, .int .i64 ko] 23)).cell? ⟨w.heap.size, 0, none⟩ = some (.int .i64 kk) := by simp [go_sem]
  have ka1 : (w.alloc (.cells #[.int .i64 kk, .int .i64 ks, .int .i64 km, .int .i64 ko] 23)).cell? ⟨w.heap.size, 1, none⟩ = some (.int .i64 ks) := by simp [go_sem]
  have ka2 : (w.alloc (.cells #[.int .i64 kk, .int .i64 ks, .int .i64 km, .int .i64 ko] 23)).cell? ⟨w.heap.size, 2, none⟩ = some (.int .i64 km) := by simp [go_sem]
  have ka3 : (w.alloc (.cells #[.int .i64 kk, .int .i64 ks, .int .i64 km, .int .i64 ko] 23)).cell? ⟨w.heap.size, 3, none⟩ = some (.int .i64 ko) := by simp [go_sem]
  have kal : w.heap.size < (w.alloc (.cells #[.int .i64 kk, .int .i64 ks, .int .i64 km, .int .i64 ko] 23)).heap.size := by simp <;> omega
  generalize w.alloc (.cells #[.int .i64 kk, .int .i64 ks, .int .i64 km, .int .i64 ko] 23) = v1 at *
  go_wp2_with fail
  refine (CM _).mono ?_
  rintro e w2 ⟨rfl, b⟩
  replace ka0 := cK b ka0 kal
  replace ka1 := cK b ka1 kal
  replace ka2 := cK b ka2 kal
  replace ka3 := cK b ka3 kal
  replace kal := lK b kal
  replace cc := bK cc b
  clear b
  go_wp2_with fail
  refine (alive14_any _).mono ?_
  rintro e w3 ⟨rfl, b⟩
  replace ka0 := cK b ka0 kal
  replace ka1 := cK b ka1 kal
  replace ka2 := cK b ka2 kal
  replace ka3 := cK b ka3 kal
  replace kal := lK b kal
  replace cc := bK cc b
  clear b
  go_wp2_with fail
  go_ret
  exact ⟨rfl, cc⟩

end Go.Proofs.Ytpidpebgeblenaa
