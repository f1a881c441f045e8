/-
  The walk of DyadSums.
-/
import Derived.Test.YtchbhmcaalkfdaaB2
import Derived.Test.YtchbhmcaalkfdaaA2
namespace Go.Proofs.Ytchbhmcaalkfdaa
open Go.RowKit
set_option linter.unusedVariables false
set_option linter.unusedSimpArgs false

set_option maxRecDepth 100000 in
set_option maxHeartbeats 8000000 in
theorem DyadSums_no0 {w : World} {b0 : Bool} {A0 B0 : Option Addr} {n0 c0 m0 d0 : Nat} {b1 : Bool} {A1 B1 : Option Addr} {n1 c1 m1 d1 : Nat} {j : Int} (G0 : ∀ W : World, Below w.heap.size w W → Calls Try.prog 9 #[.agg #[.bool b0, .slice A0 n0 c0, .slice B0 m0 d0], .int .i64 3] W (GotV W (.bool false))) :
    Calls Try.prog 7 #[.agg #[.bool b0, .slice A0 n0 c0, .slice B0 m0 d0], .agg #[.bool b1, .slice A1 n1 c1, .slice B1 m1 d1], .int .i64 j] w fun e w' => e = .returned (.bool true) ∧ Below w.heap.size w w' := by
  have cc := Below.refl w.heap.size w
  go_enter Try.func7, Try.ntmps7
  go_wp2_with fail
  have bA : Below w.heap.size w ((w.alloc (.cells #[.bool b0, .slice A0 n0 c0, .slice B0 m0 d0] 27)).alloc (.cells #[.bool b1, .slice A1 n1 c1, .slice B1 m1 d1] 27)) := (((Below.refl _ w).alloc (by simp) _).alloc (by simp) _)
  replace cc := bK cc bA
  clear bA
  have pa0 : ((w.alloc (.cells #[.bool b0, .slice A0 n0 c0, .slice B0 m0 d0] 27)).alloc (.cells #[.bool b1, .slice A1 n1 c1, .slice B1 m1 d1] 27)).cell? ⟨w.heap.size, 0, none⟩ = some (.bool b0) := by simp [go_sem]
  have pa1 : ((w.alloc (.cells #[.bool b0, .slice A0 n0 c0, .slice B0 m0 d0] 27)).alloc (.cells #[.bool b1, .slice A1 n1 c1, .slice B1 m1 d1] 27)).cell? ⟨w.heap.size, 1, none⟩ = some (.slice A0 n0 c0) := by simp [go_sem]
  have pa2 : ((w.alloc (.cells #[.bool b0, .slice A0 n0 c0, .slice B0 m0 d0] 27)).alloc (.cells #[.bool b1, .slice A1 n1 c1, .slice B1 m1 d1] 27)).cell? ⟨w.heap.size, 2, none⟩ = some (.slice B0 m0 d0) := by simp [go_sem]
  have pal : w.heap.size < ((w.alloc (.cells #[.bool b0, .slice A0 n0 c0, .slice B0 m0 d0] 27)).alloc (.cells #[.bool b1, .slice A1 n1 c1, .slice B1 m1 d1] 27)).heap.size := by simp <;> omega
  have pb0 : ((w.alloc (.cells #[.bool b0, .slice A0 n0 c0, .slice B0 m0 d0] 27)).alloc (.cells #[.bool b1, .slice A1 n1 c1, .slice B1 m1 d1] 27)).cell? ⟨w.heap.size + 1, 0, none⟩ = some (.bool b1) := by simp [go_sem]
  have pb1 : ((w.alloc (.cells #[.bool b0, .slice A0 n0 c0, .slice B0 m0 d0] 27)).alloc (.cells #[.bool b1, .slice A1 n1 c1, .slice B1 m1 d1] 27)).cell? ⟨w.heap.size + 1, 1, none⟩ = some (.slice A1 n1 c1) := by simp [go_sem]
  have pb2 : ((w.alloc (.cells #[.bool b0, .slice A0 n0 c0, .slice B0 m0 d0] 27)).alloc (.cells #[.bool b1, .slice A1 n1 c1, .slice B1 m1 d1] 27)).cell? ⟨w.heap.size + 1, 2, none⟩ = some (.slice B1 m1 d1) := by simp [go_sem]
  have pbl : w.heap.size + 1 < ((w.alloc (.cells #[.bool b0, .slice A0 n0 c0, .slice B0 m0 d0] 27)).alloc (.cells #[.bool b1, .slice A1 n1 c1, .slice B1 m1 d1] 27)).heap.size := by simp <;> omega
  generalize (w.alloc (.cells #[.bool b0, .slice A0 n0 c0, .slice B0 m0 d0] 27)).alloc (.cells #[.bool b1, .slice A1 n1 c1, .slice B1 m1 d1] 27) = v1 at *
  refine (G0 _ cc).mono ?_
  rintro e w2 ⟨rfl, b⟩
  replace pa0 := cK b pa0 pal
  replace pa1 := cK b pa1 pal
  replace pa2 := cK b pa2 pal
  replace pal := lK b pal
  replace pb0 := cK b pb0 pbl
  replace pb1 := cK b pb1 pbl
  replace pb2 := cK b pb2 pbl
  replace pbl := lK b pbl
  replace cc := bK cc b
  clear b
  go_wp2_with fail
  refine (alive6_any _).mono ?_
  rintro e w3 ⟨rfl, b⟩
  replace pa0 := cK b pa0 pal
  replace pa1 := cK b pa1 pal
  replace pa2 := cK b pa2 pal
  replace pal := lK b pal
  replace pb0 := cK b pb0 pbl
  replace pb1 := cK b pb1 pbl
  replace pb2 := cK b pb2 pbl
  replace pbl := lK b pbl
  replace cc := bK cc b
  clear b
  go_wp2_with fail
  go_ret
  exact ⟨rfl, cc⟩

set_option maxRecDepth 100000 in
set_option maxHeartbeats 8000000 in
theorem DyadSums_no1 {w : World} {b0 : Bool} {A0 B0 : Option Addr} {n0 c0 m0 d0 : Nat} {b1 : Bool} {A1 B1 : Option Addr} {n1 c1 m1 d1 : Nat} {j : Int} (G0 : ∀ W : World, Below w.heap.size w W → Calls Try.prog 9 #[.agg #[.bool b0, .slice A0 n0 c0, .slice B0 m0 d0], .int .i64 3] W (GotV W (.bool true))) (G1 : ∀ W : World, Below w.heap.size w W → Calls Try.prog 9 #[.agg #[.bool b1, .slice A1 n1 c1, .slice B1 m1 d1], .int .i64 3] W (GotV W (.bool false))) :
    Calls Try.prog 7 #[.agg #[.bool b0, .slice A0 n0 c0, .slice B0 m0 d0], .agg #[.bool b1, .slice A1 n1 c1, .slice B1 m1 d1], .int .i64 j] w fun e w' => e = .returned (.bool true) ∧ Below w.heap.size w w' := by
  have cc := Below.refl w.heap.size w
  go_enter Try.func7, Try.ntmps7
  go_wp2_with fail
  have bA : Below w.heap.size w ((w.alloc (.cells #[.bool b0, .slice A0 n0 c0, .slice B0 m0 d0] 27)).alloc (.cells #[.bool b1, .slice A1 n1 c1, .slice B1 m1 d1] 27)) := (((Below.refl _ w).alloc (by simp) _).alloc (by simp) _)
  replace cc := bK cc bA
  clear bA
  have pa0 : ((w.alloc (.cells #[.bool b0, .slice A0 n0 c0, .slice B0 m0 d0] 27)).alloc (.cells #[.bool b1, .slice A1 n1 c1, .slice B1 m1 d1] 27)).cell? ⟨w.heap.size, 0, none⟩ = some (.bool b0) := by simp [go_sem]
  have pa1 : ((w.alloc (.cells #[.bool b0, .slice A0 n0 c0, .slice B0 m0 d0] 27)).alloc (.cells #[.bool b1, .slice A1 n1 c1, .slice B1 m1 d1] 27)).cell? ⟨w.heap.size, 1, none⟩ = some (.slice A0 n0 c0) := by simp [go_sem]
  have pa2 : ((w.alloc (.cells #[.bool b0, .slice A0 n0 c0, .slice B0 m0 d0] 27)).alloc (.cells #[.bool b1, .slice A1 n1 c1, .slice B1 m1 d1] 27)).cell? ⟨w.heap.size, 2, none⟩ = some (.slice B0 m0 d0) := by simp [go_sem]
  have pal : w.heap.size < ((w.alloc (.cells #[.bool b0, .slice A0 n0 c0, .slice B0 m0 d0] 27)).alloc (.cells #[.bool b1, .slice A1 n1 c1, .slice B1 m1 d1] 27)).heap.size := by simp <;> omega
  have pb0 : ((w.alloc (.cells #[.bool b0, .slice A0 n0 c0, .slice B0 m0 d0] 27)).alloc (.cells #[.bool b1, .slice A1 n1 c1, .slice B1 m1 d1] 27)).cell? ⟨w.heap.size + 1, 0, none⟩ = some (.bool b1) := by simp [go_sem]
  have pb1 : ((w.alloc (.cells #[.bool b0, .slice A0 n0 c0, .slice B0 m0 d0] 27)).alloc (.cells #[.bool b1, .slice A1 n1 c1, .slice B1 m1 d1] 27)).cell? ⟨w.heap.size + 1, 1, none⟩ = some (.slice A1 n1 c1) := by simp [go_sem]
  have pb2 : ((w.alloc (.cells #[.bool b0, .slice A0 n0 c0, .slice B0 m0 d0] 27)).alloc (.cells #[.bool b1, .slice A1 n1 c1, .slice B1 m1 d1] 27)).cell? ⟨w.heap.size + 1, 2, none⟩ = some (.slice B1 m1 d1) := by simp [go_sem]
  have pbl : w.heap.size + 1 < ((w.alloc (.cells #[.bool b0, .slice A0 n0 c0, .slice B0 m0 d0] 27)).alloc (.cells #[.bool b1, .slice A1 n1 c1, .slice B1 m1 d1] 27)).heap.size := by simp <;> omega
  generalize (w.alloc (.cells #[.bool b0, .slice A0 n0 c0, .slice B0 m0 d0] 27)).alloc (.cells #[.bool b1, .slice A1 n1 c1, .slice B1 m1 d1] 27) = v1 at *
  refine (G0 _ cc).mono ?_
  rintro e w2 ⟨rfl, b⟩
  replace pa0 := cK b pa0 pal
  replace pa1 := cK b pa1 pal
  replace pa2 := cK b pa2 pal
  replace pal := lK b pal
  replace pb0 := cK b pb0 pbl
  replace pb1 := cK b pb1 pbl
  replace pb2 := cK b pb2 pbl
  replace pbl := lK b pbl
  replace cc := bK cc b
  clear b
  go_wp2_with fail
  refine (G1 _ cc).mono ?_
  rintro e w3 ⟨rfl, b⟩
  replace pa0 := cK b pa0 pal
  replace pa1 := cK b pa1 pal
  replace pa2 := cK b pa2 pal
  replace pal := lK b pal
  replace pb0 := cK b pb0 pbl
  replace pb1 := cK b pb1 pbl
  replace pb2 := cK b pb2 pbl
  replace pbl := lK b pbl
  replace cc := bK cc b
  clear b
  go_wp2_with fail
  refine (alive6_any _).mono ?_
  rintro e w4 ⟨rfl, b⟩
  replace pa0 := cK b pa0 pal
  replace pa1 := cK b pa1 pal
  replace pa2 := cK b pa2 pal
  replace pal := lK b pal
  replace pb0 := cK b pb0 pbl
  replace pb1 := cK b pb1 pbl
  replace pb2 := cK b pb2 pbl
  replace pbl := lK b pbl
  replace cc := bK cc b
  clear b
  go_wp2_with fail
  go_ret
  exact ⟨rfl, cc⟩

set_option maxRecDepth 100000 in
set_option maxHeartbeats 8000000 in
theorem DyadSums_no2 {w : World} {b0 : Bool} {A0 B0 : Option Addr} {n0 c0 m0 d0 : Nat} {b1 : Bool} {A1 B1 : Option Addr} {n1 c1 m1 d1 : Nat} {j : Int} (G0 : ∀ W : World, Below w.heap.size w W → Calls Try.prog 9 #[.agg #[.bool b0, .slice A0 n0 c0, .slice B0 m0 d0], .int .i64 3] W (GotV W (.bool true))) (G1 : ∀ W : World, Below w.heap.size w W → Calls Try.prog 9 #[.agg #[.bool b1, .slice A1 n1 c1, .slice B1 m1 d1], .int .i64 3] W (GotV W (.bool true))) (h : j < 0) :
    Calls Try.prog 7 #[.agg #[.bool b0, .slice A0 n0 c0, .slice B0 m0 d0], .agg #[.bool b1, .slice A1 n1 c1, .slice B1 m1 d1], .int .i64 j] w fun e w' => e = .returned (.bool true) ∧ Below w.heap.size w w' := by
  have t1 : decide (j < 0) = true := decide_eq_true h
  have cc := Below.refl w.heap.size w
  go_enter Try.func7, Try.ntmps7
  go_wp2_with fail
  have bA : Below w.heap.size w ((w.alloc (.cells #[.bool b0, .slice A0 n0 c0, .slice B0 m0 d0] 27)).alloc (.cells #[.bool b1, .slice A1 n1 c1, .slice B1 m1 d1] 27)) := (((Below.refl _ w).alloc (by simp) _).alloc (by simp) _)
  replace cc := bK cc bA
  clear bA
  have pa0 : ((w.alloc (.cells #[.bool b0, .slice A0 n0 c0, .slice B0 m0 d0] 27)).alloc (.cells #[.bool b1, .slice A1 n1 c1, .slice B1 m1 d1] 27)).cell? ⟨w.heap.size, 0, none⟩ = some (.bool b0) := by simp [go_sem]
  have pa1 : ((w.alloc (.cells #[.bool b0, .slice A0 n0 c0, .slice B0 m0 d0] 27)).alloc (.cells #[.bool b1, .slice A1 n1 c1, .slice B1 m1 d1] 27)).cell? ⟨w.heap.size, 1, none⟩ = some (.slice A0 n0 c0) := by simp [go_sem]
  have pa2 : ((w.alloc (.cells #[.bool b0, .slice A0 n0 c0, .slice B0 m0 d0] 27)).alloc (.cells #[.bool b1, .slice A1 n1 c1, .slice B1 m1 d1] 27)).cell? ⟨w.heap.size, 2, none⟩ = some (.slice B0 m0 d0) := by simp [go_sem]
  have pal : w.heap.size < ((w.alloc (.cells #[.bool b0, .slice A0 n0 c0, .slice B0 m0 d0] 27)).alloc (.cells #[.bool b1, .slice A1 n1 c1, .slice B1 m1 d1] 27)).heap.size := by simp <;> omega
  have pb0 : ((w.alloc (.cells #[.bool b0, .slice A0 n0 c0, .slice B0 m0 d0] 27)).alloc (.cells #[.bool b1, .slice A1 n1 c1, .slice B1 m1 d1] 27)).cell? ⟨w.heap.size + 1, 0, none⟩ = some (.bool b1) := by simp [go_sem]
  have pb1 : ((w.alloc (.cells #[.bool b0, .slice A0 n0 c0, .slice B0 m0 d0] 27)).alloc (.cells #[.bool b1, .slice A1 n1 c1, .slice B1 m1 d1] 27)).cell? ⟨w.heap.size + 1, 1, none⟩ = some (.slice A1 n1 c1) := by simp [go_sem]
  have pb2 : ((w.alloc (.cells #[.bool b0, .slice A0 n0 c0, .slice B0 m0 d0] 27)).alloc (.cells #[.bool b1, .slice A1 n1 c1, .slice B1 m1 d1] 27)).cell? ⟨w.heap.size + 1, 2, none⟩ = some (.slice B1 m1 d1) := by simp [go_sem]
  have pbl : w.heap.size + 1 < ((w.alloc (.cells #[.bool b0, .slice A0 n0 c0, .slice B0 m0 d0] 27)).alloc (.cells #[.bool b1, .slice A1 n1 c1, .slice B1 m1 d1] 27)).heap.size := by simp <;> omega
  generalize (w.alloc (.cells #[.bool b0, .slice A0 n0 c0, .slice B0 m0 d0] 27)).alloc (.cells #[.bool b1, .slice A1 n1 c1, .slice B1 m1 d1] 27) = v1 at *
  refine (G0 _ cc).mono ?_
  rintro e w2 ⟨rfl, b⟩
  replace pa0 := cK b pa0 pal
  replace pa1 := cK b pa1 pal
  replace pa2 := cK b pa2 pal
  replace pal := lK b pal
  replace pb0 := cK b pb0 pbl
  replace pb1 := cK b pb1 pbl
  replace pb2 := cK b pb2 pbl
  replace pbl := lK b pbl
  replace cc := bK cc b
  clear b
  go_wp2_with fail
  refine (G1 _ cc).mono ?_
  rintro e w3 ⟨rfl, b⟩
  replace pa0 := cK b pa0 pal
  replace pa1 := cK b pa1 pal
  replace pa2 := cK b pa2 pal
  replace pal := lK b pal
  replace pb0 := cK b pb0 pbl
  replace pb1 := cK b pb1 pbl
  replace pb2 := cK b pb2 pbl
  replace pbl := lK b pbl
  replace cc := bK cc b
  clear b
  go_wp2_with fail
  refine (alive6_any _).mono ?_
  rintro e w4 ⟨rfl, b⟩
  replace pa0 := cK b pa0 pal
  replace pa1 := cK b pa1 pal
  replace pa2 := cK b pa2 pal
  replace pal := lK b pal
  replace pb0 := cK b pb0 pbl
  replace pb1 := cK b pb1 pbl
  replace pb2 := cK b pb2 pbl
  replace pbl := lK b pbl
  replace cc := bK cc b
  clear b
  go_wp2_with fail
  go_ret
  exact ⟨rfl, cc⟩

set_option maxRecDepth 100000 in
set_option maxHeartbeats 8000000 in
theorem DyadSums_no3 {w : World} {b0 : Bool} {A0 B0 : Option Addr} {n0 c0 m0 d0 : Nat} {b1 : Bool} {A1 B1 : Option Addr} {n1 c1 m1 d1 : Nat} {j : Int} (G0 : ∀ W : World, Below w.heap.size w W → Calls Try.prog 9 #[.agg #[.bool b0, .slice A0 n0 c0, .slice B0 m0 d0], .int .i64 3] W (GotV W (.bool true))) (G1 : ∀ W : World, Below w.heap.size w W → Calls Try.prog 9 #[.agg #[.bool b1, .slice A1 n1 c1, .slice B1 m1 d1], .int .i64 3] W (GotV W (.bool true))) (h : 400 < j) :
    Calls Try.prog 7 #[.agg #[.bool b0, .slice A0 n0 c0, .slice B0 m0 d0], .agg #[.bool b1, .slice A1 n1 c1, .slice B1 m1 d1], .int .i64 j] w fun e w' => e = .returned (.bool true) ∧ Below w.heap.size w w' := by
  have t1 : decide (j < 0) = false := decide_eq_false (by omega)
  have t2 : decide (400 < j) = true := decide_eq_true h
  have cc := Below.refl w.heap.size w
  go_enter Try.func7, Try.ntmps7
  go_wp2_with fail
  have bA : Below w.heap.size w ((w.alloc (.cells #[.bool b0, .slice A0 n0 c0, .slice B0 m0 d0] 27)).alloc (.cells #[.bool b1, .slice A1 n1 c1, .slice B1 m1 d1] 27)) := (((Below.refl _ w).alloc (by simp) _).alloc (by simp) _)
  replace cc := bK cc bA
  clear bA
  have pa0 : ((w.alloc (.cells #[.bool b0, .slice A0 n0 c0, .slice B0 m0 d0] 27)).alloc (.cells #[.bool b1, .slice A1 n1 c1, .slice B1 m1 d1] 27)).cell? ⟨w.heap.size, 0, none⟩ = some (.bool b0) := by simp [go_sem]
  have pa1 : ((w.alloc (.cells #[.bool b0, .slice A0 n0 c0, .slice B0 m0 d0] 27)).alloc (.cells #[.bool b1, .slice A1 n1 c1, .slice B1 m1 d1] 27)).cell? ⟨w.heap.size, 1, none⟩ = some (.slice A0 n0 c0) := by simp [go_sem]
  have pa2 : ((w.alloc (.cells #[.bool b0, .slice A0 n0 c0, .slice B0 m0 d0] 27)).alloc (.cells #[.bool b1, .slice A1 n1 c1, .slice B1 m1 d1] 27)).cell? ⟨w.heap.size, 2, none⟩ = some (.slice B0 m0 d0) := by simp [go_sem]
  have pal : w.heap.size < ((w.alloc (.cells #[.bool b0, .slice A0 n0 c0, .slice B0 m0 d0] 27)).alloc (.cells #[.bool b1, .slice A1 n1 c1, .slice B1 m1 d1] 27)).heap.size := by simp <;> omega
  have pb0 : ((w.alloc (.cells #[.bool b0, .slice A0 n0 c0, .slice B0 m0 d0] 27)).alloc (.cells #[.bool b1, .slice A1 n1 c1, .slice B1 m1 d1] 27)).cell? ⟨w.heap.size + 1, 0, none⟩ = some (.bool b1) := by simp [go_sem]
  have pb1 : ((w.alloc (.cells #[.bool b0, .slice A0 n0 c0, .slice B0 m0 d0] 27)).alloc (.cells #[.bool b1, .slice A1 n1 c1, .slice B1 m1 d1] 27)).cell? ⟨w.heap.size + 1, 1, none⟩ = some (.slice A1 n1 c1) := by simp [go_sem]
  have pb2 : ((w.alloc (.cells #[.bool b0, .slice A0 n0 c0, .slice B0 m0 d0] 27)).alloc (.cells #[.bool b1, .slice A1 n1 c1, .slice B1 m1 d1] 27)).cell? ⟨w.heap.size + 1, 2, none⟩ = some (.slice B1 m1 d1) := by simp [go_sem]
  have pbl : w.heap.size + 1 < ((w.alloc (.cells #[.bool b0, .slice A0 n0 c0, .slice B0 m0 d0] 27)).alloc (.cells #[.bool b1, .slice A1 n1 c1, .slice B1 m1 d1] 27)).heap.size := by simp <;> omega
  generalize (w.alloc (.cells #[.bool b0, .slice A0 n0 c0, .slice B0 m0 d0] 27)).alloc (.cells #[.bool b1, .slice A1 n1 c1, .slice B1 m1 d1] 27) = v1 at *
  refine (G0 _ cc).mono ?_
  rintro e w2 ⟨rfl, b⟩
  replace pa0 := cK b pa0 pal
  replace pa1 := cK b pa1 pal
  replace pa2 := cK b pa2 pal
  replace pal := lK b pal
  replace pb0 := cK b pb0 pbl
  replace pb1 := cK b pb1 pbl
  replace pb2 := cK b pb2 pbl
  replace pbl := lK b pbl
  replace cc := bK cc b
  clear b
  go_wp2_with fail
  refine (G1 _ cc).mono ?_
  rintro e w3 ⟨rfl, b⟩
  replace pa0 := cK b pa0 pal
  replace pa1 := cK b pa1 pal
  replace pa2 := cK b pa2 pal
  replace pal := lK b pal
  replace pb0 := cK b pb0 pbl
  replace pb1 := cK b pb1 pbl
  replace pb2 := cK b pb2 pbl
  replace pbl := lK b pbl
  replace cc := bK cc b
  clear b
  go_wp2_with fail
  refine (alive6_any _).mono ?_
  rintro e w4 ⟨rfl, b⟩
  replace pa0 := cK b pa0 pal
  replace pa1 := cK b pa1 pal
  replace pa2 := cK b pa2 pal
  replace pal := lK b pal
  replace pb0 := cK b pb0 pbl
  replace pb1 := cK b pb1 pbl
  replace pb2 := cK b pb2 pbl
  replace pbl := lK b pbl
  replace cc := bK cc b
  clear b
  go_wp2_with fail
  go_ret
  exact ⟨rfl, cc⟩

set_option maxRecDepth 100000 in
set_option maxHeartbeats 8000000 in
theorem DyadSums_ok {w : World} {b0 : Bool} {A0 B0 : Option Addr} {n0 c0 m0 d0 : Nat} {b1 : Bool} {A1 B1 : Option Addr} {n1 c1 m1 d1 : Nat} {j : Int} {x0 : Rat} (h0 : Rt w b0 A0 n0 c0 B0 m0 d0 x0) (s0 : Sz x0 3) {x1 : Rat} (h1 : Rt w b1 A1 n1 c1 B1 m1 d1 x1) (s1 : Sz x1 3) (G0 : ∀ W : World, Below w.heap.size w W → Calls Try.prog 9 #[.agg #[.bool b0, .slice A0 n0 c0, .slice B0 m0 d0], .int .i64 3] W (GotV W (.bool true))) (G1 : ∀ W : World, Below w.heap.size w W → Calls Try.prog 9 #[.agg #[.bool b1, .slice A1 n1 c1, .slice B1 m1 d1], .int .i64 3] W (GotV W (.bool true))) (j0 : 0 ≤ j) (j1 : j ≤ 400) :
    Calls Try.prog 7 #[.agg #[.bool b0, .slice A0 n0 c0, .slice B0 m0 d0], .agg #[.bool b1, .slice A1 n1 c1, .slice B1 m1 d1], .int .i64 j] w fun e w' => e = .returned (.bool true) ∧ Below w.heap.size w w' := by
  have t1 : decide (j < 0) = false := decide_eq_false (by omega)
  have t2 : decide (400 < j) = false := decide_eq_false (by omega)
  have jl : j.toNat ≤ 500 := by omega
  have lx := flo_len s0 jl
  have ly := flo_len s1 jl
  have s01 := s0.add s1
  have lb := flo_len s01 jl
  obtain ⟨hA, hB⟩ := flo_add x0 x1 j.toNat
  have hS := flo_shift x0 (flo x1 j.toNat) j.toNat
  obtain ⟨fx, e1⟩ : ∃ v, flo x0 j.toNat = v := ⟨_, rfl⟩
  obtain ⟨fy, e2⟩ : ∃ v, flo x1 j.toNat = v := ⟨_, rfl⟩
  obtain ⟨fb, e3⟩ : ∃ v, flo (x0 + x1) j.toNat = v := ⟨_, rfl⟩
  rw [e1] at lx
  rw [e2] at ly
  rw [e3] at lb
  rw [e1, e2, e3] at hA hB
  rw [e1, e2] at hS
  have so : Sz (bak fy j.toNat) 12 := bak_sz ly (by omega) jl
  obtain ⟨on, e4⟩ : ∃ v, bak fy j.toNat = v := ⟨_, rfl⟩
  rw [e4] at so hS
  have sx := s0.add so
  have CX : ∀ {W : World} {b : Bool} {A B : Option Addr} {n c m d : Nat}, Rt W b A n c B m d x0 → Calls Try.prog 12 #[.agg #[.bool b, .slice A n c, .slice B m d], .int .i64 j] W (GotZp W fx 0) := fun hh => by rw [← e1]; exact dfloor_N hh (s0.le (by omega)) (by omega) (by omega)
  have CY : ∀ {W : World} {b : Bool} {A B : Option Addr} {n c m d : Nat}, Rt W b A n c B m d x1 → Calls Try.prog 12 #[.agg #[.bool b, .slice A n c, .slice B m d], .int .i64 j] W (GotZp W fy 0) := fun hh => by rw [← e2]; exact dfloor_N hh (s1.le (by omega)) (by omega) (by omega)
  have CS : ∀ {W : World} {b : Bool} {A B : Option Addr} {n c m d : Nat}, Rt W b A n c B m d (x0 + x1) → Calls Try.prog 12 #[.agg #[.bool b, .slice A n c, .slice B m d], .int .i64 j] W (GotZp W fb 0) := fun hh => by rw [← e3]; exact dfloor_N hh (s01.le (by omega)) (by omega) (by omega)
  have CO : ∀ {W : World} {b : Bool} {A : Option Addr} {n c : Nat}, Zn W b A n c fy → Calls Try.prog 19 #[.agg #[.bool b, .slice A n c], .int .i64 j] W (GotRp W on 0) := fun hh => by rw [← e4]; exact rback_N hh (by omega) (by omega) (by omega)
  have CT : ∀ {W : World} {b : Bool} {A B : Option Addr} {n c m d : Nat}, Rt W b A n c B m d (x0 + on) → Calls Try.prog 12 #[.agg #[.bool b, .slice A n c, .slice B m d], .int .i64 j] W (GotZp W (fx + fy) 0) := fun hh => by rw [← hS]; exact dfloor_N hh (sx.le (by omega)) (by omega) (by omega)
  obtain ⟨c1_, e5⟩ : ∃ c, cmpZ (fx + fy) fb = c := ⟨_, rfl⟩
  obtain ⟨c2_, e6⟩ : ∃ c, cmpZ fb (fx + fy + 1) = c := ⟨_, rfl⟩
  have t3 : decide (c1_ ≤ 0) = true := decide_eq_true (by rw [← e5]; exact cmpZ_le.2 hA)
  have t4 : decide (c2_ ≤ 0) = true := decide_eq_true (by rw [← e6]; exact cmpZ_le.2 hB)
  have E5 := Lib.hid e5
  have E6 := Lib.hid e6
  have ione : I64 1 := by unfold I64; omega
  have lo1 : (limbs (1 : Int).natAbs).length ≤ 1 := len_one (by decide)
  have lsum : (limbs (fx + fy).natAbs).length ≤ 13 := zlen_add lx ly
  have lm : (limbs (fx + fy + 1).natAbs).length ≤ 14 := zlen_add lsum (Nat.le_trans lo1 (by omega))
  clear e1 e2 e3 e4 e5 e6 hA hB hS
  have cc := Below.refl w.heap.size w
  go_enter Try.func7, Try.ntmps7
  go_wp2_with fail
  have bA : Below w.heap.size w ((w.alloc (.cells #[.bool b0, .slice A0 n0 c0, .slice B0 m0 d0] 27)).alloc (.cells #[.bool b1, .slice A1 n1 c1, .slice B1 m1 d1] 27)) := (((Below.refl _ w).alloc (by simp) _).alloc (by simp) _)
  replace h0 := h0.on bA
  replace h1 := h1.on bA
  replace cc := bK cc bA
  clear bA
  have pa0 : ((w.alloc (.cells #[.bool b0, .slice A0 n0 c0, .slice B0 m0 d0] 27)).alloc (.cells #[.bool b1, .slice A1 n1 c1, .slice B1 m1 d1] 27)).cell? ⟨w.heap.size, 0, none⟩ = some (.bool b0) := by simp [go_sem]
  have pa1 : ((w.alloc (.cells #[.bool b0, .slice A0 n0 c0, .slice B0 m0 d0] 27)).alloc (.cells #[.bool b1, .slice A1 n1 c1, .slice B1 m1 d1] 27)).cell? ⟨w.heap.size, 1, none⟩ = some (.slice A0 n0 c0) := by simp [go_sem]
  have pa2 : ((w.alloc (.cells #[.bool b0, .slice A0 n0 c0, .slice B0 m0 d0] 27)).alloc (.cells #[.bool b1, .slice A1 n1 c1, .slice B1 m1 d1] 27)).cell? ⟨w.heap.size, 2, none⟩ = some (.slice B0 m0 d0) := by simp [go_sem]
  have pal : w.heap.size < ((w.alloc (.cells #[.bool b0, .slice A0 n0 c0, .slice B0 m0 d0] 27)).alloc (.cells #[.bool b1, .slice A1 n1 c1, .slice B1 m1 d1] 27)).heap.size := by simp <;> omega
  have pb0 : ((w.alloc (.cells #[.bool b0, .slice A0 n0 c0, .slice B0 m0 d0] 27)).alloc (.cells #[.bool b1, .slice A1 n1 c1, .slice B1 m1 d1] 27)).cell? ⟨w.heap.size + 1, 0, none⟩ = some (.bool b1) := by simp [go_sem]
  have pb1 : ((w.alloc (.cells #[.bool b0, .slice A0 n0 c0, .slice B0 m0 d0] 27)).alloc (.cells #[.bool b1, .slice A1 n1 c1, .slice B1 m1 d1] 27)).cell? ⟨w.heap.size + 1, 1, none⟩ = some (.slice A1 n1 c1) := by simp [go_sem]
  have pb2 : ((w.alloc (.cells #[.bool b0, .slice A0 n0 c0, .slice B0 m0 d0] 27)).alloc (.cells #[.bool b1, .slice A1 n1 c1, .slice B1 m1 d1] 27)).cell? ⟨w.heap.size + 1, 2, none⟩ = some (.slice B1 m1 d1) := by simp [go_sem]
  have pbl : w.heap.size + 1 < ((w.alloc (.cells #[.bool b0, .slice A0 n0 c0, .slice B0 m0 d0] 27)).alloc (.cells #[.bool b1, .slice A1 n1 c1, .slice B1 m1 d1] 27)).heap.size := by simp <;> omega
  generalize (w.alloc (.cells #[.bool b0, .slice A0 n0 c0, .slice B0 m0 d0] 27)).alloc (.cells #[.bool b1, .slice A1 n1 c1, .slice B1 m1 d1] 27) = v1 at *
  refine (G0 _ cc).mono ?_
  rintro e w2 ⟨rfl, b⟩
  replace h0 := h0.on b
  replace h1 := h1.on b
  replace pa0 := cK b pa0 pal
  replace pa1 := cK b pa1 pal
  replace pa2 := cK b pa2 pal
  replace pal := lK b pal
  replace pb0 := cK b pb0 pbl
  replace pb1 := cK b pb1 pbl
  replace pb2 := cK b pb2 pbl
  replace pbl := lK b pbl
  replace cc := bK cc b
  clear b
  go_wp2_with fail
  refine (G1 _ cc).mono ?_
  rintro e w3 ⟨rfl, b⟩
  replace h0 := h0.on b
  replace h1 := h1.on b
  replace pa0 := cK b pa0 pal
  replace pa1 := cK b pa1 pal
  replace pa2 := cK b pa2 pal
  replace pal := lK b pal
  replace pb0 := cK b pb0 pbl
  replace pb1 := cK b pb1 pbl
  replace pb2 := cK b pb2 pbl
  replace pbl := lK b pbl
  replace cc := bK cc b
  clear b
  go_wp2_with fail
  refine (CX h0).mono ?_
  rintro e w4 ⟨bx, Ax, nx, cx, rfl, hx, b⟩
  replace h0 := h0.on b
  replace h1 := h1.on b
  replace pa0 := cK b pa0 pal
  replace pa1 := cK b pa1 pal
  replace pa2 := cK b pa2 pal
  replace pal := lK b pal
  replace pb0 := cK b pb0 pbl
  replace pb1 := cK b pb1 pbl
  replace pb2 := cK b pb2 pbl
  replace pbl := lK b pbl
  replace cc := bK cc b
  clear b
  go_wp2_with fail
  have bA := below_one w4 (.cells #[.bool bx, .slice Ax nx cx] 25)
  replace h0 := h0.on bA
  replace h1 := h1.on bA
  replace hx := hx.on bA
  replace pa0 := cK bA pa0 pal
  replace pa1 := cK bA pa1 pal
  replace pa2 := cK bA pa2 pal
  replace pal := lK bA pal
  replace pb0 := cK bA pb0 pbl
  replace pb1 := cK bA pb1 pbl
  replace pb2 := cK bA pb2 pbl
  replace pbl := lK bA pbl
  replace cc := bK cc bA
  clear bA
  have x0 : (w4.alloc (.cells #[.bool bx, .slice Ax nx cx] 25)).cell? ⟨w4.heap.size, 0, none⟩ = some (.bool bx) := by simp [go_sem]
  have x1 : (w4.alloc (.cells #[.bool bx, .slice Ax nx cx] 25)).cell? ⟨w4.heap.size, 1, none⟩ = some (.slice Ax nx cx) := by simp [go_sem]
  have xl : w4.heap.size < (w4.alloc (.cells #[.bool bx, .slice Ax nx cx] 25)).heap.size := by simp
  generalize w4.alloc (.cells #[.bool bx, .slice Ax nx cx] 25) = v5 at *
  refine (CY h1).mono ?_
  rintro e w6 ⟨bi, Ai, ni, ci, rfl, hi, b⟩
  replace h0 := h0.on b
  replace h1 := h1.on b
  replace hx := hx.on b
  replace pa0 := cK b pa0 pal
  replace pa1 := cK b pa1 pal
  replace pa2 := cK b pa2 pal
  replace pal := lK b pal
  replace pb0 := cK b pb0 pbl
  replace pb1 := cK b pb1 pbl
  replace pb2 := cK b pb2 pbl
  replace pbl := lK b pbl
  replace x0 := cK b x0 xl
  replace x1 := cK b x1 xl
  replace xl := lK b xl
  replace cc := bK cc b
  clear b
  go_wp2_with fail
  have bA := below_one w6 (.cells #[.bool bi, .slice Ai ni ci] 25)
  replace h0 := h0.on bA
  replace h1 := h1.on bA
  replace hx := hx.on bA
  replace hi := hi.on bA
  replace pa0 := cK bA pa0 pal
  replace pa1 := cK bA pa1 pal
  replace pa2 := cK bA pa2 pal
  replace pal := lK bA pal
  replace pb0 := cK bA pb0 pbl
  replace pb1 := cK bA pb1 pbl
  replace pb2 := cK bA pb2 pbl
  replace pbl := lK bA pbl
  replace x0 := cK bA x0 xl
  replace x1 := cK bA x1 xl
  replace xl := lK bA xl
  replace cc := bK cc bA
  clear bA
  have i0 : (w6.alloc (.cells #[.bool bi, .slice Ai ni ci] 25)).cell? ⟨w6.heap.size, 0, none⟩ = some (.bool bi) := by simp [go_sem]
  have i1 : (w6.alloc (.cells #[.bool bi, .slice Ai ni ci] 25)).cell? ⟨w6.heap.size, 1, none⟩ = some (.slice Ai ni ci) := by simp [go_sem]
  have il : w6.heap.size < (w6.alloc (.cells #[.bool bi, .slice Ai ni ci] 25)).heap.size := by simp
  generalize w6.alloc (.cells #[.bool bi, .slice Ai ni ci] 25) = v7 at *
  refine (rtadd_N h0 (s0.le (by omega)) h1 (s1.le (by omega))).mono ?_
  rintro e w8 ⟨bs, As, ns, cs, Bs, ms, ds, rfl, hs, b⟩
  replace h0 := h0.on b
  replace h1 := h1.on b
  replace hx := hx.on b
  replace hi := hi.on b
  replace pa0 := cK b pa0 pal
  replace pa1 := cK b pa1 pal
  replace pa2 := cK b pa2 pal
  replace pal := lK b pal
  replace pb0 := cK b pb0 pbl
  replace pb1 := cK b pb1 pbl
  replace pb2 := cK b pb2 pbl
  replace pbl := lK b pbl
  replace x0 := cK b x0 xl
  replace x1 := cK b x1 xl
  replace xl := lK b xl
  replace i0 := cK b i0 il
  replace i1 := cK b i1 il
  replace il := lK b il
  replace cc := bK cc b
  clear b
  go_wp2_with fail
  refine (CS hs).mono ?_
  rintro e w9 ⟨bq, Aq, nq, cq, rfl, hq, b⟩
  replace h0 := h0.on b
  replace h1 := h1.on b
  replace hx := hx.on b
  replace hi := hi.on b
  replace hs := hs.on b
  replace pa0 := cK b pa0 pal
  replace pa1 := cK b pa1 pal
  replace pa2 := cK b pa2 pal
  replace pal := lK b pal
  replace pb0 := cK b pb0 pbl
  replace pb1 := cK b pb1 pbl
  replace pb2 := cK b pb2 pbl
  replace pbl := lK b pbl
  replace x0 := cK b x0 xl
  replace x1 := cK b x1 xl
  replace xl := lK b xl
  replace i0 := cK b i0 il
  replace i1 := cK b i1 il
  replace il := lK b il
  replace cc := bK cc b
  clear b
  go_wp2_with fail
  have bA := below_one w9 (.cells #[.bool bq, .slice Aq nq cq] 25)
  replace h0 := h0.on bA
  replace h1 := h1.on bA
  replace hx := hx.on bA
  replace hi := hi.on bA
  replace hs := hs.on bA
  replace hq := hq.on bA
  replace pa0 := cK bA pa0 pal
  replace pa1 := cK bA pa1 pal
  replace pa2 := cK bA pa2 pal
  replace pal := lK bA pal
  replace pb0 := cK bA pb0 pbl
  replace pb1 := cK bA pb1 pbl
  replace pb2 := cK bA pb2 pbl
  replace pbl := lK bA pbl
  replace x0 := cK bA x0 xl
  replace x1 := cK bA x1 xl
  replace xl := lK bA xl
  replace i0 := cK bA i0 il
  replace i1 := cK bA i1 il
  replace il := lK bA il
  replace cc := bK cc bA
  clear bA
  have q0 : (w9.alloc (.cells #[.bool bq, .slice Aq nq cq] 25)).cell? ⟨w9.heap.size, 0, none⟩ = some (.bool bq) := by simp [go_sem]
  have q1 : (w9.alloc (.cells #[.bool bq, .slice Aq nq cq] 25)).cell? ⟨w9.heap.size, 1, none⟩ = some (.slice Aq nq cq) := by simp [go_sem]
  have ql : w9.heap.size < (w9.alloc (.cells #[.bool bq, .slice Aq nq cq] 25)).heap.size := by simp
  generalize w9.alloc (.cells #[.bool bq, .slice Aq nq cq] 25) = v10 at *
  refine (rzadd_N hx hi (by omega) (by omega)).mono ?_
  rintro e w11 ⟨bl, Al, nl, cl, rfl, hl, b⟩
  replace h0 := h0.on b
  replace h1 := h1.on b
  replace hx := hx.on b
  replace hi := hi.on b
  replace hs := hs.on b
  replace hq := hq.on b
  replace pa0 := cK b pa0 pal
  replace pa1 := cK b pa1 pal
  replace pa2 := cK b pa2 pal
  replace pal := lK b pal
  replace pb0 := cK b pb0 pbl
  replace pb1 := cK b pb1 pbl
  replace pb2 := cK b pb2 pbl
  replace pbl := lK b pbl
  replace x0 := cK b x0 xl
  replace x1 := cK b x1 xl
  replace xl := lK b xl
  replace i0 := cK b i0 il
  replace i1 := cK b i1 il
  replace il := lK b il
  replace q0 := cK b q0 ql
  replace q1 := cK b q1 ql
  replace ql := lK b ql
  replace cc := bK cc b
  clear b
  go_wp2_with fail
  have bA := below_one w11 (.cells #[.bool bl, .slice Al nl cl] 25)
  replace h0 := h0.on bA
  replace h1 := h1.on bA
  replace hx := hx.on bA
  replace hi := hi.on bA
  replace hs := hs.on bA
  replace hq := hq.on bA
  replace hl := hl.on bA
  replace pa0 := cK bA pa0 pal
  replace pa1 := cK bA pa1 pal
  replace pa2 := cK bA pa2 pal
  replace pal := lK bA pal
  replace pb0 := cK bA pb0 pbl
  replace pb1 := cK bA pb1 pbl
  replace pb2 := cK bA pb2 pbl
  replace pbl := lK bA pbl
  replace x0 := cK bA x0 xl
  replace x1 := cK bA x1 xl
  replace xl := lK bA xl
  replace i0 := cK bA i0 il
  replace i1 := cK bA i1 il
  replace il := lK bA il
  replace q0 := cK bA q0 ql
  replace q1 := cK bA q1 ql
  replace ql := lK bA ql
  replace cc := bK cc bA
  clear bA
  have l0 : (w11.alloc (.cells #[.bool bl, .slice Al nl cl] 25)).cell? ⟨w11.heap.size, 0, none⟩ = some (.bool bl) := by simp [go_sem]
  have l1 : (w11.alloc (.cells #[.bool bl, .slice Al nl cl] 25)).cell? ⟨w11.heap.size, 1, none⟩ = some (.slice Al nl cl) := by simp [go_sem]
  have ll : w11.heap.size < (w11.alloc (.cells #[.bool bl, .slice Al nl cl] 25)).heap.size := by simp
  generalize w11.alloc (.cells #[.bool bl, .slice Al nl cl] 25) = v12 at *
  go_upto_region 7 with fail
  go_cut [14] (fun u wx => ∃ (g_ : Nat) (b_ : Bool) (A_ : Option Addr) (n_ c_ : Nat), u = .pointer (some ⟨g_, 0, none⟩) ∧ LoneZ v12 wx g_ b_ A_ n_ c_ (fx + fy + 1))
  case first =>
    have BB0 : Below v12.heap.size v12 v12.drew := below_drewN (Below.refl _ v12) 1
    have BB1 : Below v12.heap.size v12 (v12.alloc (.cells #[.bool false, .slice none 0 0] 25)).drew := below_drewN (below_one _ _) 1
    go_region_held3 (fun w' => w'.cell? ⟨w.heap.size, 0, none⟩ = some (.bool b0) ∧ w'.cell? ⟨w.heap.size, 1, none⟩ = some (.slice A0 n0 c0) ∧ w'.cell? ⟨w.heap.size, 2, none⟩ = some (.slice B0 m0 d0) ∧ w'.cell? ⟨w.heap.size + 1, 0, none⟩ = some (.bool b1) ∧ w'.cell? ⟨w.heap.size + 1, 1, none⟩ = some (.slice A1 n1 c1) ∧ w'.cell? ⟨w.heap.size + 1, 2, none⟩ = some (.slice B1 m1 d1) ∧ w'.cell? ⟨w4.heap.size, 0, none⟩ = some (.bool bx) ∧ w'.cell? ⟨w4.heap.size, 1, none⟩ = some (.slice Ax nx cx) ∧ w'.cell? ⟨w6.heap.size, 0, none⟩ = some (.bool bi) ∧ w'.cell? ⟨w6.heap.size, 1, none⟩ = some (.slice Ai ni ci) ∧ w'.cell? ⟨w9.heap.size, 0, none⟩ = some (.bool bq) ∧ w'.cell? ⟨w9.heap.size, 1, none⟩ = some (.slice Aq nq cq) ∧ w'.cell? ⟨w11.heap.size, 0, none⟩ = some (.bool bl) ∧ w'.cell? ⟨w11.heap.size, 1, none⟩ = some (.slice Al nl cl))
      (first | with_reducible exact ⟨pa0, pa1, pa2, pb0, pb1, pb2, x0, x1, i0, i1, q0, q1, l0, l1⟩ | with_reducible exact ⟨keep_alloc (pa0), keep_alloc (pa1), keep_alloc (pa2), keep_alloc (pb0), keep_alloc (pb1), keep_alloc (pb2), keep_alloc (x0), keep_alloc (x1), keep_alloc (i0), keep_alloc (i1), keep_alloc (q0), keep_alloc (q1), keep_alloc (l0), keep_alloc (l1)⟩ | with_reducible exact ⟨keep_alloc (keep_alloc (pa0)), keep_alloc (keep_alloc (pa1)), keep_alloc (keep_alloc (pa2)), keep_alloc (keep_alloc (pb0)), keep_alloc (keep_alloc (pb1)), keep_alloc (keep_alloc (pb2)), keep_alloc (keep_alloc (x0)), keep_alloc (keep_alloc (x1)), keep_alloc (keep_alloc (i0)), keep_alloc (keep_alloc (i1)), keep_alloc (keep_alloc (q0)), keep_alloc (keep_alloc (q1)), keep_alloc (keep_alloc (l0)), keep_alloc (keep_alloc (l1))⟩ | with_reducible exact ⟨(cK qq pa0 pal), (cK qq pa1 pal), (cK qq pa2 pal), (cK qq pb0 pbl), (cK qq pb1 pbl), (cK qq pb2 pbl), (cK qq x0 xl), (cK qq x1 xl), (cK qq i0 il), (cK qq i1 il), (cK qq q0 ql), (cK qq q1 ql), (cK qq l0 ll), (cK qq l1 ll)⟩ | with_reducible exact ⟨keep_alloc ((cK qq pa0 pal)), keep_alloc ((cK qq pa1 pal)), keep_alloc ((cK qq pa2 pal)), keep_alloc ((cK qq pb0 pbl)), keep_alloc ((cK qq pb1 pbl)), keep_alloc ((cK qq pb2 pbl)), keep_alloc ((cK qq x0 xl)), keep_alloc ((cK qq x1 xl)), keep_alloc ((cK qq i0 il)), keep_alloc ((cK qq i1 il)), keep_alloc ((cK qq q0 ql)), keep_alloc ((cK qq q1 ql)), keep_alloc ((cK qq l0 ll)), keep_alloc ((cK qq l1 ll))⟩ | with_reducible exact ⟨keep_alloc (keep_alloc ((cK qq pa0 pal))), keep_alloc (keep_alloc ((cK qq pa1 pal))), keep_alloc (keep_alloc ((cK qq pa2 pal))), keep_alloc (keep_alloc ((cK qq pb0 pbl))), keep_alloc (keep_alloc ((cK qq pb1 pbl))), keep_alloc (keep_alloc ((cK qq pb2 pbl))), keep_alloc (keep_alloc ((cK qq x0 xl))), keep_alloc (keep_alloc ((cK qq x1 xl))), keep_alloc (keep_alloc ((cK qq i0 il))), keep_alloc (keep_alloc ((cK qq i1 il))), keep_alloc (keep_alloc ((cK qq q0 ql))), keep_alloc (keep_alloc ((cK qq q1 ql))), keep_alloc (keep_alloc ((cK qq l0 ll))), keep_alloc (keep_alloc ((cK qq l1 ll)))⟩ | with_reducible exact ⟨((cell_putR (by omega)).trans (cK qq pa0 pal)), ((cell_putR (by omega)).trans (cK qq pa1 pal)), ((cell_putR (by omega)).trans (cK qq pa2 pal)), ((cell_putR (by omega)).trans (cK qq pb0 pbl)), ((cell_putR (by omega)).trans (cK qq pb1 pbl)), ((cell_putR (by omega)).trans (cK qq pb2 pbl)), ((cell_putR (by omega)).trans (cK qq x0 xl)), ((cell_putR (by omega)).trans (cK qq x1 xl)), ((cell_putR (by omega)).trans (cK qq i0 il)), ((cell_putR (by omega)).trans (cK qq i1 il)), ((cell_putR (by omega)).trans (cK qq q0 ql)), ((cell_putR (by omega)).trans (cK qq q1 ql)), ((cell_putR (by omega)).trans (cK qq l0 ll)), ((cell_putR (by omega)).trans (cK qq l1 ll))⟩ | with_reducible exact ⟨((cell_store (by omega)).trans (cK qq pa0 pal)), ((cell_store (by omega)).trans (cK qq pa1 pal)), ((cell_store (by omega)).trans (cK qq pa2 pal)), ((cell_store (by omega)).trans (cK qq pb0 pbl)), ((cell_store (by omega)).trans (cK qq pb1 pbl)), ((cell_store (by omega)).trans (cK qq pb2 pbl)), ((cell_store (by omega)).trans (cK qq x0 xl)), ((cell_store (by omega)).trans (cK qq x1 xl)), ((cell_store (by omega)).trans (cK qq i0 il)), ((cell_store (by omega)).trans (cK qq i1 il)), ((cell_store (by omega)).trans (cK qq q0 ql)), ((cell_store (by omega)).trans (cK qq q1 ql)), ((cell_store (by omega)).trans (cK qq l0 ll)), ((cell_store (by omega)).trans (cK qq l1 ll))⟩ | with_reducible exact ⟨keep_alloc (((cell_putR (by omega)).trans (cK qq pa0 pal))), keep_alloc (((cell_putR (by omega)).trans (cK qq pa1 pal))), keep_alloc (((cell_putR (by omega)).trans (cK qq pa2 pal))), keep_alloc (((cell_putR (by omega)).trans (cK qq pb0 pbl))), keep_alloc (((cell_putR (by omega)).trans (cK qq pb1 pbl))), keep_alloc (((cell_putR (by omega)).trans (cK qq pb2 pbl))), keep_alloc (((cell_putR (by omega)).trans (cK qq x0 xl))), keep_alloc (((cell_putR (by omega)).trans (cK qq x1 xl))), keep_alloc (((cell_putR (by omega)).trans (cK qq i0 il))), keep_alloc (((cell_putR (by omega)).trans (cK qq i1 il))), keep_alloc (((cell_putR (by omega)).trans (cK qq q0 ql))), keep_alloc (((cell_putR (by omega)).trans (cK qq q1 ql))), keep_alloc (((cell_putR (by omega)).trans (cK qq l0 ll))), keep_alloc (((cell_putR (by omega)).trans (cK qq l1 ll)))⟩ | with_reducible exact ⟨keep_alloc (((cell_store (by omega)).trans (cK qq pa0 pal))), keep_alloc (((cell_store (by omega)).trans (cK qq pa1 pal))), keep_alloc (((cell_store (by omega)).trans (cK qq pa2 pal))), keep_alloc (((cell_store (by omega)).trans (cK qq pb0 pbl))), keep_alloc (((cell_store (by omega)).trans (cK qq pb1 pbl))), keep_alloc (((cell_store (by omega)).trans (cK qq pb2 pbl))), keep_alloc (((cell_store (by omega)).trans (cK qq x0 xl))), keep_alloc (((cell_store (by omega)).trans (cK qq x1 xl))), keep_alloc (((cell_store (by omega)).trans (cK qq i0 il))), keep_alloc (((cell_store (by omega)).trans (cK qq i1 il))), keep_alloc (((cell_store (by omega)).trans (cK qq q0 ql))), keep_alloc (((cell_store (by omega)).trans (cK qq q1 ql))), keep_alloc (((cell_store (by omega)).trans (cK qq l0 ll))), keep_alloc (((cell_store (by omega)).trans (cK qq l1 ll)))⟩ | with_reducible exact ⟨keep_alloc (keep_alloc (((cell_putR (by omega)).trans (cK qq pa0 pal)))), keep_alloc (keep_alloc (((cell_putR (by omega)).trans (cK qq pa1 pal)))), keep_alloc (keep_alloc (((cell_putR (by omega)).trans (cK qq pa2 pal)))), keep_alloc (keep_alloc (((cell_putR (by omega)).trans (cK qq pb0 pbl)))), keep_alloc (keep_alloc (((cell_putR (by omega)).trans (cK qq pb1 pbl)))), keep_alloc (keep_alloc (((cell_putR (by omega)).trans (cK qq pb2 pbl)))), keep_alloc (keep_alloc (((cell_putR (by omega)).trans (cK qq x0 xl)))), keep_alloc (keep_alloc (((cell_putR (by omega)).trans (cK qq x1 xl)))), keep_alloc (keep_alloc (((cell_putR (by omega)).trans (cK qq i0 il)))), keep_alloc (keep_alloc (((cell_putR (by omega)).trans (cK qq i1 il)))), keep_alloc (keep_alloc (((cell_putR (by omega)).trans (cK qq q0 ql)))), keep_alloc (keep_alloc (((cell_putR (by omega)).trans (cK qq q1 ql)))), keep_alloc (keep_alloc (((cell_putR (by omega)).trans (cK qq l0 ll)))), keep_alloc (keep_alloc (((cell_putR (by omega)).trans (cK qq l1 ll))))⟩ | with_reducible exact ⟨keep_alloc (keep_alloc (((cell_store (by omega)).trans (cK qq pa0 pal)))), keep_alloc (keep_alloc (((cell_store (by omega)).trans (cK qq pa1 pal)))), keep_alloc (keep_alloc (((cell_store (by omega)).trans (cK qq pa2 pal)))), keep_alloc (keep_alloc (((cell_store (by omega)).trans (cK qq pb0 pbl)))), keep_alloc (keep_alloc (((cell_store (by omega)).trans (cK qq pb1 pbl)))), keep_alloc (keep_alloc (((cell_store (by omega)).trans (cK qq pb2 pbl)))), keep_alloc (keep_alloc (((cell_store (by omega)).trans (cK qq x0 xl)))), keep_alloc (keep_alloc (((cell_store (by omega)).trans (cK qq x1 xl)))), keep_alloc (keep_alloc (((cell_store (by omega)).trans (cK qq i0 il)))), keep_alloc (keep_alloc (((cell_store (by omega)).trans (cK qq i1 il)))), keep_alloc (keep_alloc (((cell_store (by omega)).trans (cK qq q0 ql)))), keep_alloc (keep_alloc (((cell_store (by omega)).trans (cK qq q1 ql)))), keep_alloc (keep_alloc (((cell_store (by omega)).trans (cK qq l0 ll)))), keep_alloc (keep_alloc (((cell_store (by omega)).trans (cK qq l1 ll))))⟩ | with_reducible exact ⟨((cell_putR (by omega)).trans ((cell_putR (by omega)).trans (cK qq pa0 pal))), ((cell_putR (by omega)).trans ((cell_putR (by omega)).trans (cK qq pa1 pal))), ((cell_putR (by omega)).trans ((cell_putR (by omega)).trans (cK qq pa2 pal))), ((cell_putR (by omega)).trans ((cell_putR (by omega)).trans (cK qq pb0 pbl))), ((cell_putR (by omega)).trans ((cell_putR (by omega)).trans (cK qq pb1 pbl))), ((cell_putR (by omega)).trans ((cell_putR (by omega)).trans (cK qq pb2 pbl))), ((cell_putR (by omega)).trans ((cell_putR (by omega)).trans (cK qq x0 xl))), ((cell_putR (by omega)).trans ((cell_putR (by omega)).trans (cK qq x1 xl))), ((cell_putR (by omega)).trans ((cell_putR (by omega)).trans (cK qq i0 il))), ((cell_putR (by omega)).trans ((cell_putR (by omega)).trans (cK qq i1 il))), ((cell_putR (by omega)).trans ((cell_putR (by omega)).trans (cK qq q0 ql))), ((cell_putR (by omega)).trans ((cell_putR (by omega)).trans (cK qq q1 ql))), ((cell_putR (by omega)).trans ((cell_putR (by omega)).trans (cK qq l0 ll))), ((cell_putR (by omega)).trans ((cell_putR (by omega)).trans (cK qq l1 ll)))⟩ | with_reducible exact ⟨((cell_store (by omega)).trans ((cell_store (by omega)).trans (cK qq pa0 pal))), ((cell_store (by omega)).trans ((cell_store (by omega)).trans (cK qq pa1 pal))), ((cell_store (by omega)).trans ((cell_store (by omega)).trans (cK qq pa2 pal))), ((cell_store (by omega)).trans ((cell_store (by omega)).trans (cK qq pb0 pbl))), ((cell_store (by omega)).trans ((cell_store (by omega)).trans (cK qq pb1 pbl))), ((cell_store (by omega)).trans ((cell_store (by omega)).trans (cK qq pb2 pbl))), ((cell_store (by omega)).trans ((cell_store (by omega)).trans (cK qq x0 xl))), ((cell_store (by omega)).trans ((cell_store (by omega)).trans (cK qq x1 xl))), ((cell_store (by omega)).trans ((cell_store (by omega)).trans (cK qq i0 il))), ((cell_store (by omega)).trans ((cell_store (by omega)).trans (cK qq i1 il))), ((cell_store (by omega)).trans ((cell_store (by omega)).trans (cK qq q0 ql))), ((cell_store (by omega)).trans ((cell_store (by omega)).trans (cK qq q1 ql))), ((cell_store (by omega)).trans ((cell_store (by omega)).trans (cK qq l0 ll))), ((cell_store (by omega)).trans ((cell_store (by omega)).trans (cK qq l1 ll)))⟩ | with_reducible exact ⟨keep_alloc (((cell_putR (by omega)).trans ((cell_putR (by omega)).trans (cK qq pa0 pal)))), keep_alloc (((cell_putR (by omega)).trans ((cell_putR (by omega)).trans (cK qq pa1 pal)))), keep_alloc (((cell_putR (by omega)).trans ((cell_putR (by omega)).trans (cK qq pa2 pal)))), keep_alloc (((cell_putR (by omega)).trans ((cell_putR (by omega)).trans (cK qq pb0 pbl)))), keep_alloc (((cell_putR (by omega)).trans ((cell_putR (by omega)).trans (cK qq pb1 pbl)))), keep_alloc (((cell_putR (by omega)).trans ((cell_putR (by omega)).trans (cK qq pb2 pbl)))), keep_alloc (((cell_putR (by omega)).trans ((cell_putR (by omega)).trans (cK qq x0 xl)))), keep_alloc (((cell_putR (by omega)).trans ((cell_putR (by omega)).trans (cK qq x1 xl)))), keep_alloc (((cell_putR (by omega)).trans ((cell_putR (by omega)).trans (cK qq i0 il)))), keep_alloc (((cell_putR (by omega)).trans ((cell_putR (by omega)).trans (cK qq i1 il)))), keep_alloc (((cell_putR (by omega)).trans ((cell_putR (by omega)).trans (cK qq q0 ql)))), keep_alloc (((cell_putR (by omega)).trans ((cell_putR (by omega)).trans (cK qq q1 ql)))), keep_alloc (((cell_putR (by omega)).trans ((cell_putR (by omega)).trans (cK qq l0 ll)))), keep_alloc (((cell_putR (by omega)).trans ((cell_putR (by omega)).trans (cK qq l1 ll))))⟩ | with_reducible exact ⟨keep_alloc (((cell_store (by omega)).trans ((cell_store (by omega)).trans (cK qq pa0 pal)))), keep_alloc (((cell_store (by omega)).trans ((cell_store (by omega)).trans (cK qq pa1 pal)))), keep_alloc (((cell_store (by omega)).trans ((cell_store (by omega)).trans (cK qq pa2 pal)))), keep_alloc (((cell_store (by omega)).trans ((cell_store (by omega)).trans (cK qq pb0 pbl)))), keep_alloc (((cell_store (by omega)).trans ((cell_store (by omega)).trans (cK qq pb1 pbl)))), keep_alloc (((cell_store (by omega)).trans ((cell_store (by omega)).trans (cK qq pb2 pbl)))), keep_alloc (((cell_store (by omega)).trans ((cell_store (by omega)).trans (cK qq x0 xl)))), keep_alloc (((cell_store (by omega)).trans ((cell_store (by omega)).trans (cK qq x1 xl)))), keep_alloc (((cell_store (by omega)).trans ((cell_store (by omega)).trans (cK qq i0 il)))), keep_alloc (((cell_store (by omega)).trans ((cell_store (by omega)).trans (cK qq i1 il)))), keep_alloc (((cell_store (by omega)).trans ((cell_store (by omega)).trans (cK qq q0 ql)))), keep_alloc (((cell_store (by omega)).trans ((cell_store (by omega)).trans (cK qq q1 ql)))), keep_alloc (((cell_store (by omega)).trans ((cell_store (by omega)).trans (cK qq l0 ll)))), keep_alloc (((cell_store (by omega)).trans ((cell_store (by omega)).trans (cK qq l1 ll))))⟩ | with_reducible exact ⟨keep_alloc (keep_alloc (((cell_putR (by omega)).trans ((cell_putR (by omega)).trans (cK qq pa0 pal))))), keep_alloc (keep_alloc (((cell_putR (by omega)).trans ((cell_putR (by omega)).trans (cK qq pa1 pal))))), keep_alloc (keep_alloc (((cell_putR (by omega)).trans ((cell_putR (by omega)).trans (cK qq pa2 pal))))), keep_alloc (keep_alloc (((cell_putR (by omega)).trans ((cell_putR (by omega)).trans (cK qq pb0 pbl))))), keep_alloc (keep_alloc (((cell_putR (by omega)).trans ((cell_putR (by omega)).trans (cK qq pb1 pbl))))), keep_alloc (keep_alloc (((cell_putR (by omega)).trans ((cell_putR (by omega)).trans (cK qq pb2 pbl))))), keep_alloc (keep_alloc (((cell_putR (by omega)).trans ((cell_putR (by omega)).trans (cK qq x0 xl))))), keep_alloc (keep_alloc (((cell_putR (by omega)).trans ((cell_putR (by omega)).trans (cK qq x1 xl))))), keep_alloc (keep_alloc (((cell_putR (by omega)).trans ((cell_putR (by omega)).trans (cK qq i0 il))))), keep_alloc (keep_alloc (((cell_putR (by omega)).trans ((cell_putR (by omega)).trans (cK qq i1 il))))), keep_alloc (keep_alloc (((cell_putR (by omega)).trans ((cell_putR (by omega)).trans (cK qq q0 ql))))), keep_alloc (keep_alloc (((cell_putR (by omega)).trans ((cell_putR (by omega)).trans (cK qq q1 ql))))), keep_alloc (keep_alloc (((cell_putR (by omega)).trans ((cell_putR (by omega)).trans (cK qq l0 ll))))), keep_alloc (keep_alloc (((cell_putR (by omega)).trans ((cell_putR (by omega)).trans (cK qq l1 ll)))))⟩ | with_reducible exact ⟨keep_alloc (keep_alloc (((cell_store (by omega)).trans ((cell_store (by omega)).trans (cK qq pa0 pal))))), keep_alloc (keep_alloc (((cell_store (by omega)).trans ((cell_store (by omega)).trans (cK qq pa1 pal))))), keep_alloc (keep_alloc (((cell_store (by omega)).trans ((cell_store (by omega)).trans (cK qq pa2 pal))))), keep_alloc (keep_alloc (((cell_store (by omega)).trans ((cell_store (by omega)).trans (cK qq pb0 pbl))))), keep_alloc (keep_alloc (((cell_store (by omega)).trans ((cell_store (by omega)).trans (cK qq pb1 pbl))))), keep_alloc (keep_alloc (((cell_store (by omega)).trans ((cell_store (by omega)).trans (cK qq pb2 pbl))))), keep_alloc (keep_alloc (((cell_store (by omega)).trans ((cell_store (by omega)).trans (cK qq x0 xl))))), keep_alloc (keep_alloc (((cell_store (by omega)).trans ((cell_store (by omega)).trans (cK qq x1 xl))))), keep_alloc (keep_alloc (((cell_store (by omega)).trans ((cell_store (by omega)).trans (cK qq i0 il))))), keep_alloc (keep_alloc (((cell_store (by omega)).trans ((cell_store (by omega)).trans (cK qq i1 il))))), keep_alloc (keep_alloc (((cell_store (by omega)).trans ((cell_store (by omega)).trans (cK qq q0 ql))))), keep_alloc (keep_alloc (((cell_store (by omega)).trans ((cell_store (by omega)).trans (cK qq q1 ql))))), keep_alloc (keep_alloc (((cell_store (by omega)).trans ((cell_store (by omega)).trans (cK qq l0 ll))))), keep_alloc (keep_alloc (((cell_store (by omega)).trans ((cell_store (by omega)).trans (cK qq l1 ll)))))⟩ | go_keep)
      (first
        | (go_at_call 22; (with_reducible refine (rzof_N _ 1 ione).mono ?_); rintro e y1 ⟨bfa, Afa, nfa, cfa, rfl, fa, q⟩; have qq := BB0.trans (q.mono BB0.size); have h0' := (h0.on BB0).on q; have h1' := (h1.on BB0).on q; have hx' := (hx.on BB0).on q; have hi' := (hi.on BB0).on q; have hs' := (hs.on BB0).on q; have hq' := (hq.on BB0).on q; have hl' := (hl.on BB0).on q; have qs1 := qq.size; clear q)
        | (go_at_call 22; (with_reducible refine (rzof_N _ 1 ione).mono ?_); rintro e y1 ⟨bfa, Afa, nfa, cfa, rfl, fa, q⟩; have qq := BB1.trans (q.mono BB1.size); have h0' := (h0.on BB1).on q; have h1' := (h1.on BB1).on q; have hx' := (hx.on BB1).on q; have hi' := (hi.on BB1).on q; have hs' := (hs.on BB1).on q; have hq' := (hq.on BB1).on q; have hl' := (hl.on BB1).on q; have qs1 := qq.size; have bo_0 := (q.cell (p := ⟨v12.heap.size, 0, none⟩) (by simp)).trans (show _ = some (.bool false) by simp [go_sem]); have fo_0 := (q.frozen (p := ⟨v12.heap.size, 0, none⟩) (by simp)).trans (show _ = false by simp [go_sem]); have bo_1 := (q.cell (p := ⟨v12.heap.size, 1, none⟩) (by simp)).trans (show _ = some (.slice none 0 0) by simp [go_sem]); have fo_1 := (q.frozen (p := ⟨v12.heap.size, 1, none⟩) (by simp)).trans (show _ = false by simp [go_sem]); have ol : v12.heap.size < y1.heap.size := Nat.lt_of_lt_of_le (by simp) q.size; clear q)
        | (go_at_call 31; have up := Below.refl y1.heap.size y1; (with_reducible refine (rzadd_N (hl'.on up) (fa.on up) (by omega) (by omega)).mono ?_); rintro e y2 ⟨bo, Ao, no, co, rfl, o, q⟩; replace qq := (qq.trans (up.mono qq.size)).trans (q.mono (Nat.le_trans qq.size up.size)); replace h0' := (h0'.on up).on q; replace h1' := (h1'.on up).on q; replace hx' := (hx'.on up).on q; replace hi' := (hi'.on up).on q; replace hs' := (hs'.on up).on q; replace hq' := (hq'.on up).on q; replace hl' := (hl'.on up).on q; replace fa := (fa.on up).on q; (try replace bo_0 := (q.cell (Nat.lt_of_lt_of_le ol up.size)).trans ((up.cell ol).trans bo_0)); (try replace fo_0 := (q.frozen (Nat.lt_of_lt_of_le ol up.size)).trans ((up.frozen ol).trans fo_0)); (try replace bo_1 := (q.cell (Nat.lt_of_lt_of_le ol up.size)).trans ((up.cell ol).trans bo_1)); (try replace fo_1 := (q.frozen (Nat.lt_of_lt_of_le ol up.size)).trans ((up.frozen ol).trans fo_1)); (try replace ol := Nat.lt_of_lt_of_le ol (Nat.le_trans up.size q.size)); have qs2 := qq.size; clear q up)
        | (go_at_call 31; have up := below_one y1 (.cells #[.bool false, .slice none 0 0] 25); (with_reducible refine (rzadd_N (hl'.on up) (fa.on up) (by omega) (by omega)).mono ?_); rintro e y2 ⟨bo, Ao, no, co, rfl, o, q⟩; replace qq := (qq.trans (up.mono qq.size)).trans (q.mono (Nat.le_trans qq.size up.size)); replace h0' := (h0'.on up).on q; replace h1' := (h1'.on up).on q; replace hx' := (hx'.on up).on q; replace hi' := (hi'.on up).on q; replace hs' := (hs'.on up).on q; replace hq' := (hq'.on up).on q; replace hl' := (hl'.on up).on q; replace fa := (fa.on up).on q; (try replace bo_0 := (q.cell (Nat.lt_of_lt_of_le ol up.size)).trans ((up.cell ol).trans bo_0)); (try replace fo_0 := (q.frozen (Nat.lt_of_lt_of_le ol up.size)).trans ((up.frozen ol).trans fo_0)); (try replace bo_1 := (q.cell (Nat.lt_of_lt_of_le ol up.size)).trans ((up.cell ol).trans bo_1)); (try replace fo_1 := (q.frozen (Nat.lt_of_lt_of_le ol up.size)).trans ((up.frozen ol).trans fo_1)); (try replace ol := Nat.lt_of_lt_of_le ol (Nat.le_trans up.size q.size)); have qs2 := qq.size; have bo_0 := (q.cell (p := ⟨y1.heap.size, 0, none⟩) (by simp)).trans (show _ = some (.bool false) by simp [go_sem]); have fo_0 := (q.frozen (p := ⟨y1.heap.size, 0, none⟩) (by simp)).trans (show _ = false by simp [go_sem]); have bo_1 := (q.cell (p := ⟨y1.heap.size, 1, none⟩) (by simp)).trans (show _ = some (.slice none 0 0) by simp [go_sem]); have fo_1 := (q.frozen (p := ⟨y1.heap.size, 1, none⟩) (by simp)).trans (show _ = false by simp [go_sem]); have ol : y1.heap.size < y2.heap.size := Nat.lt_of_lt_of_le (by simp) q.size; clear q up))
    all_goals (go_wp2_with fail; go_meet)
    all_goals refine ⟨_, bo, Ao, no, co, rfl, ?_⟩
    all_goals first
      | with_reducible exact loneZA o qq _
      | with_reducible exact loneZB bo_0 bo_1 o qq (by omega)
  case rest =>
    obtain ⟨gt, bt, At, nt, ct, rfl, ⟨t0, t1⟩, ht, b, tge⟩ := hcut
    have tl := cell_lt t0
    simp only at tl
    have tqpa : w.heap.size < gt := Nat.lt_of_lt_of_le pal tge
    have tqpb : w.heap.size + 1 < gt := Nat.lt_of_lt_of_le pbl tge
    have tqx : w4.heap.size < gt := Nat.lt_of_lt_of_le xl tge
    have tqi : w6.heap.size < gt := Nat.lt_of_lt_of_le il tge
    have tqq : w9.heap.size < gt := Nat.lt_of_lt_of_le ql tge
    have tql : w11.heap.size < gt := Nat.lt_of_lt_of_le ll tge
    replace h0 := h0.on b
    replace h1 := h1.on b
    replace hx := hx.on b
    replace hi := hi.on b
    replace hs := hs.on b
    replace hq := hq.on b
    replace hl := hl.on b
    replace pa0 := cK b pa0 pal
    replace pa1 := cK b pa1 pal
    replace pa2 := cK b pa2 pal
    replace pal := lK b pal
    replace pb0 := cK b pb0 pbl
    replace pb1 := cK b pb1 pbl
    replace pb2 := cK b pb2 pbl
    replace pbl := lK b pbl
    replace x0 := cK b x0 xl
    replace x1 := cK b x1 xl
    replace xl := lK b xl
    replace i0 := cK b i0 il
    replace i1 := cK b i1 il
    replace il := lK b il
    replace q0 := cK b q0 ql
    replace q1 := cK b q1 ql
    replace ql := lK b ql
    replace l0 := cK b l0 ll
    replace l1 := cK b l1 ll
    replace ll := lK b ll
    replace cc := bK cc b
    clear b
    go_wp2_with fail
    refine (CO hi).mono ?_
    rintro e w13 ⟨bu, Au, nu, cu, Bu, mu, du, rfl, hu, b⟩
    replace h0 := h0.on b
    replace h1 := h1.on b
    replace hx := hx.on b
    replace hi := hi.on b
    replace hs := hs.on b
    replace hq := hq.on b
    replace hl := hl.on b
    replace ht := ht.on b
    replace pa0 := cK b pa0 pal
    replace pa1 := cK b pa1 pal
    replace pa2 := cK b pa2 pal
    replace pal := lK b pal
    replace pb0 := cK b pb0 pbl
    replace pb1 := cK b pb1 pbl
    replace pb2 := cK b pb2 pbl
    replace pbl := lK b pbl
    replace x0 := cK b x0 xl
    replace x1 := cK b x1 xl
    replace xl := lK b xl
    replace i0 := cK b i0 il
    replace i1 := cK b i1 il
    replace il := lK b il
    replace q0 := cK b q0 ql
    replace q1 := cK b q1 ql
    replace ql := lK b ql
    replace l0 := cK b l0 ll
    replace l1 := cK b l1 ll
    replace ll := lK b ll
    replace t0 := cK b t0 tl
    replace t1 := cK b t1 tl
    replace tl := lK b tl
    replace cc := bK cc b
    clear b
    go_wp2_with fail
    have bA := below_one w13 (.cells #[.bool bu, .slice Au nu cu, .slice Bu mu du] 27)
    replace h0 := h0.on bA
    replace h1 := h1.on bA
    replace hx := hx.on bA
    replace hi := hi.on bA
    replace hs := hs.on bA
    replace hq := hq.on bA
    replace hl := hl.on bA
    replace ht := ht.on bA
    replace hu := hu.on bA
    replace pa0 := cK bA pa0 pal
    replace pa1 := cK bA pa1 pal
    replace pa2 := cK bA pa2 pal
    replace pal := lK bA pal
    replace pb0 := cK bA pb0 pbl
    replace pb1 := cK bA pb1 pbl
    replace pb2 := cK bA pb2 pbl
    replace pbl := lK bA pbl
    replace x0 := cK bA x0 xl
    replace x1 := cK bA x1 xl
    replace xl := lK bA xl
    replace i0 := cK bA i0 il
    replace i1 := cK bA i1 il
    replace il := lK bA il
    replace q0 := cK bA q0 ql
    replace q1 := cK bA q1 ql
    replace ql := lK bA ql
    replace l0 := cK bA l0 ll
    replace l1 := cK bA l1 ll
    replace ll := lK bA ll
    replace t0 := cK bA t0 tl
    replace t1 := cK bA t1 tl
    replace tl := lK bA tl
    replace cc := bK cc bA
    clear bA
    have u0 : (w13.alloc (.cells #[.bool bu, .slice Au nu cu, .slice Bu mu du] 27)).cell? ⟨w13.heap.size, 0, none⟩ = some (.bool bu) := by simp [go_sem]
    have u1 : (w13.alloc (.cells #[.bool bu, .slice Au nu cu, .slice Bu mu du] 27)).cell? ⟨w13.heap.size, 1, none⟩ = some (.slice Au nu cu) := by simp [go_sem]
    have u2 : (w13.alloc (.cells #[.bool bu, .slice Au nu cu, .slice Bu mu du] 27)).cell? ⟨w13.heap.size, 2, none⟩ = some (.slice Bu mu du) := by simp [go_sem]
    have ul : w13.heap.size < (w13.alloc (.cells #[.bool bu, .slice Au nu cu, .slice Bu mu du] 27)).heap.size := by simp
    generalize w13.alloc (.cells #[.bool bu, .slice Au nu cu, .slice Bu mu du] 27) = v14 at *
    refine (rtadd_N h0 (s0.le (by omega)) hu (so.le (by omega))).mono ?_
    rintro e w15 ⟨bv, Av, nv, cv, Bv, mv, dv, rfl, hv, b⟩
    replace h0 := h0.on b
    replace h1 := h1.on b
    replace hx := hx.on b
    replace hi := hi.on b
    replace hs := hs.on b
    replace hq := hq.on b
    replace hl := hl.on b
    replace ht := ht.on b
    replace hu := hu.on b
    replace pa0 := cK b pa0 pal
    replace pa1 := cK b pa1 pal
    replace pa2 := cK b pa2 pal
    replace pal := lK b pal
    replace pb0 := cK b pb0 pbl
    replace pb1 := cK b pb1 pbl
    replace pb2 := cK b pb2 pbl
    replace pbl := lK b pbl
    replace x0 := cK b x0 xl
    replace x1 := cK b x1 xl
    replace xl := lK b xl
    replace i0 := cK b i0 il
    replace i1 := cK b i1 il
    replace il := lK b il
    replace q0 := cK b q0 ql
    replace q1 := cK b q1 ql
    replace ql := lK b ql
    replace l0 := cK b l0 ll
    replace l1 := cK b l1 ll
    replace ll := lK b ll
    replace t0 := cK b t0 tl
    replace t1 := cK b t1 tl
    replace tl := lK b tl
    replace u0 := cK b u0 ul
    replace u1 := cK b u1 ul
    replace u2 := cK b u2 ul
    replace ul := lK b ul
    replace cc := bK cc b
    clear b
    go_wp2_with fail
    refine (CT hv).mono ?_
    rintro e w16 ⟨bk, Ak, nk, ck, rfl, hk, b⟩
    replace h0 := h0.on b
    replace h1 := h1.on b
    replace hx := hx.on b
    replace hi := hi.on b
    replace hs := hs.on b
    replace hq := hq.on b
    replace hl := hl.on b
    replace ht := ht.on b
    replace hu := hu.on b
    replace hv := hv.on b
    replace pa0 := cK b pa0 pal
    replace pa1 := cK b pa1 pal
    replace pa2 := cK b pa2 pal
    replace pal := lK b pal
    replace pb0 := cK b pb0 pbl
    replace pb1 := cK b pb1 pbl
    replace pb2 := cK b pb2 pbl
    replace pbl := lK b pbl
    replace x0 := cK b x0 xl
    replace x1 := cK b x1 xl
    replace xl := lK b xl
    replace i0 := cK b i0 il
    replace i1 := cK b i1 il
    replace il := lK b il
    replace q0 := cK b q0 ql
    replace q1 := cK b q1 ql
    replace ql := lK b ql
    replace l0 := cK b l0 ll
    replace l1 := cK b l1 ll
    replace ll := lK b ll
    replace t0 := cK b t0 tl
    replace t1 := cK b t1 tl
    replace tl := lK b tl
    replace u0 := cK b u0 ul
    replace u1 := cK b u1 ul
    replace u2 := cK b u2 ul
    replace ul := lK b ul
    replace cc := bK cc b
    clear b
    go_wp2_with fail
    have bA := below_one w16 (.cells #[.bool bk, .slice Ak nk ck] 25)
    replace h0 := h0.on bA
    replace h1 := h1.on bA
    replace hx := hx.on bA
    replace hi := hi.on bA
    replace hs := hs.on bA
    replace hq := hq.on bA
    replace hl := hl.on bA
    replace ht := ht.on bA
    replace hu := hu.on bA
    replace hv := hv.on bA
    replace hk := hk.on bA
    replace pa0 := cK bA pa0 pal
    replace pa1 := cK bA pa1 pal
    replace pa2 := cK bA pa2 pal
    replace pal := lK bA pal
    replace pb0 := cK bA pb0 pbl
    replace pb1 := cK bA pb1 pbl
    replace pb2 := cK bA pb2 pbl
    replace pbl := lK bA pbl
    replace x0 := cK bA x0 xl
    replace x1 := cK bA x1 xl
    replace xl := lK bA xl
    replace i0 := cK bA i0 il
    replace i1 := cK bA i1 il
    replace il := lK bA il
    replace q0 := cK bA q0 ql
    replace q1 := cK bA q1 ql
    replace ql := lK bA ql
    replace l0 := cK bA l0 ll
    replace l1 := cK bA l1 ll
    replace ll := lK bA ll
    replace t0 := cK bA t0 tl
    replace t1 := cK bA t1 tl
    replace tl := lK bA tl
    replace u0 := cK bA u0 ul
    replace u1 := cK bA u1 ul
    replace u2 := cK bA u2 ul
    replace ul := lK bA ul
    replace cc := bK cc bA
    clear bA
    have k0 : (w16.alloc (.cells #[.bool bk, .slice Ak nk ck] 25)).cell? ⟨w16.heap.size, 0, none⟩ = some (.bool bk) := by simp [go_sem]
    have k1 : (w16.alloc (.cells #[.bool bk, .slice Ak nk ck] 25)).cell? ⟨w16.heap.size, 1, none⟩ = some (.slice Ak nk ck) := by simp [go_sem]
    have kl : w16.heap.size < (w16.alloc (.cells #[.bool bk, .slice Ak nk ck] 25)).heap.size := by simp
    generalize w16.alloc (.cells #[.bool bk, .slice Ak nk ck] 25) = v17 at *
    refine (alive6_any _).mono ?_
    rintro e w18 ⟨rfl, b⟩
    replace h0 := h0.on b
    replace h1 := h1.on b
    replace hx := hx.on b
    replace hi := hi.on b
    replace hs := hs.on b
    replace hq := hq.on b
    replace hl := hl.on b
    replace ht := ht.on b
    replace hu := hu.on b
    replace hv := hv.on b
    replace hk := hk.on b
    replace pa0 := cK b pa0 pal
    replace pa1 := cK b pa1 pal
    replace pa2 := cK b pa2 pal
    replace pal := lK b pal
    replace pb0 := cK b pb0 pbl
    replace pb1 := cK b pb1 pbl
    replace pb2 := cK b pb2 pbl
    replace pbl := lK b pbl
    replace x0 := cK b x0 xl
    replace x1 := cK b x1 xl
    replace xl := lK b xl
    replace i0 := cK b i0 il
    replace i1 := cK b i1 il
    replace il := lK b il
    replace q0 := cK b q0 ql
    replace q1 := cK b q1 ql
    replace ql := lK b ql
    replace l0 := cK b l0 ll
    replace l1 := cK b l1 ll
    replace ll := lK b ll
    replace t0 := cK b t0 tl
    replace t1 := cK b t1 tl
    replace tl := lK b tl
    replace u0 := cK b u0 ul
    replace u1 := cK b u1 ul
    replace u2 := cK b u2 ul
    replace ul := lK b ul
    replace k0 := cK b k0 kl
    replace k1 := cK b k1 kl
    replace kl := lK b kl
    replace cc := bK cc b
    clear b
    go_wp2_with fail
    refine (rzcmp_v c1_ hl hq (by omega) (by omega) E5.out).mono ?_
    rintro e w19 ⟨rfl, b⟩
    replace h0 := h0.on b
    replace h1 := h1.on b
    replace hx := hx.on b
    replace hi := hi.on b
    replace hs := hs.on b
    replace hq := hq.on b
    replace hl := hl.on b
    replace ht := ht.on b
    replace hu := hu.on b
    replace hv := hv.on b
    replace hk := hk.on b
    replace pa0 := cK b pa0 pal
    replace pa1 := cK b pa1 pal
    replace pa2 := cK b pa2 pal
    replace pal := lK b pal
    replace pb0 := cK b pb0 pbl
    replace pb1 := cK b pb1 pbl
    replace pb2 := cK b pb2 pbl
    replace pbl := lK b pbl
    replace x0 := cK b x0 xl
    replace x1 := cK b x1 xl
    replace xl := lK b xl
    replace i0 := cK b i0 il
    replace i1 := cK b i1 il
    replace il := lK b il
    replace q0 := cK b q0 ql
    replace q1 := cK b q1 ql
    replace ql := lK b ql
    replace l0 := cK b l0 ll
    replace l1 := cK b l1 ll
    replace ll := lK b ll
    replace t0 := cK b t0 tl
    replace t1 := cK b t1 tl
    replace tl := lK b tl
    replace u0 := cK b u0 ul
    replace u1 := cK b u1 ul
    replace u2 := cK b u2 ul
    replace ul := lK b ul
    replace k0 := cK b k0 kl
    replace k1 := cK b k1 kl
    replace kl := lK b kl
    replace cc := bK cc b
    clear b
    go_wp2_with fail
    refine (rzcmp_v c2_ hq ht (by omega) (by omega) E6.out).mono ?_
    rintro e w20 ⟨rfl, b⟩
    replace h0 := h0.on b
    replace h1 := h1.on b
    replace hx := hx.on b
    replace hi := hi.on b
    replace hs := hs.on b
    replace hq := hq.on b
    replace hl := hl.on b
    replace ht := ht.on b
    replace hu := hu.on b
    replace hv := hv.on b
    replace hk := hk.on b
    replace pa0 := cK b pa0 pal
    replace pa1 := cK b pa1 pal
    replace pa2 := cK b pa2 pal
    replace pal := lK b pal
    replace pb0 := cK b pb0 pbl
    replace pb1 := cK b pb1 pbl
    replace pb2 := cK b pb2 pbl
    replace pbl := lK b pbl
    replace x0 := cK b x0 xl
    replace x1 := cK b x1 xl
    replace xl := lK b xl
    replace i0 := cK b i0 il
    replace i1 := cK b i1 il
    replace il := lK b il
    replace q0 := cK b q0 ql
    replace q1 := cK b q1 ql
    replace ql := lK b ql
    replace l0 := cK b l0 ll
    replace l1 := cK b l1 ll
    replace ll := lK b ll
    replace t0 := cK b t0 tl
    replace t1 := cK b t1 tl
    replace tl := lK b tl
    replace u0 := cK b u0 ul
    replace u1 := cK b u1 ul
    replace u2 := cK b u2 ul
    replace ul := lK b ul
    replace k0 := cK b k0 kl
    replace k1 := cK b k1 kl
    replace kl := lK b kl
    replace cc := bK cc b
    clear b
    go_wp2_with fail
    refine (zsame_self hk hl (by omega)).mono ?_
    rintro e w21 ⟨rfl, b⟩
    replace h0 := h0.on b
    replace h1 := h1.on b
    replace hx := hx.on b
    replace hi := hi.on b
    replace hs := hs.on b
    replace hq := hq.on b
    replace hl := hl.on b
    replace ht := ht.on b
    replace hu := hu.on b
    replace hv := hv.on b
    replace hk := hk.on b
    replace pa0 := cK b pa0 pal
    replace pa1 := cK b pa1 pal
    replace pa2 := cK b pa2 pal
    replace pal := lK b pal
    replace pb0 := cK b pb0 pbl
    replace pb1 := cK b pb1 pbl
    replace pb2 := cK b pb2 pbl
    replace pbl := lK b pbl
    replace x0 := cK b x0 xl
    replace x1 := cK b x1 xl
    replace xl := lK b xl
    replace i0 := cK b i0 il
    replace i1 := cK b i1 il
    replace il := lK b il
    replace q0 := cK b q0 ql
    replace q1 := cK b q1 ql
    replace ql := lK b ql
    replace l0 := cK b l0 ll
    replace l1 := cK b l1 ll
    replace ll := lK b ll
    replace t0 := cK b t0 tl
    replace t1 := cK b t1 tl
    replace tl := lK b tl
    replace u0 := cK b u0 ul
    replace u1 := cK b u1 ul
    replace u2 := cK b u2 ul
    replace ul := lK b ul
    replace k0 := cK b k0 kl
    replace k1 := cK b k1 kl
    replace kl := lK b kl
    replace cc := bK cc b
    clear b
    go_wp2_with fail
    go_ret
    exact ⟨rfl, cc⟩

set_option maxRecDepth 100000 in
set_option maxHeartbeats 8000000 in
theorem DyadSums_walk {w : World} (b0 : Bool) {A0 : Option Addr} {n0 c0 : Nat} {l0 : List Nat} (hl0 : Lim w.heap.size w A0 n0 c0 l0) (hs0 : n0 ≤ 9223372036854775807) {B0 : Option Addr} {m0 d0 : Nat} {k0 : List Nat} (hk0 : Lim w.heap.size w B0 m0 d0 k0) (ht0 : m0 ≤ 9223372036854775807) (b1 : Bool) {A1 : Option Addr} {n1 c1 : Nat} {l1 : List Nat} (hl1 : Lim w.heap.size w A1 n1 c1 l1) (hs1 : n1 ≤ 9223372036854775807) {B1 : Option Addr} {m1 d1 : Nat} {k1 : List Nat} (hk1 : Lim w.heap.size w B1 m1 d1 k1) (ht1 : m1 ≤ 9223372036854775807) (j : Int) (hj : (Lit.int .i64 j).wf = true) :
    Calls Try.prog 7 #[.agg #[.bool b0, .slice A0 n0 c0, .slice B0 m0 d0], .agg #[.bool b1, .slice A1 n1 c1, .slice B1 m1 d1], .int .i64 j] w fun e w' => e = .returned (.bool true) ∧ Below w.heap.size w w' := by
  have G : ∀ {b : Bool} {A B : Option Addr} {n c m d : Nat} {l k : List Nat} (r : Bool), Lim w.heap.size w A n c l → Lim w.heap.size w B m d k → (decide ((n : Int) ≤ 3) && (decide ((m : Int) ≤ 3) && okR b n l m k)) = r → ∀ W : World, Below w.heap.size w W → Calls Try.prog 9 #[.agg #[.bool b, .slice A n c, .slice B m d], .int .i64 3] W (GotV W (.bool r)) := fun r hl hk hr W hW => rtfew_any (hl.on hW) (hk.on hW) 3 (by omega) r hr
  cases e0 : (decide ((n0 : Int) ≤ 3) && (decide ((m0 : Int) ≤ 3) && okR b0 n0 l0 m0 k0)) with
  | false => exact DyadSums_no0  (G false hl0 hk0 e0)
  | true =>
    cases e1 : (decide ((n1 : Int) ≤ 3) && (decide ((m1 : Int) ≤ 3) && okR b1 n1 l1 m1 k1)) with
    | false => exact DyadSums_no1 (G true hl0 hk0 e0) (G false hl1 hk1 e1)
    | true =>
      by_cases j0 : j < 0
      · exact DyadSums_no2 (G true hl0 hk0 e0) (G true hl1 hk1 e1) j0
      by_cases j1 : 400 < j
      · exact DyadSums_no3 (G true hl0 hk0 e0) (G true hl1 hk1 e1) j1
      obtain ⟨x0, h0, s0⟩ := few_rt 3 hl0 hk0 e0
      obtain ⟨x1, h1, s1⟩ := few_rt 3 hl1 hk1 e1
      exact DyadSums_ok h0 s0 h1 s1 (G true hl0 hk0 e0) (G true hl1 hk1 e1) (by omega) (by omega)

end Go.Proofs.Ytchbhmcaalkfdaa
