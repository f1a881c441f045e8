/-
  The walk of DyadTells.
-/
import Derived.Test.YtchbhmcaalkfdaaB2
import Derived.Test.YtchbhmcaalkfdaaA2
namespace Go.Proofs.Ytchbhmcaalkfdaa
open Go.RowKit
set_option linter.unusedVariables false
set_option linter.unusedSimpArgs false

set_option maxRecDepth 100000 in
set_option maxHeartbeats 8000000 in
theorem DyadTells_no0 {w : World} {b0 : Bool} {A0 B0 : Option Addr} {n0 c0 m0 d0 : Nat} {b1 : Bool} {A1 : Option Addr} {n1 c1 : Nat} {j : Int} (G0 : ∀ W : World, Below w.heap.size w W → Calls Try.prog 9 #[.agg #[.bool b0, .slice A0 n0 c0, .slice B0 m0 d0], .int .i64 4] W (GotV W (.bool false))) :
    Calls Try.prog 3 #[.agg #[.bool b0, .slice A0 n0 c0, .slice B0 m0 d0], .agg #[.bool b1, .slice A1 n1 c1], .int .i64 j] w fun e w' => e = .returned (.bool true) ∧ Below w.heap.size w w' := by
  have cc := Below.refl w.heap.size w
  go_enter Try.func3, Try.ntmps3
  go_wp2_with fail
  have bA : Below w.heap.size w ((w.alloc (.cells #[.bool b0, .slice A0 n0 c0, .slice B0 m0 d0] 27)).alloc (.cells #[.bool b1, .slice A1 n1 c1] 25)) := (((Below.refl _ w).alloc (by simp) _).alloc (by simp) _)
  replace cc := bK cc bA
  clear bA
  have pa0 : ((w.alloc (.cells #[.bool b0, .slice A0 n0 c0, .slice B0 m0 d0] 27)).alloc (.cells #[.bool b1, .slice A1 n1 c1] 25)).cell? ⟨w.heap.size, 0, none⟩ = some (.bool b0) := by simp [go_sem]
  have pa1 : ((w.alloc (.cells #[.bool b0, .slice A0 n0 c0, .slice B0 m0 d0] 27)).alloc (.cells #[.bool b1, .slice A1 n1 c1] 25)).cell? ⟨w.heap.size, 1, none⟩ = some (.slice A0 n0 c0) := by simp [go_sem]
  have pa2 : ((w.alloc (.cells #[.bool b0, .slice A0 n0 c0, .slice B0 m0 d0] 27)).alloc (.cells #[.bool b1, .slice A1 n1 c1] 25)).cell? ⟨w.heap.size, 2, none⟩ = some (.slice B0 m0 d0) := by simp [go_sem]
  have pal : w.heap.size < ((w.alloc (.cells #[.bool b0, .slice A0 n0 c0, .slice B0 m0 d0] 27)).alloc (.cells #[.bool b1, .slice A1 n1 c1] 25)).heap.size := by simp <;> omega
  have pb0 : ((w.alloc (.cells #[.bool b0, .slice A0 n0 c0, .slice B0 m0 d0] 27)).alloc (.cells #[.bool b1, .slice A1 n1 c1] 25)).cell? ⟨w.heap.size + 1, 0, none⟩ = some (.bool b1) := by simp [go_sem]
  have pb1 : ((w.alloc (.cells #[.bool b0, .slice A0 n0 c0, .slice B0 m0 d0] 27)).alloc (.cells #[.bool b1, .slice A1 n1 c1] 25)).cell? ⟨w.heap.size + 1, 1, none⟩ = some (.slice A1 n1 c1) := by simp [go_sem]
  have pbl : w.heap.size + 1 < ((w.alloc (.cells #[.bool b0, .slice A0 n0 c0, .slice B0 m0 d0] 27)).alloc (.cells #[.bool b1, .slice A1 n1 c1] 25)).heap.size := by simp <;> omega
  generalize (w.alloc (.cells #[.bool b0, .slice A0 n0 c0, .slice B0 m0 d0] 27)).alloc (.cells #[.bool b1, .slice A1 n1 c1] 25) = v1 at *
  refine (G0 _ cc).mono ?_
  rintro e w2 ⟨rfl, b⟩
  replace pa0 := cK b pa0 pal
  replace pa1 := cK b pa1 pal
  replace pa2 := cK b pa2 pal
  replace pal := lK b pal
  replace pb0 := cK b pb0 pbl
  replace pb1 := cK b pb1 pbl
  replace pbl := lK b pbl
  replace cc := bK cc b
  clear b
  go_wp2_with fail
  refine (alive6_any _).mono ?_
  rintro e w3 ⟨rfl, b⟩
  replace pa0 := cK b pa0 pal
  replace pa1 := cK b pa1 pal
  replace pa2 := cK b pa2 pal
  replace pal := lK b pal
  replace pb0 := cK b pb0 pbl
  replace pb1 := cK b pb1 pbl
  replace pbl := lK b pbl
  replace cc := bK cc b
  clear b
  go_wp2_with fail
  go_ret
  exact ⟨rfl, cc⟩

set_option maxRecDepth 100000 in
set_option maxHeartbeats 8000000 in
theorem DyadTells_no1 {w : World} {b0 : Bool} {A0 B0 : Option Addr} {n0 c0 m0 d0 : Nat} {b1 : Bool} {A1 : Option Addr} {n1 c1 : Nat} {j : Int} (G0 : ∀ W : World, Below w.heap.size w W → Calls Try.prog 9 #[.agg #[.bool b0, .slice A0 n0 c0, .slice B0 m0 d0], .int .i64 4] W (GotV W (.bool true))) (G1 : ∀ W : World, Below w.heap.size w W → Calls Try.prog 10 #[.agg #[.bool b1, .slice A1 n1 c1], .int .i64 4] W (GotV W (.bool false))) :
    Calls Try.prog 3 #[.agg #[.bool b0, .slice A0 n0 c0, .slice B0 m0 d0], .agg #[.bool b1, .slice A1 n1 c1], .int .i64 j] w fun e w' => e = .returned (.bool true) ∧ Below w.heap.size w w' := by
  have cc := Below.refl w.heap.size w
  go_enter Try.func3, Try.ntmps3
  go_wp2_with fail
  have bA : Below w.heap.size w ((w.alloc (.cells #[.bool b0, .slice A0 n0 c0, .slice B0 m0 d0] 27)).alloc (.cells #[.bool b1, .slice A1 n1 c1] 25)) := (((Below.refl _ w).alloc (by simp) _).alloc (by simp) _)
  replace cc := bK cc bA
  clear bA
  have pa0 : ((w.alloc (.cells #[.bool b0, .slice A0 n0 c0, .slice B0 m0 d0] 27)).alloc (.cells #[.bool b1, .slice A1 n1 c1] 25)).cell? ⟨w.heap.size, 0, none⟩ = some (.bool b0) := by simp [go_sem]
  have pa1 : ((w.alloc (.cells #[.bool b0, .slice A0 n0 c0, .slice B0 m0 d0] 27)).alloc (.cells #[.bool b1, .slice A1 n1 c1] 25)).cell? ⟨w.heap.size, 1, none⟩ = some (.slice A0 n0 c0) := by simp [go_sem]
  have pa2 : ((w.alloc (.cells #[.bool b0, .slice A0 n0 c0, .slice B0 m0 d0] 27)).alloc (.cells #[.bool b1, .slice A1 n1 c1] 25)).cell? ⟨w.heap.size, 2, none⟩ = some (.slice B0 m0 d0) := by simp [go_sem]
  have pal : w.heap.size < ((w.alloc (.cells #[.bool b0, .slice A0 n0 c0, .slice B0 m0 d0] 27)).alloc (.cells #[.bool b1, .slice A1 n1 c1] 25)).heap.size := by simp <;> omega
  have pb0 : ((w.alloc (.cells #[.bool b0, .slice A0 n0 c0, .slice B0 m0 d0] 27)).alloc (.cells #[.bool b1, .slice A1 n1 c1] 25)).cell? ⟨w.heap.size + 1, 0, none⟩ = some (.bool b1) := by simp [go_sem]
  have pb1 : ((w.alloc (.cells #[.bool b0, .slice A0 n0 c0, .slice B0 m0 d0] 27)).alloc (.cells #[.bool b1, .slice A1 n1 c1] 25)).cell? ⟨w.heap.size + 1, 1, none⟩ = some (.slice A1 n1 c1) := by simp [go_sem]
  have pbl : w.heap.size + 1 < ((w.alloc (.cells #[.bool b0, .slice A0 n0 c0, .slice B0 m0 d0] 27)).alloc (.cells #[.bool b1, .slice A1 n1 c1] 25)).heap.size := by simp <;> omega
  generalize (w.alloc (.cells #[.bool b0, .slice A0 n0 c0, .slice B0 m0 d0] 27)).alloc (.cells #[.bool b1, .slice A1 n1 c1] 25) = v1 at *
  refine (G0 _ cc).mono ?_
  rintro e w2 ⟨rfl, b⟩
  replace pa0 := cK b pa0 pal
  replace pa1 := cK b pa1 pal
  replace pa2 := cK b pa2 pal
  replace pal := lK b pal
  replace pb0 := cK b pb0 pbl
  replace pb1 := cK b pb1 pbl
  replace pbl := lK b pbl
  replace cc := bK cc b
  clear b
  go_wp2_with fail
  refine (G1 _ cc).mono ?_
  rintro e w3 ⟨rfl, b⟩
  replace pa0 := cK b pa0 pal
  replace pa1 := cK b pa1 pal
  replace pa2 := cK b pa2 pal
  replace pal := lK b pal
  replace pb0 := cK b pb0 pbl
  replace pb1 := cK b pb1 pbl
  replace pbl := lK b pbl
  replace cc := bK cc b
  clear b
  go_wp2_with fail
  refine (alive6_any _).mono ?_
  rintro e w4 ⟨rfl, b⟩
  replace pa0 := cK b pa0 pal
  replace pa1 := cK b pa1 pal
  replace pa2 := cK b pa2 pal
  replace pal := lK b pal
  replace pb0 := cK b pb0 pbl
  replace pb1 := cK b pb1 pbl
  replace pbl := lK b pbl
  replace cc := bK cc b
  clear b
  go_wp2_with fail
  go_ret
  exact ⟨rfl, cc⟩

set_option maxRecDepth 100000 in
set_option maxHeartbeats 8000000 in
theorem DyadTells_no2 {w : World} {b0 : Bool} {A0 B0 : Option Addr} {n0 c0 m0 d0 : Nat} {b1 : Bool} {A1 : Option Addr} {n1 c1 : Nat} {j : Int} (G0 : ∀ W : World, Below w.heap.size w W → Calls Try.prog 9 #[.agg #[.bool b0, .slice A0 n0 c0, .slice B0 m0 d0], .int .i64 4] W (GotV W (.bool true))) (G1 : ∀ W : World, Below w.heap.size w W → Calls Try.prog 10 #[.agg #[.bool b1, .slice A1 n1 c1], .int .i64 4] W (GotV W (.bool true))) (ha : 400 < j) (hb : j ≤ 2000) :
    Calls Try.prog 3 #[.agg #[.bool b0, .slice A0 n0 c0, .slice B0 m0 d0], .agg #[.bool b1, .slice A1 n1 c1], .int .i64 j] w fun e w' => e = .returned (.bool true) ∧ Below w.heap.size w w' := by
  have t1 : decide (400 < j) = true := decide_eq_true ha
  have t2 : decide (j ≤ 2000) = true := decide_eq_true hb
  have cc := Below.refl w.heap.size w
  go_enter Try.func3, Try.ntmps3
  go_wp2_with fail
  have bA : Below w.heap.size w ((w.alloc (.cells #[.bool b0, .slice A0 n0 c0, .slice B0 m0 d0] 27)).alloc (.cells #[.bool b1, .slice A1 n1 c1] 25)) := (((Below.refl _ w).alloc (by simp) _).alloc (by simp) _)
  replace cc := bK cc bA
  clear bA
  have pa0 : ((w.alloc (.cells #[.bool b0, .slice A0 n0 c0, .slice B0 m0 d0] 27)).alloc (.cells #[.bool b1, .slice A1 n1 c1] 25)).cell? ⟨w.heap.size, 0, none⟩ = some (.bool b0) := by simp [go_sem]
  have pa1 : ((w.alloc (.cells #[.bool b0, .slice A0 n0 c0, .slice B0 m0 d0] 27)).alloc (.cells #[.bool b1, .slice A1 n1 c1] 25)).cell? ⟨w.heap.size, 1, none⟩ = some (.slice A0 n0 c0) := by simp [go_sem]
  have pa2 : ((w.alloc (.cells #[.bool b0, .slice A0 n0 c0, .slice B0 m0 d0] 27)).alloc (.cells #[.bool b1, .slice A1 n1 c1] 25)).cell? ⟨w.heap.size, 2, none⟩ = some (.slice B0 m0 d0) := by simp [go_sem]
  have pal : w.heap.size < ((w.alloc (.cells #[.bool b0, .slice A0 n0 c0, .slice B0 m0 d0] 27)).alloc (.cells #[.bool b1, .slice A1 n1 c1] 25)).heap.size := by simp <;> omega
  have pb0 : ((w.alloc (.cells #[.bool b0, .slice A0 n0 c0, .slice B0 m0 d0] 27)).alloc (.cells #[.bool b1, .slice A1 n1 c1] 25)).cell? ⟨w.heap.size + 1, 0, none⟩ = some (.bool b1) := by simp [go_sem]
  have pb1 : ((w.alloc (.cells #[.bool b0, .slice A0 n0 c0, .slice B0 m0 d0] 27)).alloc (.cells #[.bool b1, .slice A1 n1 c1] 25)).cell? ⟨w.heap.size + 1, 1, none⟩ = some (.slice A1 n1 c1) := by simp [go_sem]
  have pbl : w.heap.size + 1 < ((w.alloc (.cells #[.bool b0, .slice A0 n0 c0, .slice B0 m0 d0] 27)).alloc (.cells #[.bool b1, .slice A1 n1 c1] 25)).heap.size := by simp <;> omega
  generalize (w.alloc (.cells #[.bool b0, .slice A0 n0 c0, .slice B0 m0 d0] 27)).alloc (.cells #[.bool b1, .slice A1 n1 c1] 25) = v1 at *
  refine (G0 _ cc).mono ?_
  rintro e w2 ⟨rfl, b⟩
  replace pa0 := cK b pa0 pal
  replace pa1 := cK b pa1 pal
  replace pa2 := cK b pa2 pal
  replace pal := lK b pal
  replace pb0 := cK b pb0 pbl
  replace pb1 := cK b pb1 pbl
  replace pbl := lK b pbl
  replace cc := bK cc b
  clear b
  go_wp2_with fail
  refine (G1 _ cc).mono ?_
  rintro e w3 ⟨rfl, b⟩
  replace pa0 := cK b pa0 pal
  replace pa1 := cK b pa1 pal
  replace pa2 := cK b pa2 pal
  replace pal := lK b pal
  replace pb0 := cK b pb0 pbl
  replace pb1 := cK b pb1 pbl
  replace pbl := lK b pbl
  replace cc := bK cc b
  clear b
  go_wp2_with fail
  refine (alive6_any _).mono ?_
  rintro e w4 ⟨rfl, b⟩
  replace pa0 := cK b pa0 pal
  replace pa1 := cK b pa1 pal
  replace pa2 := cK b pa2 pal
  replace pal := lK b pal
  replace pb0 := cK b pb0 pbl
  replace pb1 := cK b pb1 pbl
  replace pbl := lK b pbl
  replace cc := bK cc b
  clear b
  go_wp2_with fail
  go_ret
  exact ⟨rfl, cc⟩

set_option maxRecDepth 100000 in
set_option maxHeartbeats 8000000 in
theorem DyadTells_ok {w : World} {b0 : Bool} {A0 B0 : Option Addr} {n0 c0 m0 d0 : Nat} {b1 : Bool} {A1 : Option Addr} {n1 c1 : Nat} {j : Int} {x0 : Rat} (h0 : Rt w b0 A0 n0 c0 B0 m0 d0 x0) {z1 : Int} (h1 : Zn w b1 A1 n1 c1 z1) {zf zc zn rc : Int} {rb : Rat} (sb : Sz rb 100) (lf : (limbs zf.natAbs).length ≤ 300) (lc : (limbs zc.natAbs).length ≤ 300) (ln : (limbs zn.natAbs).length ≤ 300) (G0 : ∀ W : World, Below w.heap.size w W → Calls Try.prog 9 #[.agg #[.bool b0, .slice A0 n0 c0, .slice B0 m0 d0], .int .i64 4] W (GotV W (.bool true))) (G1 : ∀ W : World, Below w.heap.size w W → Calls Try.prog 10 #[.agg #[.bool b1, .slice A1 n1 c1], .int .i64 4] W (GotV W (.bool true))) (hj : j ≤ 400) (CF : ∀ {W : World} {b : Bool} {A B : Option Addr} {n c m d : Nat}, Rt W b A n c B m d x0 → Calls Try.prog 12 #[.agg #[.bool b, .slice A n c, .slice B m d], .int .i64 j] W (GotZp W zf rc)) (RF : ∀ {W : World} {b : Bool} {A B : Option Addr} {n c m d : Nat}, Rt W b A n c B m d x0 → Calls Try.prog 13 #[.agg #[.bool b, .slice A n c, .slice B m d], .int .i64 j] W (GotZp W zf rc)) (CC : ∀ {W : World} {b : Bool} {A B : Option Addr} {n c m d : Nat}, Rt W b A n c B m d x0 → Calls Try.prog 14 #[.agg #[.bool b, .slice A n c, .slice B m d], .int .i64 j] W (GotZp W zc rc)) (RC : ∀ {W : World} {b : Bool} {A B : Option Addr} {n c m d : Nat}, Rt W b A n c B m d x0 → Calls Try.prog 15 #[.agg #[.bool b, .slice A n c, .slice B m d], .int .i64 j] W (GotZp W zc rc)) (CN : ∀ {W : World} {b : Bool} {A B : Option Addr} {n c m d : Nat}, Rt W b A n c B m d x0 → Calls Try.prog 16 #[.agg #[.bool b, .slice A n c, .slice B m d], .int .i64 j] W (GotZp W zn rc)) (RN : ∀ {W : World} {b : Bool} {A B : Option Addr} {n c m d : Nat}, Rt W b A n c B m d x0 → Calls Try.prog 17 #[.agg #[.bool b, .slice A n c, .slice B m d], .int .i64 j] W (GotZp W zn rc)) (CB : ∀ {W : World} {b : Bool} {A : Option Addr} {n c : Nat}, Zn W b A n c z1 → Calls Try.prog 18 #[.agg #[.bool b, .slice A n c], .int .i64 j] W (GotRp W rb rc)) (RB : ∀ {W : World} {b : Bool} {A : Option Addr} {n c : Nat}, Zn W b A n c z1 → Calls Try.prog 19 #[.agg #[.bool b, .slice A n c], .int .i64 j] W (GotRp W rb rc)) :
    Calls Try.prog 3 #[.agg #[.bool b0, .slice A0 n0 c0, .slice B0 m0 d0], .agg #[.bool b1, .slice A1 n1 c1], .int .i64 j] w fun e w' => e = .returned (.bool true) ∧ Below w.heap.size w w' := by
  have t1 : decide (400 < j) = false := decide_eq_false (by omega)
  have cc := Below.refl w.heap.size w
  go_enter Try.func3, Try.ntmps3
  go_wp2_with fail
  have bA : Below w.heap.size w ((w.alloc (.cells #[.bool b0, .slice A0 n0 c0, .slice B0 m0 d0] 27)).alloc (.cells #[.bool b1, .slice A1 n1 c1] 25)) := (((Below.refl _ w).alloc (by simp) _).alloc (by simp) _)
  replace h0 := h0.on bA
  replace h1 := h1.on bA
  replace cc := bK cc bA
  clear bA
  have pa0 : ((w.alloc (.cells #[.bool b0, .slice A0 n0 c0, .slice B0 m0 d0] 27)).alloc (.cells #[.bool b1, .slice A1 n1 c1] 25)).cell? ⟨w.heap.size, 0, none⟩ = some (.bool b0) := by simp [go_sem]
  have pa1 : ((w.alloc (.cells #[.bool b0, .slice A0 n0 c0, .slice B0 m0 d0] 27)).alloc (.cells #[.bool b1, .slice A1 n1 c1] 25)).cell? ⟨w.heap.size, 1, none⟩ = some (.slice A0 n0 c0) := by simp [go_sem]
  have pa2 : ((w.alloc (.cells #[.bool b0, .slice A0 n0 c0, .slice B0 m0 d0] 27)).alloc (.cells #[.bool b1, .slice A1 n1 c1] 25)).cell? ⟨w.heap.size, 2, none⟩ = some (.slice B0 m0 d0) := by simp [go_sem]
  have pal : w.heap.size < ((w.alloc (.cells #[.bool b0, .slice A0 n0 c0, .slice B0 m0 d0] 27)).alloc (.cells #[.bool b1, .slice A1 n1 c1] 25)).heap.size := by simp <;> omega
  have pb0 : ((w.alloc (.cells #[.bool b0, .slice A0 n0 c0, .slice B0 m0 d0] 27)).alloc (.cells #[.bool b1, .slice A1 n1 c1] 25)).cell? ⟨w.heap.size + 1, 0, none⟩ = some (.bool b1) := by simp [go_sem]
  have pb1 : ((w.alloc (.cells #[.bool b0, .slice A0 n0 c0, .slice B0 m0 d0] 27)).alloc (.cells #[.bool b1, .slice A1 n1 c1] 25)).cell? ⟨w.heap.size + 1, 1, none⟩ = some (.slice A1 n1 c1) := by simp [go_sem]
  have pbl : w.heap.size + 1 < ((w.alloc (.cells #[.bool b0, .slice A0 n0 c0, .slice B0 m0 d0] 27)).alloc (.cells #[.bool b1, .slice A1 n1 c1] 25)).heap.size := by simp <;> omega
  generalize (w.alloc (.cells #[.bool b0, .slice A0 n0 c0, .slice B0 m0 d0] 27)).alloc (.cells #[.bool b1, .slice A1 n1 c1] 25) = v1 at *
  refine (G0 _ cc).mono ?_
  rintro e w2 ⟨rfl, b⟩
  replace h0 := h0.on b
  replace h1 := h1.on b
  replace pa0 := cK b pa0 pal
  replace pa1 := cK b pa1 pal
  replace pa2 := cK b pa2 pal
  replace pal := lK b pal
  replace pb0 := cK b pb0 pbl
  replace pb1 := cK b pb1 pbl
  replace pbl := lK b pbl
  replace cc := bK cc b
  clear b
  go_wp2_with fail
  refine (G1 _ cc).mono ?_
  rintro e w3 ⟨rfl, b⟩
  replace h0 := h0.on b
  replace h1 := h1.on b
  replace pa0 := cK b pa0 pal
  replace pa1 := cK b pa1 pal
  replace pa2 := cK b pa2 pal
  replace pal := lK b pal
  replace pb0 := cK b pb0 pbl
  replace pb1 := cK b pb1 pbl
  replace pbl := lK b pbl
  replace cc := bK cc b
  clear b
  go_wp2_with fail
  refine (CF h0).mono ?_
  rintro e w4 ⟨bbx, Abx, nbx, cbx, rfl, hbx, b⟩
  replace h0 := h0.on b
  replace h1 := h1.on b
  replace pa0 := cK b pa0 pal
  replace pa1 := cK b pa1 pal
  replace pa2 := cK b pa2 pal
  replace pal := lK b pal
  replace pb0 := cK b pb0 pbl
  replace pb1 := cK b pb1 pbl
  replace pbl := lK b pbl
  replace cc := bK cc b
  clear b
  go_wp2_with fail
  have bA := below_one w4 (.cells #[.bool bbx, .slice Abx nbx cbx] 25)
  replace h0 := h0.on bA
  replace h1 := h1.on bA
  replace hbx := hbx.on bA
  replace pa0 := cK bA pa0 pal
  replace pa1 := cK bA pa1 pal
  replace pa2 := cK bA pa2 pal
  replace pal := lK bA pal
  replace pb0 := cK bA pb0 pbl
  replace pb1 := cK bA pb1 pbl
  replace pbl := lK bA pbl
  replace cc := bK cc bA
  clear bA
  have bx0 : (w4.alloc (.cells #[.bool bbx, .slice Abx nbx cbx] 25)).cell? ⟨w4.heap.size, 0, none⟩ = some (.bool bbx) := by simp [go_sem]
  have bx1 : (w4.alloc (.cells #[.bool bbx, .slice Abx nbx cbx] 25)).cell? ⟨w4.heap.size, 1, none⟩ = some (.slice Abx nbx cbx) := by simp [go_sem]
  have bxl : w4.heap.size < (w4.alloc (.cells #[.bool bbx, .slice Abx nbx cbx] 25)).heap.size := by simp
  generalize w4.alloc (.cells #[.bool bbx, .slice Abx nbx cbx] 25) = v5 at *
  refine (RF h0).mono ?_
  rintro e w6 ⟨bbi, Abi, nbi, cbi, rfl, hbi, b⟩
  replace h0 := h0.on b
  replace h1 := h1.on b
  replace hbx := hbx.on b
  replace pa0 := cK b pa0 pal
  replace pa1 := cK b pa1 pal
  replace pa2 := cK b pa2 pal
  replace pal := lK b pal
  replace pb0 := cK b pb0 pbl
  replace pb1 := cK b pb1 pbl
  replace pbl := lK b pbl
  replace bx0 := cK b bx0 bxl
  replace bx1 := cK b bx1 bxl
  replace bxl := lK b bxl
  replace cc := bK cc b
  clear b
  go_wp2_with fail
  have bA := below_one w6 (.cells #[.bool bbi, .slice Abi nbi cbi] 25)
  replace h0 := h0.on bA
  replace h1 := h1.on bA
  replace hbx := hbx.on bA
  replace hbi := hbi.on bA
  replace pa0 := cK bA pa0 pal
  replace pa1 := cK bA pa1 pal
  replace pa2 := cK bA pa2 pal
  replace pal := lK bA pal
  replace pb0 := cK bA pb0 pbl
  replace pb1 := cK bA pb1 pbl
  replace pbl := lK bA pbl
  replace bx0 := cK bA bx0 bxl
  replace bx1 := cK bA bx1 bxl
  replace bxl := lK bA bxl
  replace cc := bK cc bA
  clear bA
  have bi0 : (w6.alloc (.cells #[.bool bbi, .slice Abi nbi cbi] 25)).cell? ⟨w6.heap.size, 0, none⟩ = some (.bool bbi) := by simp [go_sem]
  have bi1 : (w6.alloc (.cells #[.bool bbi, .slice Abi nbi cbi] 25)).cell? ⟨w6.heap.size, 1, none⟩ = some (.slice Abi nbi cbi) := by simp [go_sem]
  have bil : w6.heap.size < (w6.alloc (.cells #[.bool bbi, .slice Abi nbi cbi] 25)).heap.size := by simp
  generalize w6.alloc (.cells #[.bool bbi, .slice Abi nbi cbi] 25) = v7 at *
  refine (CC h0).mono ?_
  rintro e w8 ⟨bbu, Abu, nbu, cbu, rfl, hbu, b⟩
  replace h0 := h0.on b
  replace h1 := h1.on b
  replace hbx := hbx.on b
  replace hbi := hbi.on b
  replace pa0 := cK b pa0 pal
  replace pa1 := cK b pa1 pal
  replace pa2 := cK b pa2 pal
  replace pal := lK b pal
  replace pb0 := cK b pb0 pbl
  replace pb1 := cK b pb1 pbl
  replace pbl := lK b pbl
  replace bx0 := cK b bx0 bxl
  replace bx1 := cK b bx1 bxl
  replace bxl := lK b bxl
  replace bi0 := cK b bi0 bil
  replace bi1 := cK b bi1 bil
  replace bil := lK b bil
  replace cc := bK cc b
  clear b
  go_wp2_with fail
  have bA := below_one w8 (.cells #[.bool bbu, .slice Abu nbu cbu] 25)
  replace h0 := h0.on bA
  replace h1 := h1.on bA
  replace hbx := hbx.on bA
  replace hbi := hbi.on bA
  replace hbu := hbu.on bA
  replace pa0 := cK bA pa0 pal
  replace pa1 := cK bA pa1 pal
  replace pa2 := cK bA pa2 pal
  replace pal := lK bA pal
  replace pb0 := cK bA pb0 pbl
  replace pb1 := cK bA pb1 pbl
  replace pbl := lK bA pbl
  replace bx0 := cK bA bx0 bxl
  replace bx1 := cK bA bx1 bxl
  replace bxl := lK bA bxl
  replace bi0 := cK bA bi0 bil
  replace bi1 := cK bA bi1 bil
  replace bil := lK bA bil
  replace cc := bK cc bA
  clear bA
  have bu0 : (w8.alloc (.cells #[.bool bbu, .slice Abu nbu cbu] 25)).cell? ⟨w8.heap.size, 0, none⟩ = some (.bool bbu) := by simp [go_sem]
  have bu1 : (w8.alloc (.cells #[.bool bbu, .slice Abu nbu cbu] 25)).cell? ⟨w8.heap.size, 1, none⟩ = some (.slice Abu nbu cbu) := by simp [go_sem]
  have bul : w8.heap.size < (w8.alloc (.cells #[.bool bbu, .slice Abu nbu cbu] 25)).heap.size := by simp
  generalize w8.alloc (.cells #[.bool bbu, .slice Abu nbu cbu] 25) = v9 at *
  refine (RC h0).mono ?_
  rintro e w10 ⟨bbv, Abv, nbv, cbv, rfl, hbv, b⟩
  replace h0 := h0.on b
  replace h1 := h1.on b
  replace hbx := hbx.on b
  replace hbi := hbi.on b
  replace hbu := hbu.on b
  replace pa0 := cK b pa0 pal
  replace pa1 := cK b pa1 pal
  replace pa2 := cK b pa2 pal
  replace pal := lK b pal
  replace pb0 := cK b pb0 pbl
  replace pb1 := cK b pb1 pbl
  replace pbl := lK b pbl
  replace bx0 := cK b bx0 bxl
  replace bx1 := cK b bx1 bxl
  replace bxl := lK b bxl
  replace bi0 := cK b bi0 bil
  replace bi1 := cK b bi1 bil
  replace bil := lK b bil
  replace bu0 := cK b bu0 bul
  replace bu1 := cK b bu1 bul
  replace bul := lK b bul
  replace cc := bK cc b
  clear b
  go_wp2_with fail
  have bA := below_one w10 (.cells #[.bool bbv, .slice Abv nbv cbv] 25)
  replace h0 := h0.on bA
  replace h1 := h1.on bA
  replace hbx := hbx.on bA
  replace hbi := hbi.on bA
  replace hbu := hbu.on bA
  replace hbv := hbv.on bA
  replace pa0 := cK bA pa0 pal
  replace pa1 := cK bA pa1 pal
  replace pa2 := cK bA pa2 pal
  replace pal := lK bA pal
  replace pb0 := cK bA pb0 pbl
  replace pb1 := cK bA pb1 pbl
  replace pbl := lK bA pbl
  replace bx0 := cK bA bx0 bxl
  replace bx1 := cK bA bx1 bxl
  replace bxl := lK bA bxl
  replace bi0 := cK bA bi0 bil
  replace bi1 := cK bA bi1 bil
  replace bil := lK bA bil
  replace bu0 := cK bA bu0 bul
  replace bu1 := cK bA bu1 bul
  replace bul := lK bA bul
  replace cc := bK cc bA
  clear bA
  have bv0 : (w10.alloc (.cells #[.bool bbv, .slice Abv nbv cbv] 25)).cell? ⟨w10.heap.size, 0, none⟩ = some (.bool bbv) := by simp [go_sem]
  have bv1 : (w10.alloc (.cells #[.bool bbv, .slice Abv nbv cbv] 25)).cell? ⟨w10.heap.size, 1, none⟩ = some (.slice Abv nbv cbv) := by simp [go_sem]
  have bvl : w10.heap.size < (w10.alloc (.cells #[.bool bbv, .slice Abv nbv cbv] 25)).heap.size := by simp
  generalize w10.alloc (.cells #[.bool bbv, .slice Abv nbv cbv] 25) = v11 at *
  refine (CN h0).mono ?_
  rintro e w12 ⟨bbp, Abp, nbp, cbp, rfl, hbp, b⟩
  replace h0 := h0.on b
  replace h1 := h1.on b
  replace hbx := hbx.on b
  replace hbi := hbi.on b
  replace hbu := hbu.on b
  replace hbv := hbv.on b
  replace pa0 := cK b pa0 pal
  replace pa1 := cK b pa1 pal
  replace pa2 := cK b pa2 pal
  replace pal := lK b pal
  replace pb0 := cK b pb0 pbl
  replace pb1 := cK b pb1 pbl
  replace pbl := lK b pbl
  replace bx0 := cK b bx0 bxl
  replace bx1 := cK b bx1 bxl
  replace bxl := lK b bxl
  replace bi0 := cK b bi0 bil
  replace bi1 := cK b bi1 bil
  replace bil := lK b bil
  replace bu0 := cK b bu0 bul
  replace bu1 := cK b bu1 bul
  replace bul := lK b bul
  replace bv0 := cK b bv0 bvl
  replace bv1 := cK b bv1 bvl
  replace bvl := lK b bvl
  replace cc := bK cc b
  clear b
  go_wp2_with fail
  have bA := below_one w12 (.cells #[.bool bbp, .slice Abp nbp cbp] 25)
  replace h0 := h0.on bA
  replace h1 := h1.on bA
  replace hbx := hbx.on bA
  replace hbi := hbi.on bA
  replace hbu := hbu.on bA
  replace hbv := hbv.on bA
  replace hbp := hbp.on bA
  replace pa0 := cK bA pa0 pal
  replace pa1 := cK bA pa1 pal
  replace pa2 := cK bA pa2 pal
  replace pal := lK bA pal
  replace pb0 := cK bA pb0 pbl
  replace pb1 := cK bA pb1 pbl
  replace pbl := lK bA pbl
  replace bx0 := cK bA bx0 bxl
  replace bx1 := cK bA bx1 bxl
  replace bxl := lK bA bxl
  replace bi0 := cK bA bi0 bil
  replace bi1 := cK bA bi1 bil
  replace bil := lK bA bil
  replace bu0 := cK bA bu0 bul
  replace bu1 := cK bA bu1 bul
  replace bul := lK bA bul
  replace bv0 := cK bA bv0 bvl
  replace bv1 := cK bA bv1 bvl
  replace bvl := lK bA bvl
  replace cc := bK cc bA
  clear bA
  have bp0 : (w12.alloc (.cells #[.bool bbp, .slice Abp nbp cbp] 25)).cell? ⟨w12.heap.size, 0, none⟩ = some (.bool bbp) := by simp [go_sem]
  have bp1 : (w12.alloc (.cells #[.bool bbp, .slice Abp nbp cbp] 25)).cell? ⟨w12.heap.size, 1, none⟩ = some (.slice Abp nbp cbp) := by simp [go_sem]
  have bpl : w12.heap.size < (w12.alloc (.cells #[.bool bbp, .slice Abp nbp cbp] 25)).heap.size := by simp
  generalize w12.alloc (.cells #[.bool bbp, .slice Abp nbp cbp] 25) = v13 at *
  refine (RN h0).mono ?_
  rintro e w14 ⟨bbq, Abq, nbq, cbq, rfl, hbq, b⟩
  replace h0 := h0.on b
  replace h1 := h1.on b
  replace hbx := hbx.on b
  replace hbi := hbi.on b
  replace hbu := hbu.on b
  replace hbv := hbv.on b
  replace hbp := hbp.on b
  replace pa0 := cK b pa0 pal
  replace pa1 := cK b pa1 pal
  replace pa2 := cK b pa2 pal
  replace pal := lK b pal
  replace pb0 := cK b pb0 pbl
  replace pb1 := cK b pb1 pbl
  replace pbl := lK b pbl
  replace bx0 := cK b bx0 bxl
  replace bx1 := cK b bx1 bxl
  replace bxl := lK b bxl
  replace bi0 := cK b bi0 bil
  replace bi1 := cK b bi1 bil
  replace bil := lK b bil
  replace bu0 := cK b bu0 bul
  replace bu1 := cK b bu1 bul
  replace bul := lK b bul
  replace bv0 := cK b bv0 bvl
  replace bv1 := cK b bv1 bvl
  replace bvl := lK b bvl
  replace bp0 := cK b bp0 bpl
  replace bp1 := cK b bp1 bpl
  replace bpl := lK b bpl
  replace cc := bK cc b
  clear b
  go_wp2_with fail
  have bA := below_one w14 (.cells #[.bool bbq, .slice Abq nbq cbq] 25)
  replace h0 := h0.on bA
  replace h1 := h1.on bA
  replace hbx := hbx.on bA
  replace hbi := hbi.on bA
  replace hbu := hbu.on bA
  replace hbv := hbv.on bA
  replace hbp := hbp.on bA
  replace hbq := hbq.on bA
  replace pa0 := cK bA pa0 pal
  replace pa1 := cK bA pa1 pal
  replace pa2 := cK bA pa2 pal
  replace pal := lK bA pal
  replace pb0 := cK bA pb0 pbl
  replace pb1 := cK bA pb1 pbl
  replace pbl := lK bA pbl
  replace bx0 := cK bA bx0 bxl
  replace bx1 := cK bA bx1 bxl
  replace bxl := lK bA bxl
  replace bi0 := cK bA bi0 bil
  replace bi1 := cK bA bi1 bil
  replace bil := lK bA bil
  replace bu0 := cK bA bu0 bul
  replace bu1 := cK bA bu1 bul
  replace bul := lK bA bul
  replace bv0 := cK bA bv0 bvl
  replace bv1 := cK bA bv1 bvl
  replace bvl := lK bA bvl
  replace bp0 := cK bA bp0 bpl
  replace bp1 := cK bA bp1 bpl
  replace bpl := lK bA bpl
  replace cc := bK cc bA
  clear bA
  have bq0 : (w14.alloc (.cells #[.bool bbq, .slice Abq nbq cbq] 25)).cell? ⟨w14.heap.size, 0, none⟩ = some (.bool bbq) := by simp [go_sem]
  have bq1 : (w14.alloc (.cells #[.bool bbq, .slice Abq nbq cbq] 25)).cell? ⟨w14.heap.size, 1, none⟩ = some (.slice Abq nbq cbq) := by simp [go_sem]
  have bql : w14.heap.size < (w14.alloc (.cells #[.bool bbq, .slice Abq nbq cbq] 25)).heap.size := by simp
  generalize w14.alloc (.cells #[.bool bbq, .slice Abq nbq cbq] 25) = v15 at *
  refine (CB h1).mono ?_
  rintro e w16 ⟨bbr, Abr, nbr, cbr, Bbr, mbr, dbr, rfl, hbr, b⟩
  replace h0 := h0.on b
  replace h1 := h1.on b
  replace hbx := hbx.on b
  replace hbi := hbi.on b
  replace hbu := hbu.on b
  replace hbv := hbv.on b
  replace hbp := hbp.on b
  replace hbq := hbq.on b
  replace pa0 := cK b pa0 pal
  replace pa1 := cK b pa1 pal
  replace pa2 := cK b pa2 pal
  replace pal := lK b pal
  replace pb0 := cK b pb0 pbl
  replace pb1 := cK b pb1 pbl
  replace pbl := lK b pbl
  replace bx0 := cK b bx0 bxl
  replace bx1 := cK b bx1 bxl
  replace bxl := lK b bxl
  replace bi0 := cK b bi0 bil
  replace bi1 := cK b bi1 bil
  replace bil := lK b bil
  replace bu0 := cK b bu0 bul
  replace bu1 := cK b bu1 bul
  replace bul := lK b bul
  replace bv0 := cK b bv0 bvl
  replace bv1 := cK b bv1 bvl
  replace bvl := lK b bvl
  replace bp0 := cK b bp0 bpl
  replace bp1 := cK b bp1 bpl
  replace bpl := lK b bpl
  replace bq0 := cK b bq0 bql
  replace bq1 := cK b bq1 bql
  replace bql := lK b bql
  replace cc := bK cc b
  clear b
  go_wp2_with fail
  have bA := below_one w16 (.cells #[.bool bbr, .slice Abr nbr cbr, .slice Bbr mbr dbr] 27)
  replace h0 := h0.on bA
  replace h1 := h1.on bA
  replace hbx := hbx.on bA
  replace hbi := hbi.on bA
  replace hbu := hbu.on bA
  replace hbv := hbv.on bA
  replace hbp := hbp.on bA
  replace hbq := hbq.on bA
  replace hbr := hbr.on bA
  replace pa0 := cK bA pa0 pal
  replace pa1 := cK bA pa1 pal
  replace pa2 := cK bA pa2 pal
  replace pal := lK bA pal
  replace pb0 := cK bA pb0 pbl
  replace pb1 := cK bA pb1 pbl
  replace pbl := lK bA pbl
  replace bx0 := cK bA bx0 bxl
  replace bx1 := cK bA bx1 bxl
  replace bxl := lK bA bxl
  replace bi0 := cK bA bi0 bil
  replace bi1 := cK bA bi1 bil
  replace bil := lK bA bil
  replace bu0 := cK bA bu0 bul
  replace bu1 := cK bA bu1 bul
  replace bul := lK bA bul
  replace bv0 := cK bA bv0 bvl
  replace bv1 := cK bA bv1 bvl
  replace bvl := lK bA bvl
  replace bp0 := cK bA bp0 bpl
  replace bp1 := cK bA bp1 bpl
  replace bpl := lK bA bpl
  replace bq0 := cK bA bq0 bql
  replace bq1 := cK bA bq1 bql
  replace bql := lK bA bql
  replace cc := bK cc bA
  clear bA
  have br0 : (w16.alloc (.cells #[.bool bbr, .slice Abr nbr cbr, .slice Bbr mbr dbr] 27)).cell? ⟨w16.heap.size, 0, none⟩ = some (.bool bbr) := by simp [go_sem]
  have br1 : (w16.alloc (.cells #[.bool bbr, .slice Abr nbr cbr, .slice Bbr mbr dbr] 27)).cell? ⟨w16.heap.size, 1, none⟩ = some (.slice Abr nbr cbr) := by simp [go_sem]
  have br2 : (w16.alloc (.cells #[.bool bbr, .slice Abr nbr cbr, .slice Bbr mbr dbr] 27)).cell? ⟨w16.heap.size, 2, none⟩ = some (.slice Bbr mbr dbr) := by simp [go_sem]
  have brl : w16.heap.size < (w16.alloc (.cells #[.bool bbr, .slice Abr nbr cbr, .slice Bbr mbr dbr] 27)).heap.size := by simp
  generalize w16.alloc (.cells #[.bool bbr, .slice Abr nbr cbr, .slice Bbr mbr dbr] 27) = v17 at *
  refine (RB h1).mono ?_
  rintro e w18 ⟨bbs, Abs, nbs, cbs, Bbs, mbs, dbs, rfl, hbs, b⟩
  replace h0 := h0.on b
  replace h1 := h1.on b
  replace hbx := hbx.on b
  replace hbi := hbi.on b
  replace hbu := hbu.on b
  replace hbv := hbv.on b
  replace hbp := hbp.on b
  replace hbq := hbq.on b
  replace hbr := hbr.on b
  replace pa0 := cK b pa0 pal
  replace pa1 := cK b pa1 pal
  replace pa2 := cK b pa2 pal
  replace pal := lK b pal
  replace pb0 := cK b pb0 pbl
  replace pb1 := cK b pb1 pbl
  replace pbl := lK b pbl
  replace bx0 := cK b bx0 bxl
  replace bx1 := cK b bx1 bxl
  replace bxl := lK b bxl
  replace bi0 := cK b bi0 bil
  replace bi1 := cK b bi1 bil
  replace bil := lK b bil
  replace bu0 := cK b bu0 bul
  replace bu1 := cK b bu1 bul
  replace bul := lK b bul
  replace bv0 := cK b bv0 bvl
  replace bv1 := cK b bv1 bvl
  replace bvl := lK b bvl
  replace bp0 := cK b bp0 bpl
  replace bp1 := cK b bp1 bpl
  replace bpl := lK b bpl
  replace bq0 := cK b bq0 bql
  replace bq1 := cK b bq1 bql
  replace bql := lK b bql
  replace br0 := cK b br0 brl
  replace br1 := cK b br1 brl
  replace br2 := cK b br2 brl
  replace brl := lK b brl
  replace cc := bK cc b
  clear b
  go_wp2_with fail
  have bA := below_one w18 (.cells #[.bool bbs, .slice Abs nbs cbs, .slice Bbs mbs dbs] 27)
  replace h0 := h0.on bA
  replace h1 := h1.on bA
  replace hbx := hbx.on bA
  replace hbi := hbi.on bA
  replace hbu := hbu.on bA
  replace hbv := hbv.on bA
  replace hbp := hbp.on bA
  replace hbq := hbq.on bA
  replace hbr := hbr.on bA
  replace hbs := hbs.on bA
  replace pa0 := cK bA pa0 pal
  replace pa1 := cK bA pa1 pal
  replace pa2 := cK bA pa2 pal
  replace pal := lK bA pal
  replace pb0 := cK bA pb0 pbl
  replace pb1 := cK bA pb1 pbl
  replace pbl := lK bA pbl
  replace bx0 := cK bA bx0 bxl
  replace bx1 := cK bA bx1 bxl
  replace bxl := lK bA bxl
  replace bi0 := cK bA bi0 bil
  replace bi1 := cK bA bi1 bil
  replace bil := lK bA bil
  replace bu0 := cK bA bu0 bul
  replace bu1 := cK bA bu1 bul
  replace bul := lK bA bul
  replace bv0 := cK bA bv0 bvl
  replace bv1 := cK bA bv1 bvl
  replace bvl := lK bA bvl
  replace bp0 := cK bA bp0 bpl
  replace bp1 := cK bA bp1 bpl
  replace bpl := lK bA bpl
  replace bq0 := cK bA bq0 bql
  replace bq1 := cK bA bq1 bql
  replace bql := lK bA bql
  replace br0 := cK bA br0 brl
  replace br1 := cK bA br1 brl
  replace br2 := cK bA br2 brl
  replace brl := lK bA brl
  replace cc := bK cc bA
  clear bA
  have bs0 : (w18.alloc (.cells #[.bool bbs, .slice Abs nbs cbs, .slice Bbs mbs dbs] 27)).cell? ⟨w18.heap.size, 0, none⟩ = some (.bool bbs) := by simp [go_sem]
  have bs1 : (w18.alloc (.cells #[.bool bbs, .slice Abs nbs cbs, .slice Bbs mbs dbs] 27)).cell? ⟨w18.heap.size, 1, none⟩ = some (.slice Abs nbs cbs) := by simp [go_sem]
  have bs2 : (w18.alloc (.cells #[.bool bbs, .slice Abs nbs cbs, .slice Bbs mbs dbs] 27)).cell? ⟨w18.heap.size, 2, none⟩ = some (.slice Bbs mbs dbs) := by simp [go_sem]
  have bsl : w18.heap.size < (w18.alloc (.cells #[.bool bbs, .slice Abs nbs cbs, .slice Bbs mbs dbs] 27)).heap.size := by simp
  generalize w18.alloc (.cells #[.bool bbs, .slice Abs nbs cbs, .slice Bbs mbs dbs] 27) = v19 at *
  refine (zsame_self hbx hbi lf).mono ?_
  rintro e w20 ⟨rfl, b⟩
  replace h0 := h0.on b
  replace h1 := h1.on b
  replace hbx := hbx.on b
  replace hbi := hbi.on b
  replace hbu := hbu.on b
  replace hbv := hbv.on b
  replace hbp := hbp.on b
  replace hbq := hbq.on b
  replace hbr := hbr.on b
  replace hbs := hbs.on b
  replace pa0 := cK b pa0 pal
  replace pa1 := cK b pa1 pal
  replace pa2 := cK b pa2 pal
  replace pal := lK b pal
  replace pb0 := cK b pb0 pbl
  replace pb1 := cK b pb1 pbl
  replace pbl := lK b pbl
  replace bx0 := cK b bx0 bxl
  replace bx1 := cK b bx1 bxl
  replace bxl := lK b bxl
  replace bi0 := cK b bi0 bil
  replace bi1 := cK b bi1 bil
  replace bil := lK b bil
  replace bu0 := cK b bu0 bul
  replace bu1 := cK b bu1 bul
  replace bul := lK b bul
  replace bv0 := cK b bv0 bvl
  replace bv1 := cK b bv1 bvl
  replace bvl := lK b bvl
  replace bp0 := cK b bp0 bpl
  replace bp1 := cK b bp1 bpl
  replace bpl := lK b bpl
  replace bq0 := cK b bq0 bql
  replace bq1 := cK b bq1 bql
  replace bql := lK b bql
  replace br0 := cK b br0 brl
  replace br1 := cK b br1 brl
  replace br2 := cK b br2 brl
  replace brl := lK b brl
  replace bs0 := cK b bs0 bsl
  replace bs1 := cK b bs1 bsl
  replace bs2 := cK b bs2 bsl
  replace bsl := lK b bsl
  replace cc := bK cc b
  clear b
  go_wp2_with fail
  refine (zsame_self hbu hbv lc).mono ?_
  rintro e w21 ⟨rfl, b⟩
  replace h0 := h0.on b
  replace h1 := h1.on b
  replace hbx := hbx.on b
  replace hbi := hbi.on b
  replace hbu := hbu.on b
  replace hbv := hbv.on b
  replace hbp := hbp.on b
  replace hbq := hbq.on b
  replace hbr := hbr.on b
  replace hbs := hbs.on b
  replace pa0 := cK b pa0 pal
  replace pa1 := cK b pa1 pal
  replace pa2 := cK b pa2 pal
  replace pal := lK b pal
  replace pb0 := cK b pb0 pbl
  replace pb1 := cK b pb1 pbl
  replace pbl := lK b pbl
  replace bx0 := cK b bx0 bxl
  replace bx1 := cK b bx1 bxl
  replace bxl := lK b bxl
  replace bi0 := cK b bi0 bil
  replace bi1 := cK b bi1 bil
  replace bil := lK b bil
  replace bu0 := cK b bu0 bul
  replace bu1 := cK b bu1 bul
  replace bul := lK b bul
  replace bv0 := cK b bv0 bvl
  replace bv1 := cK b bv1 bvl
  replace bvl := lK b bvl
  replace bp0 := cK b bp0 bpl
  replace bp1 := cK b bp1 bpl
  replace bpl := lK b bpl
  replace bq0 := cK b bq0 bql
  replace bq1 := cK b bq1 bql
  replace bql := lK b bql
  replace br0 := cK b br0 brl
  replace br1 := cK b br1 brl
  replace br2 := cK b br2 brl
  replace brl := lK b brl
  replace bs0 := cK b bs0 bsl
  replace bs1 := cK b bs1 bsl
  replace bs2 := cK b bs2 bsl
  replace bsl := lK b bsl
  replace cc := bK cc b
  clear b
  go_wp2_with fail
  refine (alive6_any _).mono ?_
  rintro e w22 ⟨rfl, b⟩
  replace h0 := h0.on b
  replace h1 := h1.on b
  replace hbx := hbx.on b
  replace hbi := hbi.on b
  replace hbu := hbu.on b
  replace hbv := hbv.on b
  replace hbp := hbp.on b
  replace hbq := hbq.on b
  replace hbr := hbr.on b
  replace hbs := hbs.on b
  replace pa0 := cK b pa0 pal
  replace pa1 := cK b pa1 pal
  replace pa2 := cK b pa2 pal
  replace pal := lK b pal
  replace pb0 := cK b pb0 pbl
  replace pb1 := cK b pb1 pbl
  replace pbl := lK b pbl
  replace bx0 := cK b bx0 bxl
  replace bx1 := cK b bx1 bxl
  replace bxl := lK b bxl
  replace bi0 := cK b bi0 bil
  replace bi1 := cK b bi1 bil
  replace bil := lK b bil
  replace bu0 := cK b bu0 bul
  replace bu1 := cK b bu1 bul
  replace bul := lK b bul
  replace bv0 := cK b bv0 bvl
  replace bv1 := cK b bv1 bvl
  replace bvl := lK b bvl
  replace bp0 := cK b bp0 bpl
  replace bp1 := cK b bp1 bpl
  replace bpl := lK b bpl
  replace bq0 := cK b bq0 bql
  replace bq1 := cK b bq1 bql
  replace bql := lK b bql
  replace br0 := cK b br0 brl
  replace br1 := cK b br1 brl
  replace br2 := cK b br2 brl
  replace brl := lK b brl
  replace bs0 := cK b bs0 bsl
  replace bs1 := cK b bs1 bsl
  replace bs2 := cK b bs2 bsl
  replace bsl := lK b bsl
  replace cc := bK cc b
  clear b
  go_wp2_with fail
  refine (zsame_self hbp hbq ln).mono ?_
  rintro e w23 ⟨rfl, b⟩
  replace h0 := h0.on b
  replace h1 := h1.on b
  replace hbx := hbx.on b
  replace hbi := hbi.on b
  replace hbu := hbu.on b
  replace hbv := hbv.on b
  replace hbp := hbp.on b
  replace hbq := hbq.on b
  replace hbr := hbr.on b
  replace hbs := hbs.on b
  replace pa0 := cK b pa0 pal
  replace pa1 := cK b pa1 pal
  replace pa2 := cK b pa2 pal
  replace pal := lK b pal
  replace pb0 := cK b pb0 pbl
  replace pb1 := cK b pb1 pbl
  replace pbl := lK b pbl
  replace bx0 := cK b bx0 bxl
  replace bx1 := cK b bx1 bxl
  replace bxl := lK b bxl
  replace bi0 := cK b bi0 bil
  replace bi1 := cK b bi1 bil
  replace bil := lK b bil
  replace bu0 := cK b bu0 bul
  replace bu1 := cK b bu1 bul
  replace bul := lK b bul
  replace bv0 := cK b bv0 bvl
  replace bv1 := cK b bv1 bvl
  replace bvl := lK b bvl
  replace bp0 := cK b bp0 bpl
  replace bp1 := cK b bp1 bpl
  replace bpl := lK b bpl
  replace bq0 := cK b bq0 bql
  replace bq1 := cK b bq1 bql
  replace bql := lK b bql
  replace br0 := cK b br0 brl
  replace br1 := cK b br1 brl
  replace br2 := cK b br2 brl
  replace brl := lK b brl
  replace bs0 := cK b bs0 bsl
  replace bs1 := cK b bs1 bsl
  replace bs2 := cK b bs2 bsl
  replace bsl := lK b bsl
  replace cc := bK cc b
  clear b
  go_wp2_with fail
  refine (rtsame_self hbr sb hbs).mono ?_
  rintro e w24 ⟨rfl, b⟩
  replace h0 := h0.on b
  replace h1 := h1.on b
  replace hbx := hbx.on b
  replace hbi := hbi.on b
  replace hbu := hbu.on b
  replace hbv := hbv.on b
  replace hbp := hbp.on b
  replace hbq := hbq.on b
  replace hbr := hbr.on b
  replace hbs := hbs.on b
  replace pa0 := cK b pa0 pal
  replace pa1 := cK b pa1 pal
  replace pa2 := cK b pa2 pal
  replace pal := lK b pal
  replace pb0 := cK b pb0 pbl
  replace pb1 := cK b pb1 pbl
  replace pbl := lK b pbl
  replace bx0 := cK b bx0 bxl
  replace bx1 := cK b bx1 bxl
  replace bxl := lK b bxl
  replace bi0 := cK b bi0 bil
  replace bi1 := cK b bi1 bil
  replace bil := lK b bil
  replace bu0 := cK b bu0 bul
  replace bu1 := cK b bu1 bul
  replace bul := lK b bul
  replace bv0 := cK b bv0 bvl
  replace bv1 := cK b bv1 bvl
  replace bvl := lK b bvl
  replace bp0 := cK b bp0 bpl
  replace bp1 := cK b bp1 bpl
  replace bpl := lK b bpl
  replace bq0 := cK b bq0 bql
  replace bq1 := cK b bq1 bql
  replace bql := lK b bql
  replace br0 := cK b br0 brl
  replace br1 := cK b br1 brl
  replace br2 := cK b br2 brl
  replace brl := lK b brl
  replace bs0 := cK b bs0 bsl
  replace bs1 := cK b bs1 bsl
  replace bs2 := cK b bs2 bsl
  replace bsl := lK b bsl
  replace cc := bK cc b
  clear b
  go_wp2_with fail
  go_ret
  exact ⟨rfl, cc⟩

set_option maxRecDepth 100000 in
set_option maxHeartbeats 8000000 in
theorem DyadTells_low {w : World} {b0 : Bool} {A0 B0 : Option Addr} {n0 c0 m0 d0 : Nat} {b1 : Bool} {A1 : Option Addr} {n1 c1 : Nat} {j : Int} {x0 : Rat} (h0 : Rt w b0 A0 n0 c0 B0 m0 d0 x0) {z1 : Int} (h1 : Zn w b1 A1 n1 c1 z1) {zf zc zn rc : Int} (lf : (limbs zf.natAbs).length ≤ 300) (lc : (limbs zc.natAbs).length ≤ 300) (ln : (limbs zn.natAbs).length ≤ 300) (G0 : ∀ W : World, Below w.heap.size w W → Calls Try.prog 9 #[.agg #[.bool b0, .slice A0 n0 c0, .slice B0 m0 d0], .int .i64 4] W (GotV W (.bool true))) (G1 : ∀ W : World, Below w.heap.size w W → Calls Try.prog 10 #[.agg #[.bool b1, .slice A1 n1 c1], .int .i64 4] W (GotV W (.bool true))) (hj : j ≤ 400) (CF : ∀ {W : World} {b : Bool} {A B : Option Addr} {n c m d : Nat}, Rt W b A n c B m d x0 → Calls Try.prog 12 #[.agg #[.bool b, .slice A n c, .slice B m d], .int .i64 j] W (GotZp W zf rc)) (RF : ∀ {W : World} {b : Bool} {A B : Option Addr} {n c m d : Nat}, Rt W b A n c B m d x0 → Calls Try.prog 13 #[.agg #[.bool b, .slice A n c, .slice B m d], .int .i64 j] W (GotZp W zf rc)) (CC : ∀ {W : World} {b : Bool} {A B : Option Addr} {n c m d : Nat}, Rt W b A n c B m d x0 → Calls Try.prog 14 #[.agg #[.bool b, .slice A n c, .slice B m d], .int .i64 j] W (GotZp W zc rc)) (RC : ∀ {W : World} {b : Bool} {A B : Option Addr} {n c m d : Nat}, Rt W b A n c B m d x0 → Calls Try.prog 15 #[.agg #[.bool b, .slice A n c, .slice B m d], .int .i64 j] W (GotZp W zc rc)) (CN : ∀ {W : World} {b : Bool} {A B : Option Addr} {n c m d : Nat}, Rt W b A n c B m d x0 → Calls Try.prog 16 #[.agg #[.bool b, .slice A n c, .slice B m d], .int .i64 j] W (GotZp W zn rc)) (RN : ∀ {W : World} {b : Bool} {A B : Option Addr} {n c m d : Nat}, Rt W b A n c B m d x0 → Calls Try.prog 17 #[.agg #[.bool b, .slice A n c, .slice B m d], .int .i64 j] W (GotZp W zn rc)) (CB : ∀ {W : World} {b : Bool} {A : Option Addr} {n c : Nat}, Zn W b A n c z1 → Calls Try.prog 18 #[.agg #[.bool b, .slice A n c], .int .i64 j] W (GotV W (.tuple #[.agg #[.bool false, .slice none 0 0, .slice none 0 0], .int .i64 rc]))) (RB : ∀ {W : World} {b : Bool} {A : Option Addr} {n c : Nat}, Zn W b A n c z1 → Calls Try.prog 19 #[.agg #[.bool b, .slice A n c], .int .i64 j] W (GotV W (.tuple #[.agg #[.bool false, .slice none 0 0, .slice none 0 0], .int .i64 rc]))) :
    Calls Try.prog 3 #[.agg #[.bool b0, .slice A0 n0 c0, .slice B0 m0 d0], .agg #[.bool b1, .slice A1 n1 c1], .int .i64 j] w fun e w' => e = .returned (.bool true) ∧ Below w.heap.size w w' := by
  have t1 : decide (400 < j) = false := decide_eq_false (by omega)
  have cc := Below.refl w.heap.size w
  go_enter Try.func3, Try.ntmps3
  go_wp2_with fail
  have bA : Below w.heap.size w ((w.alloc (.cells #[.bool b0, .slice A0 n0 c0, .slice B0 m0 d0] 27)).alloc (.cells #[.bool b1, .slice A1 n1 c1] 25)) := (((Below.refl _ w).alloc (by simp) _).alloc (by simp) _)
  replace h0 := h0.on bA
  replace h1 := h1.on bA
  replace cc := bK cc bA
  clear bA
  have pa0 : ((w.alloc (.cells #[.bool b0, .slice A0 n0 c0, .slice B0 m0 d0] 27)).alloc (.cells #[.bool b1, .slice A1 n1 c1] 25)).cell? ⟨w.heap.size, 0, none⟩ = some (.bool b0) := by simp [go_sem]
  have pa1 : ((w.alloc (.cells #[.bool b0, .slice A0 n0 c0, .slice B0 m0 d0] 27)).alloc (.cells #[.bool b1, .slice A1 n1 c1] 25)).cell? ⟨w.heap.size, 1, none⟩ = some (.slice A0 n0 c0) := by simp [go_sem]
  have pa2 : ((w.alloc (.cells #[.bool b0, .slice A0 n0 c0, .slice B0 m0 d0] 27)).alloc (.cells #[.bool b1, .slice A1 n1 c1] 25)).cell? ⟨w.heap.size, 2, none⟩ = some (.slice B0 m0 d0) := by simp [go_sem]
  have pal : w.heap.size < ((w.alloc (.cells #[.bool b0, .slice A0 n0 c0, .slice B0 m0 d0] 27)).alloc (.cells #[.bool b1, .slice A1 n1 c1] 25)).heap.size := by simp <;> omega
  have pb0 : ((w.alloc (.cells #[.bool b0, .slice A0 n0 c0, .slice B0 m0 d0] 27)).alloc (.cells #[.bool b1, .slice A1 n1 c1] 25)).cell? ⟨w.heap.size + 1, 0, none⟩ = some (.bool b1) := by simp [go_sem]
  have pb1 : ((w.alloc (.cells #[.bool b0, .slice A0 n0 c0, .slice B0 m0 d0] 27)).alloc (.cells #[.bool b1, .slice A1 n1 c1] 25)).cell? ⟨w.heap.size + 1, 1, none⟩ = some (.slice A1 n1 c1) := by simp [go_sem]
  have pbl : w.heap.size + 1 < ((w.alloc (.cells #[.bool b0, .slice A0 n0 c0, .slice B0 m0 d0] 27)).alloc (.cells #[.bool b1, .slice A1 n1 c1] 25)).heap.size := by simp <;> omega
  generalize (w.alloc (.cells #[.bool b0, .slice A0 n0 c0, .slice B0 m0 d0] 27)).alloc (.cells #[.bool b1, .slice A1 n1 c1] 25) = v1 at *
  refine (G0 _ cc).mono ?_
  rintro e w2 ⟨rfl, b⟩
  replace h0 := h0.on b
  replace h1 := h1.on b
  replace pa0 := cK b pa0 pal
  replace pa1 := cK b pa1 pal
  replace pa2 := cK b pa2 pal
  replace pal := lK b pal
  replace pb0 := cK b pb0 pbl
  replace pb1 := cK b pb1 pbl
  replace pbl := lK b pbl
  replace cc := bK cc b
  clear b
  go_wp2_with fail
  refine (G1 _ cc).mono ?_
  rintro e w3 ⟨rfl, b⟩
  replace h0 := h0.on b
  replace h1 := h1.on b
  replace pa0 := cK b pa0 pal
  replace pa1 := cK b pa1 pal
  replace pa2 := cK b pa2 pal
  replace pal := lK b pal
  replace pb0 := cK b pb0 pbl
  replace pb1 := cK b pb1 pbl
  replace pbl := lK b pbl
  replace cc := bK cc b
  clear b
  go_wp2_with fail
  refine (CF h0).mono ?_
  rintro e w4 ⟨bbx, Abx, nbx, cbx, rfl, hbx, b⟩
  replace h0 := h0.on b
  replace h1 := h1.on b
  replace pa0 := cK b pa0 pal
  replace pa1 := cK b pa1 pal
  replace pa2 := cK b pa2 pal
  replace pal := lK b pal
  replace pb0 := cK b pb0 pbl
  replace pb1 := cK b pb1 pbl
  replace pbl := lK b pbl
  replace cc := bK cc b
  clear b
  go_wp2_with fail
  have bA := below_one w4 (.cells #[.bool bbx, .slice Abx nbx cbx] 25)
  replace h0 := h0.on bA
  replace h1 := h1.on bA
  replace hbx := hbx.on bA
  replace pa0 := cK bA pa0 pal
  replace pa1 := cK bA pa1 pal
  replace pa2 := cK bA pa2 pal
  replace pal := lK bA pal
  replace pb0 := cK bA pb0 pbl
  replace pb1 := cK bA pb1 pbl
  replace pbl := lK bA pbl
  replace cc := bK cc bA
  clear bA
  have bx0 : (w4.alloc (.cells #[.bool bbx, .slice Abx nbx cbx] 25)).cell? ⟨w4.heap.size, 0, none⟩ = some (.bool bbx) := by simp [go_sem]
  have bx1 : (w4.alloc (.cells #[.bool bbx, .slice Abx nbx cbx] 25)).cell? ⟨w4.heap.size, 1, none⟩ = some (.slice Abx nbx cbx) := by simp [go_sem]
  have bxl : w4.heap.size < (w4.alloc (.cells #[.bool bbx, .slice Abx nbx cbx] 25)).heap.size := by simp
  generalize w4.alloc (.cells #[.bool bbx, .slice Abx nbx cbx] 25) = v5 at *
  refine (RF h0).mono ?_
  rintro e w6 ⟨bbi, Abi, nbi, cbi, rfl, hbi, b⟩
  replace h0 := h0.on b
  replace h1 := h1.on b
  replace hbx := hbx.on b
  replace pa0 := cK b pa0 pal
  replace pa1 := cK b pa1 pal
  replace pa2 := cK b pa2 pal
  replace pal := lK b pal
  replace pb0 := cK b pb0 pbl
  replace pb1 := cK b pb1 pbl
  replace pbl := lK b pbl
  replace bx0 := cK b bx0 bxl
  replace bx1 := cK b bx1 bxl
  replace bxl := lK b bxl
  replace cc := bK cc b
  clear b
  go_wp2_with fail
  have bA := below_one w6 (.cells #[.bool bbi, .slice Abi nbi cbi] 25)
  replace h0 := h0.on bA
  replace h1 := h1.on bA
  replace hbx := hbx.on bA
  replace hbi := hbi.on bA
  replace pa0 := cK bA pa0 pal
  replace pa1 := cK bA pa1 pal
  replace pa2 := cK bA pa2 pal
  replace pal := lK bA pal
  replace pb0 := cK bA pb0 pbl
  replace pb1 := cK bA pb1 pbl
  replace pbl := lK bA pbl
  replace bx0 := cK bA bx0 bxl
  replace bx1 := cK bA bx1 bxl
  replace bxl := lK bA bxl
  replace cc := bK cc bA
  clear bA
  have bi0 : (w6.alloc (.cells #[.bool bbi, .slice Abi nbi cbi] 25)).cell? ⟨w6.heap.size, 0, none⟩ = some (.bool bbi) := by simp [go_sem]
  have bi1 : (w6.alloc (.cells #[.bool bbi, .slice Abi nbi cbi] 25)).cell? ⟨w6.heap.size, 1, none⟩ = some (.slice Abi nbi cbi) := by simp [go_sem]
  have bil : w6.heap.size < (w6.alloc (.cells #[.bool bbi, .slice Abi nbi cbi] 25)).heap.size := by simp
  generalize w6.alloc (.cells #[.bool bbi, .slice Abi nbi cbi] 25) = v7 at *
  refine (CC h0).mono ?_
  rintro e w8 ⟨bbu, Abu, nbu, cbu, rfl, hbu, b⟩
  replace h0 := h0.on b
  replace h1 := h1.on b
  replace hbx := hbx.on b
  replace hbi := hbi.on b
  replace pa0 := cK b pa0 pal
  replace pa1 := cK b pa1 pal
  replace pa2 := cK b pa2 pal
  replace pal := lK b pal
  replace pb0 := cK b pb0 pbl
  replace pb1 := cK b pb1 pbl
  replace pbl := lK b pbl
  replace bx0 := cK b bx0 bxl
  replace bx1 := cK b bx1 bxl
  replace bxl := lK b bxl
  replace bi0 := cK b bi0 bil
  replace bi1 := cK b bi1 bil
  replace bil := lK b bil
  replace cc := bK cc b
  clear b
  go_wp2_with fail
  have bA := below_one w8 (.cells #[.bool bbu, .slice Abu nbu cbu] 25)
  replace h0 := h0.on bA
  replace h1 := h1.on bA
  replace hbx := hbx.on bA
  replace hbi := hbi.on bA
  replace hbu := hbu.on bA
  replace pa0 := cK bA pa0 pal
  replace pa1 := cK bA pa1 pal
  replace pa2 := cK bA pa2 pal
  replace pal := lK bA pal
  replace pb0 := cK bA pb0 pbl
  replace pb1 := cK bA pb1 pbl
  replace pbl := lK bA pbl
  replace bx0 := cK bA bx0 bxl
  replace bx1 := cK bA bx1 bxl
  replace bxl := lK bA bxl
  replace bi0 := cK bA bi0 bil
  replace bi1 := cK bA bi1 bil
  replace bil := lK bA bil
  replace cc := bK cc bA
  clear bA
  have bu0 : (w8.alloc (.cells #[.bool bbu, .slice Abu nbu cbu] 25)).cell? ⟨w8.heap.size, 0, none⟩ = some (.bool bbu) := by simp [go_sem]
  have bu1 : (w8.alloc (.cells #[.bool bbu, .slice Abu nbu cbu] 25)).cell? ⟨w8.heap.size, 1, none⟩ = some (.slice Abu nbu cbu) := by simp [go_sem]
  have bul : w8.heap.size < (w8.alloc (.cells #[.bool bbu, .slice Abu nbu cbu] 25)).heap.size := by simp
  generalize w8.alloc (.cells #[.bool bbu, .slice Abu nbu cbu] 25) = v9 at *
  refine (RC h0).mono ?_
  rintro e w10 ⟨bbv, Abv, nbv, cbv, rfl, hbv, b⟩
  replace h0 := h0.on b
  replace h1 := h1.on b
  replace hbx := hbx.on b
  replace hbi := hbi.on b
  replace hbu := hbu.on b
  replace pa0 := cK b pa0 pal
  replace pa1 := cK b pa1 pal
  replace pa2 := cK b pa2 pal
  replace pal := lK b pal
  replace pb0 := cK b pb0 pbl
  replace pb1 := cK b pb1 pbl
  replace pbl := lK b pbl
  replace bx0 := cK b bx0 bxl
  replace bx1 := cK b bx1 bxl
  replace bxl := lK b bxl
  replace bi0 := cK b bi0 bil
  replace bi1 := cK b bi1 bil
  replace bil := lK b bil
  replace bu0 := cK b bu0 bul
  replace bu1 := cK b bu1 bul
  replace bul := lK b bul
  replace cc := bK cc b
  clear b
  go_wp2_with fail
  have bA := below_one w10 (.cells #[.bool bbv, .slice Abv nbv cbv] 25)
  replace h0 := h0.on bA
  replace h1 := h1.on bA
  replace hbx := hbx.on bA
  replace hbi := hbi.on bA
  replace hbu := hbu.on bA
  replace hbv := hbv.on bA
  replace pa0 := cK bA pa0 pal
  replace pa1 := cK bA pa1 pal
  replace pa2 := cK bA pa2 pal
  replace pal := lK bA pal
  replace pb0 := cK bA pb0 pbl
  replace pb1 := cK bA pb1 pbl
  replace pbl := lK bA pbl
  replace bx0 := cK bA bx0 bxl
  replace bx1 := cK bA bx1 bxl
  replace bxl := lK bA bxl
  replace bi0 := cK bA bi0 bil
  replace bi1 := cK bA bi1 bil
  replace bil := lK bA bil
  replace bu0 := cK bA bu0 bul
  replace bu1 := cK bA bu1 bul
  replace bul := lK bA bul
  replace cc := bK cc bA
  clear bA
  have bv0 : (w10.alloc (.cells #[.bool bbv, .slice Abv nbv cbv] 25)).cell? ⟨w10.heap.size, 0, none⟩ = some (.bool bbv) := by simp [go_sem]
  have bv1 : (w10.alloc (.cells #[.bool bbv, .slice Abv nbv cbv] 25)).cell? ⟨w10.heap.size, 1, none⟩ = some (.slice Abv nbv cbv) := by simp [go_sem]
  have bvl : w10.heap.size < (w10.alloc (.cells #[.bool bbv, .slice Abv nbv cbv] 25)).heap.size := by simp
  generalize w10.alloc (.cells #[.bool bbv, .slice Abv nbv cbv] 25) = v11 at *
  refine (CN h0).mono ?_
  rintro e w12 ⟨bbp, Abp, nbp, cbp, rfl, hbp, b⟩
  replace h0 := h0.on b
  replace h1 := h1.on b
  replace hbx := hbx.on b
  replace hbi := hbi.on b
  replace hbu := hbu.on b
  replace hbv := hbv.on b
  replace pa0 := cK b pa0 pal
  replace pa1 := cK b pa1 pal
  replace pa2 := cK b pa2 pal
  replace pal := lK b pal
  replace pb0 := cK b pb0 pbl
  replace pb1 := cK b pb1 pbl
  replace pbl := lK b pbl
  replace bx0 := cK b bx0 bxl
  replace bx1 := cK b bx1 bxl
  replace bxl := lK b bxl
  replace bi0 := cK b bi0 bil
  replace bi1 := cK b bi1 bil
  replace bil := lK b bil
  replace bu0 := cK b bu0 bul
  replace bu1 := cK b bu1 bul
  replace bul := lK b bul
  replace bv0 := cK b bv0 bvl
  replace bv1 := cK b bv1 bvl
  replace bvl := lK b bvl
  replace cc := bK cc b
  clear b
  go_wp2_with fail
  have bA := below_one w12 (.cells #[.bool bbp, .slice Abp nbp cbp] 25)
  replace h0 := h0.on bA
  replace h1 := h1.on bA
  replace hbx := hbx.on bA
  replace hbi := hbi.on bA
  replace hbu := hbu.on bA
  replace hbv := hbv.on bA
  replace hbp := hbp.on bA
  replace pa0 := cK bA pa0 pal
  replace pa1 := cK bA pa1 pal
  replace pa2 := cK bA pa2 pal
  replace pal := lK bA pal
  replace pb0 := cK bA pb0 pbl
  replace pb1 := cK bA pb1 pbl
  replace pbl := lK bA pbl
  replace bx0 := cK bA bx0 bxl
  replace bx1 := cK bA bx1 bxl
  replace bxl := lK bA bxl
  replace bi0 := cK bA bi0 bil
  replace bi1 := cK bA bi1 bil
  replace bil := lK bA bil
  replace bu0 := cK bA bu0 bul
  replace bu1 := cK bA bu1 bul
  replace bul := lK bA bul
  replace bv0 := cK bA bv0 bvl
  replace bv1 := cK bA bv1 bvl
  replace bvl := lK bA bvl
  replace cc := bK cc bA
  clear bA
  have bp0 : (w12.alloc (.cells #[.bool bbp, .slice Abp nbp cbp] 25)).cell? ⟨w12.heap.size, 0, none⟩ = some (.bool bbp) := by simp [go_sem]
  have bp1 : (w12.alloc (.cells #[.bool bbp, .slice Abp nbp cbp] 25)).cell? ⟨w12.heap.size, 1, none⟩ = some (.slice Abp nbp cbp) := by simp [go_sem]
  have bpl : w12.heap.size < (w12.alloc (.cells #[.bool bbp, .slice Abp nbp cbp] 25)).heap.size := by simp
  generalize w12.alloc (.cells #[.bool bbp, .slice Abp nbp cbp] 25) = v13 at *
  refine (RN h0).mono ?_
  rintro e w14 ⟨bbq, Abq, nbq, cbq, rfl, hbq, b⟩
  replace h0 := h0.on b
  replace h1 := h1.on b
  replace hbx := hbx.on b
  replace hbi := hbi.on b
  replace hbu := hbu.on b
  replace hbv := hbv.on b
  replace hbp := hbp.on b
  replace pa0 := cK b pa0 pal
  replace pa1 := cK b pa1 pal
  replace pa2 := cK b pa2 pal
  replace pal := lK b pal
  replace pb0 := cK b pb0 pbl
  replace pb1 := cK b pb1 pbl
  replace pbl := lK b pbl
  replace bx0 := cK b bx0 bxl
  replace bx1 := cK b bx1 bxl
  replace bxl := lK b bxl
  replace bi0 := cK b bi0 bil
  replace bi1 := cK b bi1 bil
  replace bil := lK b bil
  replace bu0 := cK b bu0 bul
  replace bu1 := cK b bu1 bul
  replace bul := lK b bul
  replace bv0 := cK b bv0 bvl
  replace bv1 := cK b bv1 bvl
  replace bvl := lK b bvl
  replace bp0 := cK b bp0 bpl
  replace bp1 := cK b bp1 bpl
  replace bpl := lK b bpl
  replace cc := bK cc b
  clear b
  go_wp2_with fail
  have bA := below_one w14 (.cells #[.bool bbq, .slice Abq nbq cbq] 25)
  replace h0 := h0.on bA
  replace h1 := h1.on bA
  replace hbx := hbx.on bA
  replace hbi := hbi.on bA
  replace hbu := hbu.on bA
  replace hbv := hbv.on bA
  replace hbp := hbp.on bA
  replace hbq := hbq.on bA
  replace pa0 := cK bA pa0 pal
  replace pa1 := cK bA pa1 pal
  replace pa2 := cK bA pa2 pal
  replace pal := lK bA pal
  replace pb0 := cK bA pb0 pbl
  replace pb1 := cK bA pb1 pbl
  replace pbl := lK bA pbl
  replace bx0 := cK bA bx0 bxl
  replace bx1 := cK bA bx1 bxl
  replace bxl := lK bA bxl
  replace bi0 := cK bA bi0 bil
  replace bi1 := cK bA bi1 bil
  replace bil := lK bA bil
  replace bu0 := cK bA bu0 bul
  replace bu1 := cK bA bu1 bul
  replace bul := lK bA bul
  replace bv0 := cK bA bv0 bvl
  replace bv1 := cK bA bv1 bvl
  replace bvl := lK bA bvl
  replace bp0 := cK bA bp0 bpl
  replace bp1 := cK bA bp1 bpl
  replace bpl := lK bA bpl
  replace cc := bK cc bA
  clear bA
  have bq0 : (w14.alloc (.cells #[.bool bbq, .slice Abq nbq cbq] 25)).cell? ⟨w14.heap.size, 0, none⟩ = some (.bool bbq) := by simp [go_sem]
  have bq1 : (w14.alloc (.cells #[.bool bbq, .slice Abq nbq cbq] 25)).cell? ⟨w14.heap.size, 1, none⟩ = some (.slice Abq nbq cbq) := by simp [go_sem]
  have bql : w14.heap.size < (w14.alloc (.cells #[.bool bbq, .slice Abq nbq cbq] 25)).heap.size := by simp
  generalize w14.alloc (.cells #[.bool bbq, .slice Abq nbq cbq] 25) = v15 at *
  refine (CB h1).mono ?_
  rintro e w16 ⟨rfl, b⟩
  replace h0 := h0.on b
  replace h1 := h1.on b
  replace hbx := hbx.on b
  replace hbi := hbi.on b
  replace hbu := hbu.on b
  replace hbv := hbv.on b
  replace hbp := hbp.on b
  replace hbq := hbq.on b
  replace pa0 := cK b pa0 pal
  replace pa1 := cK b pa1 pal
  replace pa2 := cK b pa2 pal
  replace pal := lK b pal
  replace pb0 := cK b pb0 pbl
  replace pb1 := cK b pb1 pbl
  replace pbl := lK b pbl
  replace bx0 := cK b bx0 bxl
  replace bx1 := cK b bx1 bxl
  replace bxl := lK b bxl
  replace bi0 := cK b bi0 bil
  replace bi1 := cK b bi1 bil
  replace bil := lK b bil
  replace bu0 := cK b bu0 bul
  replace bu1 := cK b bu1 bul
  replace bul := lK b bul
  replace bv0 := cK b bv0 bvl
  replace bv1 := cK b bv1 bvl
  replace bvl := lK b bvl
  replace bp0 := cK b bp0 bpl
  replace bp1 := cK b bp1 bpl
  replace bpl := lK b bpl
  replace bq0 := cK b bq0 bql
  replace bq1 := cK b bq1 bql
  replace bql := lK b bql
  replace cc := bK cc b
  clear b
  go_wp2_with fail
  have bA := below_one w16 (.cells #[.bool false, .slice none 0 0, .slice none 0 0] 27)
  replace h0 := h0.on bA
  replace h1 := h1.on bA
  replace hbx := hbx.on bA
  replace hbi := hbi.on bA
  replace hbu := hbu.on bA
  replace hbv := hbv.on bA
  replace hbp := hbp.on bA
  replace hbq := hbq.on bA
  replace pa0 := cK bA pa0 pal
  replace pa1 := cK bA pa1 pal
  replace pa2 := cK bA pa2 pal
  replace pal := lK bA pal
  replace pb0 := cK bA pb0 pbl
  replace pb1 := cK bA pb1 pbl
  replace pbl := lK bA pbl
  replace bx0 := cK bA bx0 bxl
  replace bx1 := cK bA bx1 bxl
  replace bxl := lK bA bxl
  replace bi0 := cK bA bi0 bil
  replace bi1 := cK bA bi1 bil
  replace bil := lK bA bil
  replace bu0 := cK bA bu0 bul
  replace bu1 := cK bA bu1 bul
  replace bul := lK bA bul
  replace bv0 := cK bA bv0 bvl
  replace bv1 := cK bA bv1 bvl
  replace bvl := lK bA bvl
  replace bp0 := cK bA bp0 bpl
  replace bp1 := cK bA bp1 bpl
  replace bpl := lK bA bpl
  replace bq0 := cK bA bq0 bql
  replace bq1 := cK bA bq1 bql
  replace bql := lK bA bql
  replace cc := bK cc bA
  clear bA
  have br0 : (w16.alloc (.cells #[.bool false, .slice none 0 0, .slice none 0 0] 27)).cell? ⟨w16.heap.size, 0, none⟩ = some (.bool false) := by simp [go_sem]
  have br1 : (w16.alloc (.cells #[.bool false, .slice none 0 0, .slice none 0 0] 27)).cell? ⟨w16.heap.size, 1, none⟩ = some (.slice none 0 0) := by simp [go_sem]
  have br2 : (w16.alloc (.cells #[.bool false, .slice none 0 0, .slice none 0 0] 27)).cell? ⟨w16.heap.size, 2, none⟩ = some (.slice none 0 0) := by simp [go_sem]
  have brl : w16.heap.size < (w16.alloc (.cells #[.bool false, .slice none 0 0, .slice none 0 0] 27)).heap.size := by simp
  generalize w16.alloc (.cells #[.bool false, .slice none 0 0, .slice none 0 0] 27) = v17 at *
  refine (RB h1).mono ?_
  rintro e w18 ⟨rfl, b⟩
  replace h0 := h0.on b
  replace h1 := h1.on b
  replace hbx := hbx.on b
  replace hbi := hbi.on b
  replace hbu := hbu.on b
  replace hbv := hbv.on b
  replace hbp := hbp.on b
  replace hbq := hbq.on b
  replace pa0 := cK b pa0 pal
  replace pa1 := cK b pa1 pal
  replace pa2 := cK b pa2 pal
  replace pal := lK b pal
  replace pb0 := cK b pb0 pbl
  replace pb1 := cK b pb1 pbl
  replace pbl := lK b pbl
  replace bx0 := cK b bx0 bxl
  replace bx1 := cK b bx1 bxl
  replace bxl := lK b bxl
  replace bi0 := cK b bi0 bil
  replace bi1 := cK b bi1 bil
  replace bil := lK b bil
  replace bu0 := cK b bu0 bul
  replace bu1 := cK b bu1 bul
  replace bul := lK b bul
  replace bv0 := cK b bv0 bvl
  replace bv1 := cK b bv1 bvl
  replace bvl := lK b bvl
  replace bp0 := cK b bp0 bpl
  replace bp1 := cK b bp1 bpl
  replace bpl := lK b bpl
  replace bq0 := cK b bq0 bql
  replace bq1 := cK b bq1 bql
  replace bql := lK b bql
  replace br0 := cK b br0 brl
  replace br1 := cK b br1 brl
  replace br2 := cK b br2 brl
  replace brl := lK b brl
  replace cc := bK cc b
  clear b
  go_wp2_with fail
  have bA := below_one w18 (.cells #[.bool false, .slice none 0 0, .slice none 0 0] 27)
  replace h0 := h0.on bA
  replace h1 := h1.on bA
  replace hbx := hbx.on bA
  replace hbi := hbi.on bA
  replace hbu := hbu.on bA
  replace hbv := hbv.on bA
  replace hbp := hbp.on bA
  replace hbq := hbq.on bA
  replace pa0 := cK bA pa0 pal
  replace pa1 := cK bA pa1 pal
  replace pa2 := cK bA pa2 pal
  replace pal := lK bA pal
  replace pb0 := cK bA pb0 pbl
  replace pb1 := cK bA pb1 pbl
  replace pbl := lK bA pbl
  replace bx0 := cK bA bx0 bxl
  replace bx1 := cK bA bx1 bxl
  replace bxl := lK bA bxl
  replace bi0 := cK bA bi0 bil
  replace bi1 := cK bA bi1 bil
  replace bil := lK bA bil
  replace bu0 := cK bA bu0 bul
  replace bu1 := cK bA bu1 bul
  replace bul := lK bA bul
  replace bv0 := cK bA bv0 bvl
  replace bv1 := cK bA bv1 bvl
  replace bvl := lK bA bvl
  replace bp0 := cK bA bp0 bpl
  replace bp1 := cK bA bp1 bpl
  replace bpl := lK bA bpl
  replace bq0 := cK bA bq0 bql
  replace bq1 := cK bA bq1 bql
  replace bql := lK bA bql
  replace br0 := cK bA br0 brl
  replace br1 := cK bA br1 brl
  replace br2 := cK bA br2 brl
  replace brl := lK bA brl
  replace cc := bK cc bA
  clear bA
  have bs0 : (w18.alloc (.cells #[.bool false, .slice none 0 0, .slice none 0 0] 27)).cell? ⟨w18.heap.size, 0, none⟩ = some (.bool false) := by simp [go_sem]
  have bs1 : (w18.alloc (.cells #[.bool false, .slice none 0 0, .slice none 0 0] 27)).cell? ⟨w18.heap.size, 1, none⟩ = some (.slice none 0 0) := by simp [go_sem]
  have bs2 : (w18.alloc (.cells #[.bool false, .slice none 0 0, .slice none 0 0] 27)).cell? ⟨w18.heap.size, 2, none⟩ = some (.slice none 0 0) := by simp [go_sem]
  have bsl : w18.heap.size < (w18.alloc (.cells #[.bool false, .slice none 0 0, .slice none 0 0] 27)).heap.size := by simp
  generalize w18.alloc (.cells #[.bool false, .slice none 0 0, .slice none 0 0] 27) = v19 at *
  refine (zsame_self hbx hbi lf).mono ?_
  rintro e w20 ⟨rfl, b⟩
  replace h0 := h0.on b
  replace h1 := h1.on b
  replace hbx := hbx.on b
  replace hbi := hbi.on b
  replace hbu := hbu.on b
  replace hbv := hbv.on b
  replace hbp := hbp.on b
  replace hbq := hbq.on b
  replace pa0 := cK b pa0 pal
  replace pa1 := cK b pa1 pal
  replace pa2 := cK b pa2 pal
  replace pal := lK b pal
  replace pb0 := cK b pb0 pbl
  replace pb1 := cK b pb1 pbl
  replace pbl := lK b pbl
  replace bx0 := cK b bx0 bxl
  replace bx1 := cK b bx1 bxl
  replace bxl := lK b bxl
  replace bi0 := cK b bi0 bil
  replace bi1 := cK b bi1 bil
  replace bil := lK b bil
  replace bu0 := cK b bu0 bul
  replace bu1 := cK b bu1 bul
  replace bul := lK b bul
  replace bv0 := cK b bv0 bvl
  replace bv1 := cK b bv1 bvl
  replace bvl := lK b bvl
  replace bp0 := cK b bp0 bpl
  replace bp1 := cK b bp1 bpl
  replace bpl := lK b bpl
  replace bq0 := cK b bq0 bql
  replace bq1 := cK b bq1 bql
  replace bql := lK b bql
  replace br0 := cK b br0 brl
  replace br1 := cK b br1 brl
  replace br2 := cK b br2 brl
  replace brl := lK b brl
  replace bs0 := cK b bs0 bsl
  replace bs1 := cK b bs1 bsl
  replace bs2 := cK b bs2 bsl
  replace bsl := lK b bsl
  replace cc := bK cc b
  clear b
  go_wp2_with fail
  refine (zsame_self hbu hbv lc).mono ?_
  rintro e w21 ⟨rfl, b⟩
  replace h0 := h0.on b
  replace h1 := h1.on b
  replace hbx := hbx.on b
  replace hbi := hbi.on b
  replace hbu := hbu.on b
  replace hbv := hbv.on b
  replace hbp := hbp.on b
  replace hbq := hbq.on b
  replace pa0 := cK b pa0 pal
  replace pa1 := cK b pa1 pal
  replace pa2 := cK b pa2 pal
  replace pal := lK b pal
  replace pb0 := cK b pb0 pbl
  replace pb1 := cK b pb1 pbl
  replace pbl := lK b pbl
  replace bx0 := cK b bx0 bxl
  replace bx1 := cK b bx1 bxl
  replace bxl := lK b bxl
  replace bi0 := cK b bi0 bil
  replace bi1 := cK b bi1 bil
  replace bil := lK b bil
  replace bu0 := cK b bu0 bul
  replace bu1 := cK b bu1 bul
  replace bul := lK b bul
  replace bv0 := cK b bv0 bvl
  replace bv1 := cK b bv1 bvl
  replace bvl := lK b bvl
  replace bp0 := cK b bp0 bpl
  replace bp1 := cK b bp1 bpl
  replace bpl := lK b bpl
  replace bq0 := cK b bq0 bql
  replace bq1 := cK b bq1 bql
  replace bql := lK b bql
  replace br0 := cK b br0 brl
  replace br1 := cK b br1 brl
  replace br2 := cK b br2 brl
  replace brl := lK b brl
  replace bs0 := cK b bs0 bsl
  replace bs1 := cK b bs1 bsl
  replace bs2 := cK b bs2 bsl
  replace bsl := lK b bsl
  replace cc := bK cc b
  clear b
  go_wp2_with fail
  refine (alive6_any _).mono ?_
  rintro e w22 ⟨rfl, b⟩
  replace h0 := h0.on b
  replace h1 := h1.on b
  replace hbx := hbx.on b
  replace hbi := hbi.on b
  replace hbu := hbu.on b
  replace hbv := hbv.on b
  replace hbp := hbp.on b
  replace hbq := hbq.on b
  replace pa0 := cK b pa0 pal
  replace pa1 := cK b pa1 pal
  replace pa2 := cK b pa2 pal
  replace pal := lK b pal
  replace pb0 := cK b pb0 pbl
  replace pb1 := cK b pb1 pbl
  replace pbl := lK b pbl
  replace bx0 := cK b bx0 bxl
  replace bx1 := cK b bx1 bxl
  replace bxl := lK b bxl
  replace bi0 := cK b bi0 bil
  replace bi1 := cK b bi1 bil
  replace bil := lK b bil
  replace bu0 := cK b bu0 bul
  replace bu1 := cK b bu1 bul
  replace bul := lK b bul
  replace bv0 := cK b bv0 bvl
  replace bv1 := cK b bv1 bvl
  replace bvl := lK b bvl
  replace bp0 := cK b bp0 bpl
  replace bp1 := cK b bp1 bpl
  replace bpl := lK b bpl
  replace bq0 := cK b bq0 bql
  replace bq1 := cK b bq1 bql
  replace bql := lK b bql
  replace br0 := cK b br0 brl
  replace br1 := cK b br1 brl
  replace br2 := cK b br2 brl
  replace brl := lK b brl
  replace bs0 := cK b bs0 bsl
  replace bs1 := cK b bs1 bsl
  replace bs2 := cK b bs2 bsl
  replace bsl := lK b bsl
  replace cc := bK cc b
  clear b
  go_wp2_with fail
  refine (zsame_self hbp hbq ln).mono ?_
  rintro e w23 ⟨rfl, b⟩
  replace h0 := h0.on b
  replace h1 := h1.on b
  replace hbx := hbx.on b
  replace hbi := hbi.on b
  replace hbu := hbu.on b
  replace hbv := hbv.on b
  replace hbp := hbp.on b
  replace hbq := hbq.on b
  replace pa0 := cK b pa0 pal
  replace pa1 := cK b pa1 pal
  replace pa2 := cK b pa2 pal
  replace pal := lK b pal
  replace pb0 := cK b pb0 pbl
  replace pb1 := cK b pb1 pbl
  replace pbl := lK b pbl
  replace bx0 := cK b bx0 bxl
  replace bx1 := cK b bx1 bxl
  replace bxl := lK b bxl
  replace bi0 := cK b bi0 bil
  replace bi1 := cK b bi1 bil
  replace bil := lK b bil
  replace bu0 := cK b bu0 bul
  replace bu1 := cK b bu1 bul
  replace bul := lK b bul
  replace bv0 := cK b bv0 bvl
  replace bv1 := cK b bv1 bvl
  replace bvl := lK b bvl
  replace bp0 := cK b bp0 bpl
  replace bp1 := cK b bp1 bpl
  replace bpl := lK b bpl
  replace bq0 := cK b bq0 bql
  replace bq1 := cK b bq1 bql
  replace bql := lK b bql
  replace br0 := cK b br0 brl
  replace br1 := cK b br1 brl
  replace br2 := cK b br2 brl
  replace brl := lK b brl
  replace bs0 := cK b bs0 bsl
  replace bs1 := cK b bs1 bsl
  replace bs2 := cK b bs2 bsl
  replace bsl := lK b bsl
  replace cc := bK cc b
  clear b
  go_wp2_with fail
  refine (rtsame_none _).mono ?_
  rintro e w24 ⟨rfl, b⟩
  replace h0 := h0.on b
  replace h1 := h1.on b
  replace hbx := hbx.on b
  replace hbi := hbi.on b
  replace hbu := hbu.on b
  replace hbv := hbv.on b
  replace hbp := hbp.on b
  replace hbq := hbq.on b
  replace pa0 := cK b pa0 pal
  replace pa1 := cK b pa1 pal
  replace pa2 := cK b pa2 pal
  replace pal := lK b pal
  replace pb0 := cK b pb0 pbl
  replace pb1 := cK b pb1 pbl
  replace pbl := lK b pbl
  replace bx0 := cK b bx0 bxl
  replace bx1 := cK b bx1 bxl
  replace bxl := lK b bxl
  replace bi0 := cK b bi0 bil
  replace bi1 := cK b bi1 bil
  replace bil := lK b bil
  replace bu0 := cK b bu0 bul
  replace bu1 := cK b bu1 bul
  replace bul := lK b bul
  replace bv0 := cK b bv0 bvl
  replace bv1 := cK b bv1 bvl
  replace bvl := lK b bvl
  replace bp0 := cK b bp0 bpl
  replace bp1 := cK b bp1 bpl
  replace bpl := lK b bpl
  replace bq0 := cK b bq0 bql
  replace bq1 := cK b bq1 bql
  replace bql := lK b bql
  replace br0 := cK b br0 brl
  replace br1 := cK b br1 brl
  replace br2 := cK b br2 brl
  replace brl := lK b brl
  replace bs0 := cK b bs0 bsl
  replace bs1 := cK b bs1 bsl
  replace bs2 := cK b bs2 bsl
  replace bsl := lK b bsl
  replace cc := bK cc b
  clear b
  go_wp2_with fail
  go_ret
  exact ⟨rfl, cc⟩

set_option maxRecDepth 100000 in
set_option maxHeartbeats 8000000 in
theorem DyadTells_high {w : World} {b0 : Bool} {A0 B0 : Option Addr} {n0 c0 m0 d0 : Nat} {b1 : Bool} {A1 : Option Addr} {n1 c1 : Nat} {j : Int} {x0 : Rat} (h0 : Rt w b0 A0 n0 c0 B0 m0 d0 x0) {z1 : Int} (h1 : Zn w b1 A1 n1 c1 z1) {zf zc zn rc : Int} (lf : (limbs zf.natAbs).length ≤ 300) (lc : (limbs zc.natAbs).length ≤ 300) (ln : (limbs zn.natAbs).length ≤ 300) (G0 : ∀ W : World, Below w.heap.size w W → Calls Try.prog 9 #[.agg #[.bool b0, .slice A0 n0 c0, .slice B0 m0 d0], .int .i64 4] W (GotV W (.bool true))) (G1 : ∀ W : World, Below w.heap.size w W → Calls Try.prog 10 #[.agg #[.bool b1, .slice A1 n1 c1], .int .i64 4] W (GotV W (.bool true))) (hj : 2000 < j) (CF : ∀ {W : World} {b : Bool} {A B : Option Addr} {n c m d : Nat}, Rt W b A n c B m d x0 → Calls Try.prog 12 #[.agg #[.bool b, .slice A n c, .slice B m d], .int .i64 j] W (GotZp W zf rc)) (RF : ∀ {W : World} {b : Bool} {A B : Option Addr} {n c m d : Nat}, Rt W b A n c B m d x0 → Calls Try.prog 13 #[.agg #[.bool b, .slice A n c, .slice B m d], .int .i64 j] W (GotZp W zf rc)) (CC : ∀ {W : World} {b : Bool} {A B : Option Addr} {n c m d : Nat}, Rt W b A n c B m d x0 → Calls Try.prog 14 #[.agg #[.bool b, .slice A n c, .slice B m d], .int .i64 j] W (GotZp W zc rc)) (RC : ∀ {W : World} {b : Bool} {A B : Option Addr} {n c m d : Nat}, Rt W b A n c B m d x0 → Calls Try.prog 15 #[.agg #[.bool b, .slice A n c, .slice B m d], .int .i64 j] W (GotZp W zc rc)) (CN : ∀ {W : World} {b : Bool} {A B : Option Addr} {n c m d : Nat}, Rt W b A n c B m d x0 → Calls Try.prog 16 #[.agg #[.bool b, .slice A n c, .slice B m d], .int .i64 j] W (GotZp W zn rc)) (RN : ∀ {W : World} {b : Bool} {A B : Option Addr} {n c m d : Nat}, Rt W b A n c B m d x0 → Calls Try.prog 17 #[.agg #[.bool b, .slice A n c, .slice B m d], .int .i64 j] W (GotZp W zn rc)) (CB : ∀ {W : World} {b : Bool} {A : Option Addr} {n c : Nat}, Zn W b A n c z1 → Calls Try.prog 18 #[.agg #[.bool b, .slice A n c], .int .i64 j] W (GotV W (.tuple #[.agg #[.bool false, .slice none 0 0, .slice none 0 0], .int .i64 rc]))) (RB : ∀ {W : World} {b : Bool} {A : Option Addr} {n c : Nat}, Zn W b A n c z1 → Calls Try.prog 19 #[.agg #[.bool b, .slice A n c], .int .i64 j] W (GotV W (.tuple #[.agg #[.bool false, .slice none 0 0, .slice none 0 0], .int .i64 rc]))) :
    Calls Try.prog 3 #[.agg #[.bool b0, .slice A0 n0 c0, .slice B0 m0 d0], .agg #[.bool b1, .slice A1 n1 c1], .int .i64 j] w fun e w' => e = .returned (.bool true) ∧ Below w.heap.size w w' := by
  have t1 : decide (400 < j) = true := decide_eq_true (by omega)
  have t2 : decide (j ≤ 2000) = false := decide_eq_false (by omega)
  have cc := Below.refl w.heap.size w
  go_enter Try.func3, Try.ntmps3
  go_wp2_with fail
  have bA : Below w.heap.size w ((w.alloc (.cells #[.bool b0, .slice A0 n0 c0, .slice B0 m0 d0] 27)).alloc (.cells #[.bool b1, .slice A1 n1 c1] 25)) := (((Below.refl _ w).alloc (by simp) _).alloc (by simp) _)
  replace h0 := h0.on bA
  replace h1 := h1.on bA
  replace cc := bK cc bA
  clear bA
  have pa0 : ((w.alloc (.cells #[.bool b0, .slice A0 n0 c0, .slice B0 m0 d0] 27)).alloc (.cells #[.bool b1, .slice A1 n1 c1] 25)).cell? ⟨w.heap.size, 0, none⟩ = some (.bool b0) := by simp [go_sem]
  have pa1 : ((w.alloc (.cells #[.bool b0, .slice A0 n0 c0, .slice B0 m0 d0] 27)).alloc (.cells #[.bool b1, .slice A1 n1 c1] 25)).cell? ⟨w.heap.size, 1, none⟩ = some (.slice A0 n0 c0) := by simp [go_sem]
  have pa2 : ((w.alloc (.cells #[.bool b0, .slice A0 n0 c0, .slice B0 m0 d0] 27)).alloc (.cells #[.bool b1, .slice A1 n1 c1] 25)).cell? ⟨w.heap.size, 2, none⟩ = some (.slice B0 m0 d0) := by simp [go_sem]
  have pal : w.heap.size < ((w.alloc (.cells #[.bool b0, .slice A0 n0 c0, .slice B0 m0 d0] 27)).alloc (.cells #[.bool b1, .slice A1 n1 c1] 25)).heap.size := by simp <;> omega
  have pb0 : ((w.alloc (.cells #[.bool b0, .slice A0 n0 c0, .slice B0 m0 d0] 27)).alloc (.cells #[.bool b1, .slice A1 n1 c1] 25)).cell? ⟨w.heap.size + 1, 0, none⟩ = some (.bool b1) := by simp [go_sem]
  have pb1 : ((w.alloc (.cells #[.bool b0, .slice A0 n0 c0, .slice B0 m0 d0] 27)).alloc (.cells #[.bool b1, .slice A1 n1 c1] 25)).cell? ⟨w.heap.size + 1, 1, none⟩ = some (.slice A1 n1 c1) := by simp [go_sem]
  have pbl : w.heap.size + 1 < ((w.alloc (.cells #[.bool b0, .slice A0 n0 c0, .slice B0 m0 d0] 27)).alloc (.cells #[.bool b1, .slice A1 n1 c1] 25)).heap.size := by simp <;> omega
  generalize (w.alloc (.cells #[.bool b0, .slice A0 n0 c0, .slice B0 m0 d0] 27)).alloc (.cells #[.bool b1, .slice A1 n1 c1] 25) = v1 at *
  refine (G0 _ cc).mono ?_
  rintro e w2 ⟨rfl, b⟩
  replace h0 := h0.on b
  replace h1 := h1.on b
  replace pa0 := cK b pa0 pal
  replace pa1 := cK b pa1 pal
  replace pa2 := cK b pa2 pal
  replace pal := lK b pal
  replace pb0 := cK b pb0 pbl
  replace pb1 := cK b pb1 pbl
  replace pbl := lK b pbl
  replace cc := bK cc b
  clear b
  go_wp2_with fail
  refine (G1 _ cc).mono ?_
  rintro e w3 ⟨rfl, b⟩
  replace h0 := h0.on b
  replace h1 := h1.on b
  replace pa0 := cK b pa0 pal
  replace pa1 := cK b pa1 pal
  replace pa2 := cK b pa2 pal
  replace pal := lK b pal
  replace pb0 := cK b pb0 pbl
  replace pb1 := cK b pb1 pbl
  replace pbl := lK b pbl
  replace cc := bK cc b
  clear b
  go_wp2_with fail
  refine (CF h0).mono ?_
  rintro e w4 ⟨bbx, Abx, nbx, cbx, rfl, hbx, b⟩
  replace h0 := h0.on b
  replace h1 := h1.on b
  replace pa0 := cK b pa0 pal
  replace pa1 := cK b pa1 pal
  replace pa2 := cK b pa2 pal
  replace pal := lK b pal
  replace pb0 := cK b pb0 pbl
  replace pb1 := cK b pb1 pbl
  replace pbl := lK b pbl
  replace cc := bK cc b
  clear b
  go_wp2_with fail
  have bA := below_one w4 (.cells #[.bool bbx, .slice Abx nbx cbx] 25)
  replace h0 := h0.on bA
  replace h1 := h1.on bA
  replace hbx := hbx.on bA
  replace pa0 := cK bA pa0 pal
  replace pa1 := cK bA pa1 pal
  replace pa2 := cK bA pa2 pal
  replace pal := lK bA pal
  replace pb0 := cK bA pb0 pbl
  replace pb1 := cK bA pb1 pbl
  replace pbl := lK bA pbl
  replace cc := bK cc bA
  clear bA
  have bx0 : (w4.alloc (.cells #[.bool bbx, .slice Abx nbx cbx] 25)).cell? ⟨w4.heap.size, 0, none⟩ = some (.bool bbx) := by simp [go_sem]
  have bx1 : (w4.alloc (.cells #[.bool bbx, .slice Abx nbx cbx] 25)).cell? ⟨w4.heap.size, 1, none⟩ = some (.slice Abx nbx cbx) := by simp [go_sem]
  have bxl : w4.heap.size < (w4.alloc (.cells #[.bool bbx, .slice Abx nbx cbx] 25)).heap.size := by simp
  generalize w4.alloc (.cells #[.bool bbx, .slice Abx nbx cbx] 25) = v5 at *
  refine (RF h0).mono ?_
  rintro e w6 ⟨bbi, Abi, nbi, cbi, rfl, hbi, b⟩
  replace h0 := h0.on b
  replace h1 := h1.on b
  replace hbx := hbx.on b
  replace pa0 := cK b pa0 pal
  replace pa1 := cK b pa1 pal
  replace pa2 := cK b pa2 pal
  replace pal := lK b pal
  replace pb0 := cK b pb0 pbl
  replace pb1 := cK b pb1 pbl
  replace pbl := lK b pbl
  replace bx0 := cK b bx0 bxl
  replace bx1 := cK b bx1 bxl
  replace bxl := lK b bxl
  replace cc := bK cc b
  clear b
  go_wp2_with fail
  have bA := below_one w6 (.cells #[.bool bbi, .slice Abi nbi cbi] 25)
  replace h0 := h0.on bA
  replace h1 := h1.on bA
  replace hbx := hbx.on bA
  replace hbi := hbi.on bA
  replace pa0 := cK bA pa0 pal
  replace pa1 := cK bA pa1 pal
  replace pa2 := cK bA pa2 pal
  replace pal := lK bA pal
  replace pb0 := cK bA pb0 pbl
  replace pb1 := cK bA pb1 pbl
  replace pbl := lK bA pbl
  replace bx0 := cK bA bx0 bxl
  replace bx1 := cK bA bx1 bxl
  replace bxl := lK bA bxl
  replace cc := bK cc bA
  clear bA
  have bi0 : (w6.alloc (.cells #[.bool bbi, .slice Abi nbi cbi] 25)).cell? ⟨w6.heap.size, 0, none⟩ = some (.bool bbi) := by simp [go_sem]
  have bi1 : (w6.alloc (.cells #[.bool bbi, .slice Abi nbi cbi] 25)).cell? ⟨w6.heap.size, 1, none⟩ = some (.slice Abi nbi cbi) := by simp [go_sem]
  have bil : w6.heap.size < (w6.alloc (.cells #[.bool bbi, .slice Abi nbi cbi] 25)).heap.size := by simp
  generalize w6.alloc (.cells #[.bool bbi, .slice Abi nbi cbi] 25) = v7 at *
  refine (CC h0).mono ?_
  rintro e w8 ⟨bbu, Abu, nbu, cbu, rfl, hbu, b⟩
  replace h0 := h0.on b
  replace h1 := h1.on b
  replace hbx := hbx.on b
  replace hbi := hbi.on b
  replace pa0 := cK b pa0 pal
  replace pa1 := cK b pa1 pal
  replace pa2 := cK b pa2 pal
  replace pal := lK b pal
  replace pb0 := cK b pb0 pbl
  replace pb1 := cK b pb1 pbl
  replace pbl := lK b pbl
  replace bx0 := cK b bx0 bxl
  replace bx1 := cK b bx1 bxl
  replace bxl := lK b bxl
  replace bi0 := cK b bi0 bil
  replace bi1 := cK b bi1 bil
  replace bil := lK b bil
  replace cc := bK cc b
  clear b
  go_wp2_with fail
  have bA := below_one w8 (.cells #[.bool bbu, .slice Abu nbu cbu] 25)
  replace h0 := h0.on bA
  replace h1 := h1.on bA
  replace hbx := hbx.on bA
  replace hbi := hbi.on bA
  replace hbu := hbu.on bA
  replace pa0 := cK bA pa0 pal
  replace pa1 := cK bA pa1 pal
  replace pa2 := cK bA pa2 pal
  replace pal := lK bA pal
  replace pb0 := cK bA pb0 pbl
  replace pb1 := cK bA pb1 pbl
  replace pbl := lK bA pbl
  replace bx0 := cK bA bx0 bxl
  replace bx1 := cK bA bx1 bxl
  replace bxl := lK bA bxl
  replace bi0 := cK bA bi0 bil
  replace bi1 := cK bA bi1 bil
  replace bil := lK bA bil
  replace cc := bK cc bA
  clear bA
  have bu0 : (w8.alloc (.cells #[.bool bbu, .slice Abu nbu cbu] 25)).cell? ⟨w8.heap.size, 0, none⟩ = some (.bool bbu) := by simp [go_sem]
  have bu1 : (w8.alloc (.cells #[.bool bbu, .slice Abu nbu cbu] 25)).cell? ⟨w8.heap.size, 1, none⟩ = some (.slice Abu nbu cbu) := by simp [go_sem]
  have bul : w8.heap.size < (w8.alloc (.cells #[.bool bbu, .slice Abu nbu cbu] 25)).heap.size := by simp
  generalize w8.alloc (.cells #[.bool bbu, .slice Abu nbu cbu] 25) = v9 at *
  refine (RC h0).mono ?_
  rintro e w10 ⟨bbv, Abv, nbv, cbv, rfl, hbv, b⟩
  replace h0 := h0.on b
  replace h1 := h1.on b
  replace hbx := hbx.on b
  replace hbi := hbi.on b
  replace hbu := hbu.on b
  replace pa0 := cK b pa0 pal
  replace pa1 := cK b pa1 pal
  replace pa2 := cK b pa2 pal
  replace pal := lK b pal
  replace pb0 := cK b pb0 pbl
  replace pb1 := cK b pb1 pbl
  replace pbl := lK b pbl
  replace bx0 := cK b bx0 bxl
  replace bx1 := cK b bx1 bxl
  replace bxl := lK b bxl
  replace bi0 := cK b bi0 bil
  replace bi1 := cK b bi1 bil
  replace bil := lK b bil
  replace bu0 := cK b bu0 bul
  replace bu1 := cK b bu1 bul
  replace bul := lK b bul
  replace cc := bK cc b
  clear b
  go_wp2_with fail
  have bA := below_one w10 (.cells #[.bool bbv, .slice Abv nbv cbv] 25)
  replace h0 := h0.on bA
  replace h1 := h1.on bA
  replace hbx := hbx.on bA
  replace hbi := hbi.on bA
  replace hbu := hbu.on bA
  replace hbv := hbv.on bA
  replace pa0 := cK bA pa0 pal
  replace pa1 := cK bA pa1 pal
  replace pa2 := cK bA pa2 pal
  replace pal := lK bA pal
  replace pb0 := cK bA pb0 pbl
  replace pb1 := cK bA pb1 pbl
  replace pbl := lK bA pbl
  replace bx0 := cK bA bx0 bxl
  replace bx1 := cK bA bx1 bxl
  replace bxl := lK bA bxl
  replace bi0 := cK bA bi0 bil
  replace bi1 := cK bA bi1 bil
  replace bil := lK bA bil
  replace bu0 := cK bA bu0 bul
  replace bu1 := cK bA bu1 bul
  replace bul := lK bA bul
  replace cc := bK cc bA
  clear bA
  have bv0 : (w10.alloc (.cells #[.bool bbv, .slice Abv nbv cbv] 25)).cell? ⟨w10.heap.size, 0, none⟩ = some (.bool bbv) := by simp [go_sem]
  have bv1 : (w10.alloc (.cells #[.bool bbv, .slice Abv nbv cbv] 25)).cell? ⟨w10.heap.size, 1, none⟩ = some (.slice Abv nbv cbv) := by simp [go_sem]
  have bvl : w10.heap.size < (w10.alloc (.cells #[.bool bbv, .slice Abv nbv cbv] 25)).heap.size := by simp
  generalize w10.alloc (.cells #[.bool bbv, .slice Abv nbv cbv] 25) = v11 at *
  refine (CN h0).mono ?_
  rintro e w12 ⟨bbp, Abp, nbp, cbp, rfl, hbp, b⟩
  replace h0 := h0.on b
  replace h1 := h1.on b
  replace hbx := hbx.on b
  replace hbi := hbi.on b
  replace hbu := hbu.on b
  replace hbv := hbv.on b
  replace pa0 := cK b pa0 pal
  replace pa1 := cK b pa1 pal
  replace pa2 := cK b pa2 pal
  replace pal := lK b pal
  replace pb0 := cK b pb0 pbl
  replace pb1 := cK b pb1 pbl
  replace pbl := lK b pbl
  replace bx0 := cK b bx0 bxl
  replace bx1 := cK b bx1 bxl
  replace bxl := lK b bxl
  replace bi0 := cK b bi0 bil
  replace bi1 := cK b bi1 bil
  replace bil := lK b bil
  replace bu0 := cK b bu0 bul
  replace bu1 := cK b bu1 bul
  replace bul := lK b bul
  replace bv0 := cK b bv0 bvl
  replace bv1 := cK b bv1 bvl
  replace bvl := lK b bvl
  replace cc := bK cc b
  clear b
  go_wp2_with fail
  have bA := below_one w12 (.cells #[.bool bbp, .slice Abp nbp cbp] 25)
  replace h0 := h0.on bA
  replace h1 := h1.on bA
  replace hbx := hbx.on bA
  replace hbi := hbi.on bA
  replace hbu := hbu.on bA
  replace hbv := hbv.on bA
  replace hbp := hbp.on bA
  replace pa0 := cK bA pa0 pal
  replace pa1 := cK bA pa1 pal
  replace pa2 := cK bA pa2 pal
  replace pal := lK bA pal
  replace pb0 := cK bA pb0 pbl
  replace pb1 := cK bA pb1 pbl
  replace pbl := lK bA pbl
  replace bx0 := cK bA bx0 bxl
  replace bx1 := cK bA bx1 bxl
  replace bxl := lK bA bxl
  replace bi0 := cK bA bi0 bil
  replace bi1 := cK bA bi1 bil
  replace bil := lK bA bil
  replace bu0 := cK bA bu0 bul
  replace bu1 := cK bA bu1 bul
  replace bul := lK bA bul
  replace bv0 := cK bA bv0 bvl
  replace bv1 := cK bA bv1 bvl
  replace bvl := lK bA bvl
  replace cc := bK cc bA
  clear bA
  have bp0 : (w12.alloc (.cells #[.bool bbp, .slice Abp nbp cbp] 25)).cell? ⟨w12.heap.size, 0, none⟩ = some (.bool bbp) := by simp [go_sem]
  have bp1 : (w12.alloc (.cells #[.bool bbp, .slice Abp nbp cbp] 25)).cell? ⟨w12.heap.size, 1, none⟩ = some (.slice Abp nbp cbp) := by simp [go_sem]
  have bpl : w12.heap.size < (w12.alloc (.cells #[.bool bbp, .slice Abp nbp cbp] 25)).heap.size := by simp
  generalize w12.alloc (.cells #[.bool bbp, .slice Abp nbp cbp] 25) = v13 at *
  refine (RN h0).mono ?_
  rintro e w14 ⟨bbq, Abq, nbq, cbq, rfl, hbq, b⟩
  replace h0 := h0.on b
  replace h1 := h1.on b
  replace hbx := hbx.on b
  replace hbi := hbi.on b
  replace hbu := hbu.on b
  replace hbv := hbv.on b
  replace hbp := hbp.on b
  replace pa0 := cK b pa0 pal
  replace pa1 := cK b pa1 pal
  replace pa2 := cK b pa2 pal
  replace pal := lK b pal
  replace pb0 := cK b pb0 pbl
  replace pb1 := cK b pb1 pbl
  replace pbl := lK b pbl
  replace bx0 := cK b bx0 bxl
  replace bx1 := cK b bx1 bxl
  replace bxl := lK b bxl
  replace bi0 := cK b bi0 bil
  replace bi1 := cK b bi1 bil
  replace bil := lK b bil
  replace bu0 := cK b bu0 bul
  replace bu1 := cK b bu1 bul
  replace bul := lK b bul
  replace bv0 := cK b bv0 bvl
  replace bv1 := cK b bv1 bvl
  replace bvl := lK b bvl
  replace bp0 := cK b bp0 bpl
  replace bp1 := cK b bp1 bpl
  replace bpl := lK b bpl
  replace cc := bK cc b
  clear b
  go_wp2_with fail
  have bA := below_one w14 (.cells #[.bool bbq, .slice Abq nbq cbq] 25)
  replace h0 := h0.on bA
  replace h1 := h1.on bA
  replace hbx := hbx.on bA
  replace hbi := hbi.on bA
  replace hbu := hbu.on bA
  replace hbv := hbv.on bA
  replace hbp := hbp.on bA
  replace hbq := hbq.on bA
  replace pa0 := cK bA pa0 pal
  replace pa1 := cK bA pa1 pal
  replace pa2 := cK bA pa2 pal
  replace pal := lK bA pal
  replace pb0 := cK bA pb0 pbl
  replace pb1 := cK bA pb1 pbl
  replace pbl := lK bA pbl
  replace bx0 := cK bA bx0 bxl
  replace bx1 := cK bA bx1 bxl
  replace bxl := lK bA bxl
  replace bi0 := cK bA bi0 bil
  replace bi1 := cK bA bi1 bil
  replace bil := lK bA bil
  replace bu0 := cK bA bu0 bul
  replace bu1 := cK bA bu1 bul
  replace bul := lK bA bul
  replace bv0 := cK bA bv0 bvl
  replace bv1 := cK bA bv1 bvl
  replace bvl := lK bA bvl
  replace bp0 := cK bA bp0 bpl
  replace bp1 := cK bA bp1 bpl
  replace bpl := lK bA bpl
  replace cc := bK cc bA
  clear bA
  have bq0 : (w14.alloc (.cells #[.bool bbq, .slice Abq nbq cbq] 25)).cell? ⟨w14.heap.size, 0, none⟩ = some (.bool bbq) := by simp [go_sem]
  have bq1 : (w14.alloc (.cells #[.bool bbq, .slice Abq nbq cbq] 25)).cell? ⟨w14.heap.size, 1, none⟩ = some (.slice Abq nbq cbq) := by simp [go_sem]
  have bql : w14.heap.size < (w14.alloc (.cells #[.bool bbq, .slice Abq nbq cbq] 25)).heap.size := by simp
  generalize w14.alloc (.cells #[.bool bbq, .slice Abq nbq cbq] 25) = v15 at *
  refine (CB h1).mono ?_
  rintro e w16 ⟨rfl, b⟩
  replace h0 := h0.on b
  replace h1 := h1.on b
  replace hbx := hbx.on b
  replace hbi := hbi.on b
  replace hbu := hbu.on b
  replace hbv := hbv.on b
  replace hbp := hbp.on b
  replace hbq := hbq.on b
  replace pa0 := cK b pa0 pal
  replace pa1 := cK b pa1 pal
  replace pa2 := cK b pa2 pal
  replace pal := lK b pal
  replace pb0 := cK b pb0 pbl
  replace pb1 := cK b pb1 pbl
  replace pbl := lK b pbl
  replace bx0 := cK b bx0 bxl
  replace bx1 := cK b bx1 bxl
  replace bxl := lK b bxl
  replace bi0 := cK b bi0 bil
  replace bi1 := cK b bi1 bil
  replace bil := lK b bil
  replace bu0 := cK b bu0 bul
  replace bu1 := cK b bu1 bul
  replace bul := lK b bul
  replace bv0 := cK b bv0 bvl
  replace bv1 := cK b bv1 bvl
  replace bvl := lK b bvl
  replace bp0 := cK b bp0 bpl
  replace bp1 := cK b bp1 bpl
  replace bpl := lK b bpl
  replace bq0 := cK b bq0 bql
  replace bq1 := cK b bq1 bql
  replace bql := lK b bql
  replace cc := bK cc b
  clear b
  go_wp2_with fail
  have bA := below_one w16 (.cells #[.bool false, .slice none 0 0, .slice none 0 0] 27)
  replace h0 := h0.on bA
  replace h1 := h1.on bA
  replace hbx := hbx.on bA
  replace hbi := hbi.on bA
  replace hbu := hbu.on bA
  replace hbv := hbv.on bA
  replace hbp := hbp.on bA
  replace hbq := hbq.on bA
  replace pa0 := cK bA pa0 pal
  replace pa1 := cK bA pa1 pal
  replace pa2 := cK bA pa2 pal
  replace pal := lK bA pal
  replace pb0 := cK bA pb0 pbl
  replace pb1 := cK bA pb1 pbl
  replace pbl := lK bA pbl
  replace bx0 := cK bA bx0 bxl
  replace bx1 := cK bA bx1 bxl
  replace bxl := lK bA bxl
  replace bi0 := cK bA bi0 bil
  replace bi1 := cK bA bi1 bil
  replace bil := lK bA bil
  replace bu0 := cK bA bu0 bul
  replace bu1 := cK bA bu1 bul
  replace bul := lK bA bul
  replace bv0 := cK bA bv0 bvl
  replace bv1 := cK bA bv1 bvl
  replace bvl := lK bA bvl
  replace bp0 := cK bA bp0 bpl
  replace bp1 := cK bA bp1 bpl
  replace bpl := lK bA bpl
  replace bq0 := cK bA bq0 bql
  replace bq1 := cK bA bq1 bql
  replace bql := lK bA bql
  replace cc := bK cc bA
  clear bA
  have br0 : (w16.alloc (.cells #[.bool false, .slice none 0 0, .slice none 0 0] 27)).cell? ⟨w16.heap.size, 0, none⟩ = some (.bool false) := by simp [go_sem]
  have br1 : (w16.alloc (.cells #[.bool false, .slice none 0 0, .slice none 0 0] 27)).cell? ⟨w16.heap.size, 1, none⟩ = some (.slice none 0 0) := by simp [go_sem]
  have br2 : (w16.alloc (.cells #[.bool false, .slice none 0 0, .slice none 0 0] 27)).cell? ⟨w16.heap.size, 2, none⟩ = some (.slice none 0 0) := by simp [go_sem]
  have brl : w16.heap.size < (w16.alloc (.cells #[.bool false, .slice none 0 0, .slice none 0 0] 27)).heap.size := by simp
  generalize w16.alloc (.cells #[.bool false, .slice none 0 0, .slice none 0 0] 27) = v17 at *
  refine (RB h1).mono ?_
  rintro e w18 ⟨rfl, b⟩
  replace h0 := h0.on b
  replace h1 := h1.on b
  replace hbx := hbx.on b
  replace hbi := hbi.on b
  replace hbu := hbu.on b
  replace hbv := hbv.on b
  replace hbp := hbp.on b
  replace hbq := hbq.on b
  replace pa0 := cK b pa0 pal
  replace pa1 := cK b pa1 pal
  replace pa2 := cK b pa2 pal
  replace pal := lK b pal
  replace pb0 := cK b pb0 pbl
  replace pb1 := cK b pb1 pbl
  replace pbl := lK b pbl
  replace bx0 := cK b bx0 bxl
  replace bx1 := cK b bx1 bxl
  replace bxl := lK b bxl
  replace bi0 := cK b bi0 bil
  replace bi1 := cK b bi1 bil
  replace bil := lK b bil
  replace bu0 := cK b bu0 bul
  replace bu1 := cK b bu1 bul
  replace bul := lK b bul
  replace bv0 := cK b bv0 bvl
  replace bv1 := cK b bv1 bvl
  replace bvl := lK b bvl
  replace bp0 := cK b bp0 bpl
  replace bp1 := cK b bp1 bpl
  replace bpl := lK b bpl
  replace bq0 := cK b bq0 bql
  replace bq1 := cK b bq1 bql
  replace bql := lK b bql
  replace br0 := cK b br0 brl
  replace br1 := cK b br1 brl
  replace br2 := cK b br2 brl
  replace brl := lK b brl
  replace cc := bK cc b
  clear b
  go_wp2_with fail
  have bA := below_one w18 (.cells #[.bool false, .slice none 0 0, .slice none 0 0] 27)
  replace h0 := h0.on bA
  replace h1 := h1.on bA
  replace hbx := hbx.on bA
  replace hbi := hbi.on bA
  replace hbu := hbu.on bA
  replace hbv := hbv.on bA
  replace hbp := hbp.on bA
  replace hbq := hbq.on bA
  replace pa0 := cK bA pa0 pal
  replace pa1 := cK bA pa1 pal
  replace pa2 := cK bA pa2 pal
  replace pal := lK bA pal
  replace pb0 := cK bA pb0 pbl
  replace pb1 := cK bA pb1 pbl
  replace pbl := lK bA pbl
  replace bx0 := cK bA bx0 bxl
  replace bx1 := cK bA bx1 bxl
  replace bxl := lK bA bxl
  replace bi0 := cK bA bi0 bil
  replace bi1 := cK bA bi1 bil
  replace bil := lK bA bil
  replace bu0 := cK bA bu0 bul
  replace bu1 := cK bA bu1 bul
  replace bul := lK bA bul
  replace bv0 := cK bA bv0 bvl
  replace bv1 := cK bA bv1 bvl
  replace bvl := lK bA bvl
  replace bp0 := cK bA bp0 bpl
  replace bp1 := cK bA bp1 bpl
  replace bpl := lK bA bpl
  replace bq0 := cK bA bq0 bql
  replace bq1 := cK bA bq1 bql
  replace bql := lK bA bql
  replace br0 := cK bA br0 brl
  replace br1 := cK bA br1 brl
  replace br2 := cK bA br2 brl
  replace brl := lK bA brl
  replace cc := bK cc bA
  clear bA
  have bs0 : (w18.alloc (.cells #[.bool false, .slice none 0 0, .slice none 0 0] 27)).cell? ⟨w18.heap.size, 0, none⟩ = some (.bool false) := by simp [go_sem]
  have bs1 : (w18.alloc (.cells #[.bool false, .slice none 0 0, .slice none 0 0] 27)).cell? ⟨w18.heap.size, 1, none⟩ = some (.slice none 0 0) := by simp [go_sem]
  have bs2 : (w18.alloc (.cells #[.bool false, .slice none 0 0, .slice none 0 0] 27)).cell? ⟨w18.heap.size, 2, none⟩ = some (.slice none 0 0) := by simp [go_sem]
  have bsl : w18.heap.size < (w18.alloc (.cells #[.bool false, .slice none 0 0, .slice none 0 0] 27)).heap.size := by simp
  generalize w18.alloc (.cells #[.bool false, .slice none 0 0, .slice none 0 0] 27) = v19 at *
  refine (zsame_self hbx hbi lf).mono ?_
  rintro e w20 ⟨rfl, b⟩
  replace h0 := h0.on b
  replace h1 := h1.on b
  replace hbx := hbx.on b
  replace hbi := hbi.on b
  replace hbu := hbu.on b
  replace hbv := hbv.on b
  replace hbp := hbp.on b
  replace hbq := hbq.on b
  replace pa0 := cK b pa0 pal
  replace pa1 := cK b pa1 pal
  replace pa2 := cK b pa2 pal
  replace pal := lK b pal
  replace pb0 := cK b pb0 pbl
  replace pb1 := cK b pb1 pbl
  replace pbl := lK b pbl
  replace bx0 := cK b bx0 bxl
  replace bx1 := cK b bx1 bxl
  replace bxl := lK b bxl
  replace bi0 := cK b bi0 bil
  replace bi1 := cK b bi1 bil
  replace bil := lK b bil
  replace bu0 := cK b bu0 bul
  replace bu1 := cK b bu1 bul
  replace bul := lK b bul
  replace bv0 := cK b bv0 bvl
  replace bv1 := cK b bv1 bvl
  replace bvl := lK b bvl
  replace bp0 := cK b bp0 bpl
  replace bp1 := cK b bp1 bpl
  replace bpl := lK b bpl
  replace bq0 := cK b bq0 bql
  replace bq1 := cK b bq1 bql
  replace bql := lK b bql
  replace br0 := cK b br0 brl
  replace br1 := cK b br1 brl
  replace br2 := cK b br2 brl
  replace brl := lK b brl
  replace bs0 := cK b bs0 bsl
  replace bs1 := cK b bs1 bsl
  replace bs2 := cK b bs2 bsl
  replace bsl := lK b bsl
  replace cc := bK cc b
  clear b
  go_wp2_with fail
  refine (zsame_self hbu hbv lc).mono ?_
  rintro e w21 ⟨rfl, b⟩
  replace h0 := h0.on b
  replace h1 := h1.on b
  replace hbx := hbx.on b
  replace hbi := hbi.on b
  replace hbu := hbu.on b
  replace hbv := hbv.on b
  replace hbp := hbp.on b
  replace hbq := hbq.on b
  replace pa0 := cK b pa0 pal
  replace pa1 := cK b pa1 pal
  replace pa2 := cK b pa2 pal
  replace pal := lK b pal
  replace pb0 := cK b pb0 pbl
  replace pb1 := cK b pb1 pbl
  replace pbl := lK b pbl
  replace bx0 := cK b bx0 bxl
  replace bx1 := cK b bx1 bxl
  replace bxl := lK b bxl
  replace bi0 := cK b bi0 bil
  replace bi1 := cK b bi1 bil
  replace bil := lK b bil
  replace bu0 := cK b bu0 bul
  replace bu1 := cK b bu1 bul
  replace bul := lK b bul
  replace bv0 := cK b bv0 bvl
  replace bv1 := cK b bv1 bvl
  replace bvl := lK b bvl
  replace bp0 := cK b bp0 bpl
  replace bp1 := cK b bp1 bpl
  replace bpl := lK b bpl
  replace bq0 := cK b bq0 bql
  replace bq1 := cK b bq1 bql
  replace bql := lK b bql
  replace br0 := cK b br0 brl
  replace br1 := cK b br1 brl
  replace br2 := cK b br2 brl
  replace brl := lK b brl
  replace bs0 := cK b bs0 bsl
  replace bs1 := cK b bs1 bsl
  replace bs2 := cK b bs2 bsl
  replace bsl := lK b bsl
  replace cc := bK cc b
  clear b
  go_wp2_with fail
  refine (alive6_any _).mono ?_
  rintro e w22 ⟨rfl, b⟩
  replace h0 := h0.on b
  replace h1 := h1.on b
  replace hbx := hbx.on b
  replace hbi := hbi.on b
  replace hbu := hbu.on b
  replace hbv := hbv.on b
  replace hbp := hbp.on b
  replace hbq := hbq.on b
  replace pa0 := cK b pa0 pal
  replace pa1 := cK b pa1 pal
  replace pa2 := cK b pa2 pal
  replace pal := lK b pal
  replace pb0 := cK b pb0 pbl
  replace pb1 := cK b pb1 pbl
  replace pbl := lK b pbl
  replace bx0 := cK b bx0 bxl
  replace bx1 := cK b bx1 bxl
  replace bxl := lK b bxl
  replace bi0 := cK b bi0 bil
  replace bi1 := cK b bi1 bil
  replace bil := lK b bil
  replace bu0 := cK b bu0 bul
  replace bu1 := cK b bu1 bul
  replace bul := lK b bul
  replace bv0 := cK b bv0 bvl
  replace bv1 := cK b bv1 bvl
  replace bvl := lK b bvl
  replace bp0 := cK b bp0 bpl
  replace bp1 := cK b bp1 bpl
  replace bpl := lK b bpl
  replace bq0 := cK b bq0 bql
  replace bq1 := cK b bq1 bql
  replace bql := lK b bql
  replace br0 := cK b br0 brl
  replace br1 := cK b br1 brl
  replace br2 := cK b br2 brl
  replace brl := lK b brl
  replace bs0 := cK b bs0 bsl
  replace bs1 := cK b bs1 bsl
  replace bs2 := cK b bs2 bsl
  replace bsl := lK b bsl
  replace cc := bK cc b
  clear b
  go_wp2_with fail
  refine (zsame_self hbp hbq ln).mono ?_
  rintro e w23 ⟨rfl, b⟩
  replace h0 := h0.on b
  replace h1 := h1.on b
  replace hbx := hbx.on b
  replace hbi := hbi.on b
  replace hbu := hbu.on b
  replace hbv := hbv.on b
  replace hbp := hbp.on b
  replace hbq := hbq.on b
  replace pa0 := cK b pa0 pal
  replace pa1 := cK b pa1 pal
  replace pa2 := cK b pa2 pal
  replace pal := lK b pal
  replace pb0 := cK b pb0 pbl
  replace pb1 := cK b pb1 pbl
  replace pbl := lK b pbl
  replace bx0 := cK b bx0 bxl
  replace bx1 := cK b bx1 bxl
  replace bxl := lK b bxl
  replace bi0 := cK b bi0 bil
  replace bi1 := cK b bi1 bil
  replace bil := lK b bil
  replace bu0 := cK b bu0 bul
  replace bu1 := cK b bu1 bul
  replace bul := lK b bul
  replace bv0 := cK b bv0 bvl
  replace bv1 := cK b bv1 bvl
  replace bvl := lK b bvl
  replace bp0 := cK b bp0 bpl
  replace bp1 := cK b bp1 bpl
  replace bpl := lK b bpl
  replace bq0 := cK b bq0 bql
  replace bq1 := cK b bq1 bql
  replace bql := lK b bql
  replace br0 := cK b br0 brl
  replace br1 := cK b br1 brl
  replace br2 := cK b br2 brl
  replace brl := lK b brl
  replace bs0 := cK b bs0 bsl
  replace bs1 := cK b bs1 bsl
  replace bs2 := cK b bs2 bsl
  replace bsl := lK b bsl
  replace cc := bK cc b
  clear b
  go_wp2_with fail
  refine (rtsame_none _).mono ?_
  rintro e w24 ⟨rfl, b⟩
  replace h0 := h0.on b
  replace h1 := h1.on b
  replace hbx := hbx.on b
  replace hbi := hbi.on b
  replace hbu := hbu.on b
  replace hbv := hbv.on b
  replace hbp := hbp.on b
  replace hbq := hbq.on b
  replace pa0 := cK b pa0 pal
  replace pa1 := cK b pa1 pal
  replace pa2 := cK b pa2 pal
  replace pal := lK b pal
  replace pb0 := cK b pb0 pbl
  replace pb1 := cK b pb1 pbl
  replace pbl := lK b pbl
  replace bx0 := cK b bx0 bxl
  replace bx1 := cK b bx1 bxl
  replace bxl := lK b bxl
  replace bi0 := cK b bi0 bil
  replace bi1 := cK b bi1 bil
  replace bil := lK b bil
  replace bu0 := cK b bu0 bul
  replace bu1 := cK b bu1 bul
  replace bul := lK b bul
  replace bv0 := cK b bv0 bvl
  replace bv1 := cK b bv1 bvl
  replace bvl := lK b bvl
  replace bp0 := cK b bp0 bpl
  replace bp1 := cK b bp1 bpl
  replace bpl := lK b bpl
  replace bq0 := cK b bq0 bql
  replace bq1 := cK b bq1 bql
  replace bql := lK b bql
  replace br0 := cK b br0 brl
  replace br1 := cK b br1 brl
  replace br2 := cK b br2 brl
  replace brl := lK b brl
  replace bs0 := cK b bs0 bsl
  replace bs1 := cK b bs1 bsl
  replace bs2 := cK b bs2 bsl
  replace bsl := lK b bsl
  replace cc := bK cc b
  clear b
  go_wp2_with fail
  go_ret
  exact ⟨rfl, cc⟩

set_option maxRecDepth 100000 in
set_option maxHeartbeats 8000000 in
theorem DyadTells_walk {w : World} (b0 : Bool) {A0 : Option Addr} {n0 c0 : Nat} {l0 : List Nat} (hl0 : Lim w.heap.size w A0 n0 c0 l0) (hs0 : n0 ≤ 9223372036854775807) {B0 : Option Addr} {m0 d0 : Nat} {k0 : List Nat} (hk0 : Lim w.heap.size w B0 m0 d0 k0) (ht0 : m0 ≤ 9223372036854775807) (b1 : Bool) {A1 : Option Addr} {n1 c1 : Nat} {l1 : List Nat} (hl1 : Lim w.heap.size w A1 n1 c1 l1) (hs1 : n1 ≤ 9223372036854775807) (j : Int) (hj : (Lit.int .i64 j).wf = true) :
    Calls Try.prog 3 #[.agg #[.bool b0, .slice A0 n0 c0, .slice B0 m0 d0], .agg #[.bool b1, .slice A1 n1 c1], .int .i64 j] w fun e w' => e = .returned (.bool true) ∧ Below w.heap.size w w' := by
  have G : ∀ {b : Bool} {A B : Option Addr} {n c m d : Nat} {l k : List Nat} (r : Bool), Lim w.heap.size w A n c l → Lim w.heap.size w B m d k → (decide ((n : Int) ≤ 4) && (decide ((m : Int) ≤ 4) && okR b n l m k)) = r → ∀ W : World, Below w.heap.size w W → Calls Try.prog 9 #[.agg #[.bool b, .slice A n c, .slice B m d], .int .i64 4] W (GotV W (.bool r)) := fun r hl hk hr W hW => rtfew_any (hl.on hW) (hk.on hW) 4 (by omega) r hr
  have F : ∀ {b : Bool} {A : Option Addr} {n c : Nat} {l : List Nat} (r : Bool), Lim w.heap.size w A n c l → n ≤ 9223372036854775807 → (decide ((n : Int) ≤ 4) && okZ b n l) = r → ∀ W : World, Below w.heap.size w W → Calls Try.prog 10 #[.agg #[.bool b, .slice A n c], .int .i64 4] W (GotV W (.bool r)) := fun r hl hs hr W hW => rzfew_any 4 r (hl.on hW) hs hr
  cases e0 : (decide ((n0 : Int) ≤ 4) && (decide ((m0 : Int) ≤ 4) && okR b0 n0 l0 m0 k0)) with
  | false => exact DyadTells_no0  (G false hl0 hk0 e0)
  | true =>
    cases e1 : (decide ((n1 : Int) ≤ 4) && okZ b1 n1 l1) with
    | false => exact DyadTells_no1 (G true hl0 hk0 e0) (F false hl1 hs1 e1)
    | true =>
      obtain ⟨x0, h0, s0⟩ := few_rt 4 hl0 hk0 e0
      obtain ⟨h1, s1⟩ := few_zn 4 hl1 e1
      have lz : (limbs (0 : Int).natAbs).length ≤ 300 := by rw [show (0 : Int).natAbs = 0 from rfl, limbs_zero]; simp
      by_cases jm : 400 < j ∧ j ≤ 2000
      · exact DyadTells_no2 (G true hl0 hk0 e0) (F true hl1 hs1 e1) jm.1 jm.2
      by_cases j0 : 0 ≤ j
      · by_cases j1 : j ≤ 400
        · have j2 : j ≤ 500 := by omega
          have jl : j.toNat ≤ 500 := by omega
          exact DyadTells_ok h0 h1 ((bak_sz (k := 8) (Nat.le_trans s1 (by omega)) (by omega) jl).le (by omega)) (Nat.le_trans (flo_len s0 jl) (by omega)) (Nat.le_trans (cei_len s0 jl) (by omega)) (Nat.le_trans (nea_len s0 jl) (by omega)) (G true hl0 hk0 e0) (F true hl1 hs1 e1) j1 (fun hh => dfloor_N hh (s0.le (by omega)) j0 j2) (fun hh => rfloor_N hh (s0.le (by omega)) j0 j2) (fun hh => dceil_N hh (s0.le (by omega)) j0 j2) (fun hh => rceil_N hh (s0.le (by omega)) j0 j2) (fun hh => dnear_N hh (s0.le (by omega)) j0 j2) (fun hh => rnear_N hh (s0.le (by omega)) j0 j2) (fun hh => dback_N hh (by omega) j0 j2) (fun hh => rback_N hh (by omega) j0 j2)
        · have jn : j < 0 ∨ 2000 < j := by omega
          exact DyadTells_high h0 h1 lz lz lz (G true hl0 hk0 e0) (F true hl1 hs1 e1) (by omega) (fun hh => dfloor_no hh (s0.le (by omega)) jn) (fun hh => rfloor_no jn) (fun hh => dceil_no hh (s0.le (by omega)) jn) (fun hh => rceil_no hh (s0.le (by omega)) jn) (fun hh => dnear_no hh (s0.le (by omega)) jn) (fun hh => rnear_no hh (s0.le (by omega)) jn) (fun hh => dback_no jn) (fun hh => rback_no jn)
      · have jn : j < 0 ∨ 2000 < j := by omega
        exact DyadTells_low h0 h1 lz lz lz (G true hl0 hk0 e0) (F true hl1 hs1 e1) (by omega) (fun hh => dfloor_no hh (s0.le (by omega)) jn) (fun hh => rfloor_no jn) (fun hh => dceil_no hh (s0.le (by omega)) jn) (fun hh => rceil_no hh (s0.le (by omega)) jn) (fun hh => dnear_no hh (s0.le (by omega)) jn) (fun hh => rnear_no hh (s0.le (by omega)) jn) (fun hh => dback_no jn) (fun hh => rback_no jn)

end Go.Proofs.Ytchbhmcaalkfdaa
