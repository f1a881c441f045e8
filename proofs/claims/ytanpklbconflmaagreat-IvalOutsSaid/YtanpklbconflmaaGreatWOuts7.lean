/-
  The ways through IvalOuts.
-/
import Derived.Test.YtanpklbconflmaaGreatA13
import Derived.Test.YtanpklbconflmaaGreatA3
namespace Go.Proofs.YtanpklbconflmaaGreat
set_option maxRecDepth 100000
set_option maxHeartbeats 8000000
open Go.RowKit
set_option linter.unusedVariables false
set_option linter.unusedSimpArgs false

theorem IvalOuts_no0 {w : World} {b0 p0 : Bool} {A0 B0 V0 U0 : Option Addr} {n0 c0 m0 d0 r0 k0 o0 q0 : Nat} {j : Int} (G0 : ∀ W : World, Below w.heap.size w W → Calls Tryz.prog 17 #[.agg #[.bool b0, .slice A0 n0 c0, .slice B0 m0 d0, .bool p0, .slice V0 r0 k0, .slice U0 o0 q0], .int .i64 3] W (GotV W (.bool false))) :
    Calls Tryz.prog 5 #[.agg #[.bool b0, .slice A0 n0 c0, .slice B0 m0 d0, .bool p0, .slice V0 r0 k0, .slice U0 o0 q0], .int .i64 j] w (fun e w' => e = .returned (.bool true) ∧ Below w.heap.size w w') := by
  have cc := Below.refl w.heap.size w
  go_enter Tryz.func5, Tryz.ntmps5
  go_wp2_with fail
  generalize hv_ : w.alloc (.cells #[.bool b0, .slice A0 n0 c0, .slice B0 m0 d0, .bool p0, .slice V0 r0 k0, .slice U0 o0 q0] 29) = v1
  have bA : Below w.heap.size w v1 := by rw [← hv_]; exact ((Below.refl _ w).alloc (by simp) _)
  replace cc := bK cc bA
  clear bA
  obtain ⟨pa0, pa1, pa2, pa3, pa4, pa5⟩ : Cs6 v1 w.heap.size (.bool b0) (.slice A0 n0 c0) (.slice B0 m0 d0) (.bool p0) (.slice V0 r0 k0) (.slice U0 o0 q0) := by simp [Cs6, ← hv_, go_sem]
  have pal : w.heap.size < v1.heap.size := by simp [← hv_] <;> omega
  clear hv_
  refine (G0 _ cc).mono ?_
  rintro e w2 ⟨rfl, b⟩
  rewrite [cR b pal] at pa0 pa1 pa2 pa3 pa4 pa5
  replace pal := lK b pal
  replace cc := bK cc b
  clear b
  go_wp2_with fail
  refine (alive7_any _).mono ?_
  rintro e w3 ⟨rfl, b⟩
  rewrite [cR b pal] at pa0 pa1 pa2 pa3 pa4 pa5
  replace pal := lK b pal
  replace cc := bK cc b
  clear b
  go_wp2_with fail
  go_ret
  exact ⟨rfl, cc⟩

theorem IvalOuts_mid {w : World} {b0 p0 : Bool} {A0 B0 V0 U0 : Option Addr} {n0 c0 m0 d0 r0 k0 o0 q0 : Nat} {j : Int} (G0 : ∀ W : World, Below w.heap.size w W → Calls Tryz.prog 17 #[.agg #[.bool b0, .slice A0 n0 c0, .slice B0 m0 d0, .bool p0, .slice V0 r0 k0, .slice U0 o0 q0], .int .i64 3] W (GotV W (.bool true))) (j0 : 300 < j) (j1 : j ≤ 1000) :
    Calls Tryz.prog 5 #[.agg #[.bool b0, .slice A0 n0 c0, .slice B0 m0 d0, .bool p0, .slice V0 r0 k0, .slice U0 o0 q0], .int .i64 j] w (fun e w' => e = .returned (.bool true) ∧ Below w.heap.size w w') := by
  have t1_ : decide (300 < j) = true := decide_eq_true j0
  have t2_ : decide (j ≤ 1000) = true := decide_eq_true j1
  have cc := Below.refl w.heap.size w
  go_enter Tryz.func5, Tryz.ntmps5
  go_wp2_with fail
  generalize hv_ : w.alloc (.cells #[.bool b0, .slice A0 n0 c0, .slice B0 m0 d0, .bool p0, .slice V0 r0 k0, .slice U0 o0 q0] 29) = v1
  have bA : Below w.heap.size w v1 := by rw [← hv_]; exact ((Below.refl _ w).alloc (by simp) _)
  replace cc := bK cc bA
  clear bA
  obtain ⟨pa0, pa1, pa2, pa3, pa4, pa5⟩ : Cs6 v1 w.heap.size (.bool b0) (.slice A0 n0 c0) (.slice B0 m0 d0) (.bool p0) (.slice V0 r0 k0) (.slice U0 o0 q0) := by simp [Cs6, ← hv_, go_sem]
  have pal : w.heap.size < v1.heap.size := by simp [← hv_] <;> omega
  clear hv_
  refine (G0 _ cc).mono ?_
  rintro e w2 ⟨rfl, b⟩
  rewrite [cR b pal] at pa0 pa1 pa2 pa3 pa4 pa5
  replace pal := lK b pal
  replace cc := bK cc b
  clear b
  go_wp2_with fail
  refine (alive7_any _).mono ?_
  rintro e w3 ⟨rfl, b⟩
  rewrite [cR b pal] at pa0 pa1 pa2 pa3 pa4 pa5
  replace pal := lK b pal
  replace cc := bK cc b
  clear b
  go_wp2_with fail
  go_ret
  exact ⟨rfl, cc⟩

theorem IvalOuts_low {w : World} {b0 p0 : Bool} {A0 B0 V0 U0 : Option Addr} {n0 c0 m0 d0 r0 k0 o0 q0 : Nat} {j : Int} {x0 y0 : Rat} (h0 : Rt w b0 A0 n0 c0 B0 m0 d0 x0) (g0 : Rt w p0 V0 r0 k0 U0 o0 q0 y0) (s0 : Sz x0 3) (t0 : Sz y0 3) (G0 : ∀ W : World, Below w.heap.size w W → Calls Tryz.prog 17 #[.agg #[.bool b0, .slice A0 n0 c0, .slice B0 m0 d0, .bool p0, .slice V0 r0 k0, .slice U0 o0 q0], .int .i64 3] W (GotV W (.bool true))) (h : j < 0) :
    Calls Tryz.prog 5 #[.agg #[.bool b0, .slice A0 n0 c0, .slice B0 m0 d0, .bool p0, .slice V0 r0 k0, .slice U0 o0 q0], .int .i64 j] w (fun e w' => e = .returned (.bool true) ∧ Below w.heap.size w w') := by
  have t1_ : decide (300 < j) = false := decide_eq_false (by omega)
  have cc := Below.refl w.heap.size w
  go_enter Tryz.func5, Tryz.ntmps5
  go_wp2_with fail
  generalize hv_ : w.alloc (.cells #[.bool b0, .slice A0 n0 c0, .slice B0 m0 d0, .bool p0, .slice V0 r0 k0, .slice U0 o0 q0] 29) = v1
  have bA : Below w.heap.size w v1 := by rw [← hv_]; exact ((Below.refl _ w).alloc (by simp) _)
  replace h0 := h0.on bA
  replace g0 := g0.on bA
  replace cc := bK cc bA
  clear bA
  obtain ⟨pa0, pa1, pa2, pa3, pa4, pa5⟩ : Cs6 v1 w.heap.size (.bool b0) (.slice A0 n0 c0) (.slice B0 m0 d0) (.bool p0) (.slice V0 r0 k0) (.slice U0 o0 q0) := by simp [Cs6, ← hv_, go_sem]
  have pal : w.heap.size < v1.heap.size := by simp [← hv_] <;> omega
  clear hv_
  refine (G0 _ cc).mono ?_
  rintro e w2 ⟨rfl, b⟩
  replace h0 := h0.on b
  replace g0 := g0.on b
  rewrite [cR b pal] at pa0 pa1 pa2 pa3 pa4 pa5
  replace pal := lK b pal
  replace cc := bK cc b
  clear b
  go_wp2_with fail
  refine (iout_no (.inl h)).mono ?_
  rintro e w3 ⟨rfl, b⟩
  replace h0 := h0.on b
  replace g0 := g0.on b
  rewrite [cR b pal] at pa0 pa1 pa2 pa3 pa4 pa5
  replace pal := lK b pal
  replace cc := bK cc b
  clear b
  go_wp2_with fail
  generalize hv_ : w3.alloc (.cells #[.bool false, .slice none 0 0, .slice none 0 0, .bool false, .slice none 0 0, .slice none 0 0] 29) = v4
  have bA : Below w3.heap.size w3 v4 := by rw [← hv_]; exact below_one _ _
  replace h0 := h0.on bA
  replace g0 := g0.on bA
  rewrite [cR bA pal] at pa0 pa1 pa2 pa3 pa4 pa5
  replace pal := lK bA pal
  replace cc := bK cc bA
  clear bA
  obtain ⟨x0, x1, x2, x3, x4, x5⟩ : Cs6 v4 w3.heap.size (.bool false) (.slice none 0 0) (.slice none 0 0) (.bool false) (.slice none 0 0) (.slice none 0 0) := by simp [Cs6, ← hv_, go_sem]
  have xl : w3.heap.size < v4.heap.size := by simp [← hv_]
  clear hv_
  go_wp2_with fail
  refine (stout_no0 h).mono ?_
  rintro e w5 ⟨rfl, b⟩
  replace h0 := h0.on b
  replace g0 := g0.on b
  rewrite [cR b pal] at pa0 pa1 pa2 pa3 pa4 pa5
  replace pal := lK b pal
  rewrite [cR b xl] at x0 x1 x2 x3 x4 x5
  replace xl := lK b xl
  replace cc := bK cc b
  clear b
  go_wp2_with fail
  generalize hv_ : w5.alloc (.cells #[.bool false, .slice none 0 0, .slice none 0 0, .bool false, .slice none 0 0, .slice none 0 0] 29) = v6
  have bA : Below w5.heap.size w5 v6 := by rw [← hv_]; exact below_one _ _
  replace h0 := h0.on bA
  replace g0 := g0.on bA
  rewrite [cR bA pal] at pa0 pa1 pa2 pa3 pa4 pa5
  replace pal := lK bA pal
  rewrite [cR bA xl] at x0 x1 x2 x3 x4 x5
  replace xl := lK bA xl
  replace cc := bK cc bA
  clear bA
  obtain ⟨l0, l1, l2, l3, l4, l5⟩ : Cs6 v6 w5.heap.size (.bool false) (.slice none 0 0) (.slice none 0 0) (.bool false) (.slice none 0 0) (.slice none 0 0) := by simp [Cs6, ← hv_, go_sem]
  have ll : w5.heap.size < v6.heap.size := by simp [← hv_]
  clear hv_
  go_wp2_with fail
  refine (isqrt_no h0 (s0.le (by omega)) (.inl h)).mono ?_
  rintro e w7 ⟨rfl, b⟩
  replace h0 := h0.on b
  replace g0 := g0.on b
  rewrite [cR b pal] at pa0 pa1 pa2 pa3 pa4 pa5
  replace pal := lK b pal
  rewrite [cR b xl] at x0 x1 x2 x3 x4 x5
  replace xl := lK b xl
  rewrite [cR b ll] at l0 l1 l2 l3 l4 l5
  replace ll := lK b ll
  replace cc := bK cc b
  clear b
  go_wp2_with fail
  generalize hv_ : w7.alloc (.cells #[.bool false, .slice none 0 0, .slice none 0 0, .bool false, .slice none 0 0, .slice none 0 0] 29) = v8
  have bA : Below w7.heap.size w7 v8 := by rw [← hv_]; exact below_one _ _
  replace h0 := h0.on bA
  replace g0 := g0.on bA
  rewrite [cR bA pal] at pa0 pa1 pa2 pa3 pa4 pa5
  replace pal := lK bA pal
  rewrite [cR bA xl] at x0 x1 x2 x3 x4 x5
  replace xl := lK bA xl
  rewrite [cR bA ll] at l0 l1 l2 l3 l4 l5
  replace ll := lK bA ll
  replace cc := bK cc bA
  clear bA
  obtain ⟨xq0, xq1, xq2, xq3, xq4, xq5⟩ : Cs6 v8 w7.heap.size (.bool false) (.slice none 0 0) (.slice none 0 0) (.bool false) (.slice none 0 0) (.slice none 0 0) := by simp [Cs6, ← hv_, go_sem]
  have xql : w7.heap.size < v8.heap.size := by simp [← hv_]
  clear hv_
  go_wp2_with fail
  refine (stsqrt_no0 h).mono ?_
  rintro e w9 ⟨rfl, b⟩
  replace h0 := h0.on b
  replace g0 := g0.on b
  rewrite [cR b pal] at pa0 pa1 pa2 pa3 pa4 pa5
  replace pal := lK b pal
  rewrite [cR b xl] at x0 x1 x2 x3 x4 x5
  replace xl := lK b xl
  rewrite [cR b ll] at l0 l1 l2 l3 l4 l5
  replace ll := lK b ll
  rewrite [cR b xql] at xq0 xq1 xq2 xq3 xq4 xq5
  replace xql := lK b xql
  replace cc := bK cc b
  clear b
  go_wp2_with fail
  generalize hv_ : w9.alloc (.cells #[.bool false, .slice none 0 0, .slice none 0 0, .bool false, .slice none 0 0, .slice none 0 0] 29) = v10
  have bA : Below w9.heap.size w9 v10 := by rw [← hv_]; exact below_one _ _
  replace h0 := h0.on bA
  replace g0 := g0.on bA
  rewrite [cR bA pal] at pa0 pa1 pa2 pa3 pa4 pa5
  replace pal := lK bA pal
  rewrite [cR bA xl] at x0 x1 x2 x3 x4 x5
  replace xl := lK bA xl
  rewrite [cR bA ll] at l0 l1 l2 l3 l4 l5
  replace ll := lK bA ll
  rewrite [cR bA xql] at xq0 xq1 xq2 xq3 xq4 xq5
  replace xql := lK bA xql
  replace cc := bK cc bA
  clear bA
  obtain ⟨xk0, xk1, xk2, xk3, xk4, xk5⟩ : Cs6 v10 w9.heap.size (.bool false) (.slice none 0 0) (.slice none 0 0) (.bool false) (.slice none 0 0) (.slice none 0 0) := by simp [Cs6, ← hv_, go_sem]
  have xkl : w9.heap.size < v10.heap.size := by simp [← hv_]
  clear hv_
  go_wp2_with fail
  refine (alive7_any _).mono ?_
  rintro e w11 ⟨rfl, b⟩
  replace h0 := h0.on b
  replace g0 := g0.on b
  rewrite [cR b pal] at pa0 pa1 pa2 pa3 pa4 pa5
  replace pal := lK b pal
  rewrite [cR b xl] at x0 x1 x2 x3 x4 x5
  replace xl := lK b xl
  rewrite [cR b ll] at l0 l1 l2 l3 l4 l5
  replace ll := lK b ll
  rewrite [cR b xql] at xq0 xq1 xq2 xq3 xq4 xq5
  replace xql := lK b xql
  rewrite [cR b xkl] at xk0 xk1 xk2 xk3 xk4 xk5
  replace xkl := lK b xkl
  replace cc := bK cc b
  clear b
  go_wp2_with fail
  refine (stsame_none _).mono ?_
  rintro e w12 ⟨rfl, b⟩
  replace h0 := h0.on b
  replace g0 := g0.on b
  rewrite [cR b pal] at pa0 pa1 pa2 pa3 pa4 pa5
  replace pal := lK b pal
  rewrite [cR b xl] at x0 x1 x2 x3 x4 x5
  replace xl := lK b xl
  rewrite [cR b ll] at l0 l1 l2 l3 l4 l5
  replace ll := lK b ll
  rewrite [cR b xql] at xq0 xq1 xq2 xq3 xq4 xq5
  replace xql := lK b xql
  rewrite [cR b xkl] at xk0 xk1 xk2 xk3 xk4 xk5
  replace xkl := lK b xkl
  replace cc := bK cc b
  clear b
  go_wp2_with fail
  refine (stsame_none _).mono ?_
  rintro e w13 ⟨rfl, b⟩
  replace h0 := h0.on b
  replace g0 := g0.on b
  rewrite [cR b pal] at pa0 pa1 pa2 pa3 pa4 pa5
  replace pal := lK b pal
  rewrite [cR b xl] at x0 x1 x2 x3 x4 x5
  replace xl := lK b xl
  rewrite [cR b ll] at l0 l1 l2 l3 l4 l5
  replace ll := lK b ll
  rewrite [cR b xql] at xq0 xq1 xq2 xq3 xq4 xq5
  replace xql := lK b xql
  rewrite [cR b xkl] at xk0 xk1 xk2 xk3 xk4 xk5
  replace xkl := lK b xkl
  replace cc := bK cc b
  clear b
  go_wp2_with fail
  go_ret
  exact ⟨rfl, cc⟩

theorem IvalOuts_high {w : World} {b0 p0 : Bool} {A0 B0 V0 U0 : Option Addr} {n0 c0 m0 d0 r0 k0 o0 q0 : Nat} {j : Int} {x0 y0 : Rat} (h0 : Rt w b0 A0 n0 c0 B0 m0 d0 x0) (g0 : Rt w p0 V0 r0 k0 U0 o0 q0 y0) (s0 : Sz x0 3) (t0 : Sz y0 3) (G0 : ∀ W : World, Below w.heap.size w W → Calls Tryz.prog 17 #[.agg #[.bool b0, .slice A0 n0 c0, .slice B0 m0 d0, .bool p0, .slice V0 r0 k0, .slice U0 o0 q0], .int .i64 3] W (GotV W (.bool true))) (h : 1000 < j) :
    Calls Tryz.prog 5 #[.agg #[.bool b0, .slice A0 n0 c0, .slice B0 m0 d0, .bool p0, .slice V0 r0 k0, .slice U0 o0 q0], .int .i64 j] w (fun e w' => e = .returned (.bool true) ∧ Below w.heap.size w w') := by
  have t1_ : decide (300 < j) = true := decide_eq_true (by omega)
  have t2_ : decide (j ≤ 1000) = false := decide_eq_false (by omega)
  have cc := Below.refl w.heap.size w
  go_enter Tryz.func5, Tryz.ntmps5
  go_wp2_with fail
  generalize hv_ : w.alloc (.cells #[.bool b0, .slice A0 n0 c0, .slice B0 m0 d0, .bool p0, .slice V0 r0 k0, .slice U0 o0 q0] 29) = v1
  have bA : Below w.heap.size w v1 := by rw [← hv_]; exact ((Below.refl _ w).alloc (by simp) _)
  replace h0 := h0.on bA
  replace g0 := g0.on bA
  replace cc := bK cc bA
  clear bA
  obtain ⟨pa0, pa1, pa2, pa3, pa4, pa5⟩ : Cs6 v1 w.heap.size (.bool b0) (.slice A0 n0 c0) (.slice B0 m0 d0) (.bool p0) (.slice V0 r0 k0) (.slice U0 o0 q0) := by simp [Cs6, ← hv_, go_sem]
  have pal : w.heap.size < v1.heap.size := by simp [← hv_] <;> omega
  clear hv_
  refine (G0 _ cc).mono ?_
  rintro e w2 ⟨rfl, b⟩
  replace h0 := h0.on b
  replace g0 := g0.on b
  rewrite [cR b pal] at pa0 pa1 pa2 pa3 pa4 pa5
  replace pal := lK b pal
  replace cc := bK cc b
  clear b
  go_wp2_with fail
  refine (iout_no (.inr h)).mono ?_
  rintro e w3 ⟨rfl, b⟩
  replace h0 := h0.on b
  replace g0 := g0.on b
  rewrite [cR b pal] at pa0 pa1 pa2 pa3 pa4 pa5
  replace pal := lK b pal
  replace cc := bK cc b
  clear b
  go_wp2_with fail
  generalize hv_ : w3.alloc (.cells #[.bool false, .slice none 0 0, .slice none 0 0, .bool false, .slice none 0 0, .slice none 0 0] 29) = v4
  have bA : Below w3.heap.size w3 v4 := by rw [← hv_]; exact below_one _ _
  replace h0 := h0.on bA
  replace g0 := g0.on bA
  rewrite [cR bA pal] at pa0 pa1 pa2 pa3 pa4 pa5
  replace pal := lK bA pal
  replace cc := bK cc bA
  clear bA
  obtain ⟨x0, x1, x2, x3, x4, x5⟩ : Cs6 v4 w3.heap.size (.bool false) (.slice none 0 0) (.slice none 0 0) (.bool false) (.slice none 0 0) (.slice none 0 0) := by simp [Cs6, ← hv_, go_sem]
  have xl : w3.heap.size < v4.heap.size := by simp [← hv_]
  clear hv_
  go_wp2_with fail
  refine (stout_no1 h).mono ?_
  rintro e w5 ⟨rfl, b⟩
  replace h0 := h0.on b
  replace g0 := g0.on b
  rewrite [cR b pal] at pa0 pa1 pa2 pa3 pa4 pa5
  replace pal := lK b pal
  rewrite [cR b xl] at x0 x1 x2 x3 x4 x5
  replace xl := lK b xl
  replace cc := bK cc b
  clear b
  go_wp2_with fail
  generalize hv_ : w5.alloc (.cells #[.bool false, .slice none 0 0, .slice none 0 0, .bool false, .slice none 0 0, .slice none 0 0] 29) = v6
  have bA : Below w5.heap.size w5 v6 := by rw [← hv_]; exact below_one _ _
  replace h0 := h0.on bA
  replace g0 := g0.on bA
  rewrite [cR bA pal] at pa0 pa1 pa2 pa3 pa4 pa5
  replace pal := lK bA pal
  rewrite [cR bA xl] at x0 x1 x2 x3 x4 x5
  replace xl := lK bA xl
  replace cc := bK cc bA
  clear bA
  obtain ⟨l0, l1, l2, l3, l4, l5⟩ : Cs6 v6 w5.heap.size (.bool false) (.slice none 0 0) (.slice none 0 0) (.bool false) (.slice none 0 0) (.slice none 0 0) := by simp [Cs6, ← hv_, go_sem]
  have ll : w5.heap.size < v6.heap.size := by simp [← hv_]
  clear hv_
  go_wp2_with fail
  refine (isqrt_no h0 (s0.le (by omega)) (.inr (.inl h))).mono ?_
  rintro e w7 ⟨rfl, b⟩
  replace h0 := h0.on b
  replace g0 := g0.on b
  rewrite [cR b pal] at pa0 pa1 pa2 pa3 pa4 pa5
  replace pal := lK b pal
  rewrite [cR b xl] at x0 x1 x2 x3 x4 x5
  replace xl := lK b xl
  rewrite [cR b ll] at l0 l1 l2 l3 l4 l5
  replace ll := lK b ll
  replace cc := bK cc b
  clear b
  go_wp2_with fail
  generalize hv_ : w7.alloc (.cells #[.bool false, .slice none 0 0, .slice none 0 0, .bool false, .slice none 0 0, .slice none 0 0] 29) = v8
  have bA : Below w7.heap.size w7 v8 := by rw [← hv_]; exact below_one _ _
  replace h0 := h0.on bA
  replace g0 := g0.on bA
  rewrite [cR bA pal] at pa0 pa1 pa2 pa3 pa4 pa5
  replace pal := lK bA pal
  rewrite [cR bA xl] at x0 x1 x2 x3 x4 x5
  replace xl := lK bA xl
  rewrite [cR bA ll] at l0 l1 l2 l3 l4 l5
  replace ll := lK bA ll
  replace cc := bK cc bA
  clear bA
  obtain ⟨xq0, xq1, xq2, xq3, xq4, xq5⟩ : Cs6 v8 w7.heap.size (.bool false) (.slice none 0 0) (.slice none 0 0) (.bool false) (.slice none 0 0) (.slice none 0 0) := by simp [Cs6, ← hv_, go_sem]
  have xql : w7.heap.size < v8.heap.size := by simp [← hv_]
  clear hv_
  go_wp2_with fail
  refine (stsqrt_no1 h).mono ?_
  rintro e w9 ⟨rfl, b⟩
  replace h0 := h0.on b
  replace g0 := g0.on b
  rewrite [cR b pal] at pa0 pa1 pa2 pa3 pa4 pa5
  replace pal := lK b pal
  rewrite [cR b xl] at x0 x1 x2 x3 x4 x5
  replace xl := lK b xl
  rewrite [cR b ll] at l0 l1 l2 l3 l4 l5
  replace ll := lK b ll
  rewrite [cR b xql] at xq0 xq1 xq2 xq3 xq4 xq5
  replace xql := lK b xql
  replace cc := bK cc b
  clear b
  go_wp2_with fail
  generalize hv_ : w9.alloc (.cells #[.bool false, .slice none 0 0, .slice none 0 0, .bool false, .slice none 0 0, .slice none 0 0] 29) = v10
  have bA : Below w9.heap.size w9 v10 := by rw [← hv_]; exact below_one _ _
  replace h0 := h0.on bA
  replace g0 := g0.on bA
  rewrite [cR bA pal] at pa0 pa1 pa2 pa3 pa4 pa5
  replace pal := lK bA pal
  rewrite [cR bA xl] at x0 x1 x2 x3 x4 x5
  replace xl := lK bA xl
  rewrite [cR bA ll] at l0 l1 l2 l3 l4 l5
  replace ll := lK bA ll
  rewrite [cR bA xql] at xq0 xq1 xq2 xq3 xq4 xq5
  replace xql := lK bA xql
  replace cc := bK cc bA
  clear bA
  obtain ⟨xk0, xk1, xk2, xk3, xk4, xk5⟩ : Cs6 v10 w9.heap.size (.bool false) (.slice none 0 0) (.slice none 0 0) (.bool false) (.slice none 0 0) (.slice none 0 0) := by simp [Cs6, ← hv_, go_sem]
  have xkl : w9.heap.size < v10.heap.size := by simp [← hv_]
  clear hv_
  go_wp2_with fail
  refine (alive7_any _).mono ?_
  rintro e w11 ⟨rfl, b⟩
  replace h0 := h0.on b
  replace g0 := g0.on b
  rewrite [cR b pal] at pa0 pa1 pa2 pa3 pa4 pa5
  replace pal := lK b pal
  rewrite [cR b xl] at x0 x1 x2 x3 x4 x5
  replace xl := lK b xl
  rewrite [cR b ll] at l0 l1 l2 l3 l4 l5
  replace ll := lK b ll
  rewrite [cR b xql] at xq0 xq1 xq2 xq3 xq4 xq5
  replace xql := lK b xql
  rewrite [cR b xkl] at xk0 xk1 xk2 xk3 xk4 xk5
  replace xkl := lK b xkl
  replace cc := bK cc b
  clear b
  go_wp2_with fail
  refine (stsame_none _).mono ?_
  rintro e w12 ⟨rfl, b⟩
  replace h0 := h0.on b
  replace g0 := g0.on b
  rewrite [cR b pal] at pa0 pa1 pa2 pa3 pa4 pa5
  replace pal := lK b pal
  rewrite [cR b xl] at x0 x1 x2 x3 x4 x5
  replace xl := lK b xl
  rewrite [cR b ll] at l0 l1 l2 l3 l4 l5
  replace ll := lK b ll
  rewrite [cR b xql] at xq0 xq1 xq2 xq3 xq4 xq5
  replace xql := lK b xql
  rewrite [cR b xkl] at xk0 xk1 xk2 xk3 xk4 xk5
  replace xkl := lK b xkl
  replace cc := bK cc b
  clear b
  go_wp2_with fail
  refine (stsame_none _).mono ?_
  rintro e w13 ⟨rfl, b⟩
  replace h0 := h0.on b
  replace g0 := g0.on b
  rewrite [cR b pal] at pa0 pa1 pa2 pa3 pa4 pa5
  replace pal := lK b pal
  rewrite [cR b xl] at x0 x1 x2 x3 x4 x5
  replace xl := lK b xl
  rewrite [cR b ll] at l0 l1 l2 l3 l4 l5
  replace ll := lK b ll
  rewrite [cR b xql] at xq0 xq1 xq2 xq3 xq4 xq5
  replace xql := lK b xql
  rewrite [cR b xkl] at xk0 xk1 xk2 xk3 xk4 xk5
  replace xkl := lK b xkl
  replace cc := bK cc b
  clear b
  go_wp2_with fail
  go_ret
  exact ⟨rfl, cc⟩

theorem IvalOuts_neg {w : World} {b0 p0 : Bool} {A0 B0 V0 U0 : Option Addr} {n0 c0 m0 d0 r0 k0 o0 q0 : Nat} {j : Int} {x0 y0 : Rat} (h0 : Rt w b0 A0 n0 c0 B0 m0 d0 x0) (g0 : Rt w p0 V0 r0 k0 U0 o0 q0 y0) (s0 : Sz x0 3) (t0 : Sz y0 3) (G0 : ∀ W : World, Below w.heap.size w W → Calls Tryz.prog 17 #[.agg #[.bool b0, .slice A0 n0 c0, .slice B0 m0 d0, .bool p0, .slice V0 r0 k0, .slice U0 o0 q0], .int .i64 3] W (GotV W (.bool true))) (j0 : 0 ≤ j) (j1 : j ≤ 300) (hb : b0 = true) :
    Calls Tryz.prog 5 #[.agg #[.bool b0, .slice A0 n0 c0, .slice B0 m0 d0, .bool p0, .slice V0 r0 k0, .slice U0 o0 q0], .int .i64 j] w (fun e w' => e = .returned (.bool true) ∧ Below w.heap.size w w') := by
  have t1_ : decide (300 < j) = false := decide_eq_false (by omega)
  have jl : j.toNat ≤ 500 := by omega
  have zl_ := bak_sz (flo_len (s0.le (show 3 ≤ 30 by omega)) jl) (by omega) jl
  have zh_ := bak_sz (cei_len (t0.le (show 3 ≤ 30 by omega)) jl) (by omega) jl
  obtain ⟨ol, e1⟩ : ∃ r, bak (flo x0 j.toNat) j.toNat = r := ⟨_, rfl⟩
  obtain ⟨oh, e2⟩ : ∃ r, bak (cei y0 j.toNat) j.toNat = r := ⟨_, rfl⟩
  rw [e1] at zl_
  rw [e2] at zh_
  have OI : ∀ {W : World} {b0 p0 : Bool} {A0 B0 V0 U0 : Option Addr} {n0 c0 m0 d0 r0 k0 o0 q0 : Nat}, Rt W b0 A0 n0 c0 B0 m0 d0 x0 → Rt W p0 V0 r0 k0 U0 o0 q0 y0 → Calls Tryz.prog 28 #[.agg #[.bool b0, .slice A0 n0 c0, .slice B0 m0 d0, .bool p0, .slice V0 r0 k0, .slice U0 o0 q0], .int .i64 j] W (GotSp W ol oh 0) := fun a b => by rw [← e1, ← e2]; exact iout_N a b (s0.le (by omega)) (t0.le (by omega)) (by omega) (by omega)
  have OR : ∀ {W : World} {b0 p0 : Bool} {A0 B0 V0 U0 : Option Addr} {n0 c0 m0 d0 r0 k0 o0 q0 : Nat}, Rt W b0 A0 n0 c0 B0 m0 d0 x0 → Rt W p0 V0 r0 k0 U0 o0 q0 y0 → Calls Tryz.prog 29 #[.agg #[.bool b0, .slice A0 n0 c0, .slice B0 m0 d0, .bool p0, .slice V0 r0 k0, .slice U0 o0 q0], .int .i64 j] W (GotSp W ol oh 0) := fun a b => by rw [← e1, ← e2]; exact stout_N a b (s0.le (by omega)) (t0.le (by omega)) (by omega) (by omega)
  subst hb
  clear e1 e2
  have cc := Below.refl w.heap.size w
  go_enter Tryz.func5, Tryz.ntmps5
  go_wp2_with fail
  generalize hv_ : w.alloc (.cells #[.bool true, .slice A0 n0 c0, .slice B0 m0 d0, .bool p0, .slice V0 r0 k0, .slice U0 o0 q0] 29) = v1
  have bA : Below w.heap.size w v1 := by rw [← hv_]; exact ((Below.refl _ w).alloc (by simp) _)
  replace h0 := h0.on bA
  replace g0 := g0.on bA
  replace cc := bK cc bA
  clear bA
  obtain ⟨pa0, pa1, pa2, pa3, pa4, pa5⟩ : Cs6 v1 w.heap.size (.bool true) (.slice A0 n0 c0) (.slice B0 m0 d0) (.bool p0) (.slice V0 r0 k0) (.slice U0 o0 q0) := by simp [Cs6, ← hv_, go_sem]
  have pal : w.heap.size < v1.heap.size := by simp [← hv_] <;> omega
  clear hv_
  refine (G0 _ cc).mono ?_
  rintro e w2 ⟨rfl, b⟩
  replace h0 := h0.on b
  replace g0 := g0.on b
  rewrite [cR b pal] at pa0 pa1 pa2 pa3 pa4 pa5
  replace pal := lK b pal
  replace cc := bK cc b
  clear b
  go_wp2_with fail
  refine (OI h0 g0).mono ?_
  rintro e w3 ⟨be, Ae, ne, ce, Be, me, de, pe, Ve, re, ke, Ue, oe, qe, rfl, ⟨he, ge_⟩, b⟩
  replace h0 := h0.on b
  replace g0 := g0.on b
  rewrite [cR b pal] at pa0 pa1 pa2 pa3 pa4 pa5
  replace pal := lK b pal
  replace cc := bK cc b
  clear b
  go_wp2_with fail
  generalize hv_ : w3.alloc (.cells #[.bool be, .slice Ae ne ce, .slice Be me de, .bool pe, .slice Ve re ke, .slice Ue oe qe] 29) = v4
  have bA : Below w3.heap.size w3 v4 := by rw [← hv_]; exact below_one _ _
  replace h0 := h0.on bA
  replace g0 := g0.on bA
  replace he := he.on bA
  replace ge_ := ge_.on bA
  rewrite [cR bA pal] at pa0 pa1 pa2 pa3 pa4 pa5
  replace pal := lK bA pal
  replace cc := bK cc bA
  clear bA
  obtain ⟨x0, x1, x2, x3, x4, x5⟩ : Cs6 v4 w3.heap.size (.bool be) (.slice Ae ne ce) (.slice Be me de) (.bool pe) (.slice Ve re ke) (.slice Ue oe qe) := by simp [Cs6, ← hv_, go_sem]
  have xl : w3.heap.size < v4.heap.size := by simp [← hv_]
  clear hv_
  go_wp2_with fail
  refine (OR h0 g0).mono ?_
  rintro e w5 ⟨bf, Af, nf, cf, Bf, mf, df, pf, Vf, rf, kf, Uf, of, qf, rfl, ⟨hf, gf⟩, b⟩
  replace h0 := h0.on b
  replace g0 := g0.on b
  replace he := he.on b
  replace ge_ := ge_.on b
  rewrite [cR b pal] at pa0 pa1 pa2 pa3 pa4 pa5
  replace pal := lK b pal
  rewrite [cR b xl] at x0 x1 x2 x3 x4 x5
  replace xl := lK b xl
  replace cc := bK cc b
  clear b
  go_wp2_with fail
  generalize hv_ : w5.alloc (.cells #[.bool bf, .slice Af nf cf, .slice Bf mf df, .bool pf, .slice Vf rf kf, .slice Uf of qf] 29) = v6
  have bA : Below w5.heap.size w5 v6 := by rw [← hv_]; exact below_one _ _
  replace h0 := h0.on bA
  replace g0 := g0.on bA
  replace he := he.on bA
  replace ge_ := ge_.on bA
  replace hf := hf.on bA
  replace gf := gf.on bA
  rewrite [cR bA pal] at pa0 pa1 pa2 pa3 pa4 pa5
  replace pal := lK bA pal
  rewrite [cR bA xl] at x0 x1 x2 x3 x4 x5
  replace xl := lK bA xl
  replace cc := bK cc bA
  clear bA
  obtain ⟨l0, l1, l2, l3, l4, l5⟩ : Cs6 v6 w5.heap.size (.bool bf) (.slice Af nf cf) (.slice Bf mf df) (.bool pf) (.slice Vf rf kf) (.slice Uf of qf) := by simp [Cs6, ← hv_, go_sem]
  have ll : w5.heap.size < v6.heap.size := by simp [← hv_]
  clear hv_
  go_wp2_with fail
  refine (isqrt_no h0 (s0.le (by omega)) (.inr (.inr rfl))).mono ?_
  rintro e w7 ⟨rfl, b⟩
  replace h0 := h0.on b
  replace g0 := g0.on b
  replace he := he.on b
  replace ge_ := ge_.on b
  replace hf := hf.on b
  replace gf := gf.on b
  rewrite [cR b pal] at pa0 pa1 pa2 pa3 pa4 pa5
  replace pal := lK b pal
  rewrite [cR b xl] at x0 x1 x2 x3 x4 x5
  replace xl := lK b xl
  rewrite [cR b ll] at l0 l1 l2 l3 l4 l5
  replace ll := lK b ll
  replace cc := bK cc b
  clear b
  go_wp2_with fail
  generalize hv_ : w7.alloc (.cells #[.bool false, .slice none 0 0, .slice none 0 0, .bool false, .slice none 0 0, .slice none 0 0] 29) = v8
  have bA : Below w7.heap.size w7 v8 := by rw [← hv_]; exact below_one _ _
  replace h0 := h0.on bA
  replace g0 := g0.on bA
  replace he := he.on bA
  replace ge_ := ge_.on bA
  replace hf := hf.on bA
  replace gf := gf.on bA
  rewrite [cR bA pal] at pa0 pa1 pa2 pa3 pa4 pa5
  replace pal := lK bA pal
  rewrite [cR bA xl] at x0 x1 x2 x3 x4 x5
  replace xl := lK bA xl
  rewrite [cR bA ll] at l0 l1 l2 l3 l4 l5
  replace ll := lK bA ll
  replace cc := bK cc bA
  clear bA
  obtain ⟨xq0, xq1, xq2, xq3, xq4, xq5⟩ : Cs6 v8 w7.heap.size (.bool false) (.slice none 0 0) (.slice none 0 0) (.bool false) (.slice none 0 0) (.slice none 0 0) := by simp [Cs6, ← hv_, go_sem]
  have xql : w7.heap.size < v8.heap.size := by simp [← hv_]
  clear hv_
  go_wp2_with fail
  refine (stsqrt_no2 (by omega) (by omega) rfl).mono ?_
  rintro e w9 ⟨rfl, b⟩
  replace h0 := h0.on b
  replace g0 := g0.on b
  replace he := he.on b
  replace ge_ := ge_.on b
  replace hf := hf.on b
  replace gf := gf.on b
  rewrite [cR b pal] at pa0 pa1 pa2 pa3 pa4 pa5
  replace pal := lK b pal
  rewrite [cR b xl] at x0 x1 x2 x3 x4 x5
  replace xl := lK b xl
  rewrite [cR b ll] at l0 l1 l2 l3 l4 l5
  replace ll := lK b ll
  rewrite [cR b xql] at xq0 xq1 xq2 xq3 xq4 xq5
  replace xql := lK b xql
  replace cc := bK cc b
  clear b
  go_wp2_with fail
  generalize hv_ : w9.alloc (.cells #[.bool false, .slice none 0 0, .slice none 0 0, .bool false, .slice none 0 0, .slice none 0 0] 29) = v10
  have bA : Below w9.heap.size w9 v10 := by rw [← hv_]; exact below_one _ _
  replace h0 := h0.on bA
  replace g0 := g0.on bA
  replace he := he.on bA
  replace ge_ := ge_.on bA
  replace hf := hf.on bA
  replace gf := gf.on bA
  rewrite [cR bA pal] at pa0 pa1 pa2 pa3 pa4 pa5
  replace pal := lK bA pal
  rewrite [cR bA xl] at x0 x1 x2 x3 x4 x5
  replace xl := lK bA xl
  rewrite [cR bA ll] at l0 l1 l2 l3 l4 l5
  replace ll := lK bA ll
  rewrite [cR bA xql] at xq0 xq1 xq2 xq3 xq4 xq5
  replace xql := lK bA xql
  replace cc := bK cc bA
  clear bA
  obtain ⟨xk0, xk1, xk2, xk3, xk4, xk5⟩ : Cs6 v10 w9.heap.size (.bool false) (.slice none 0 0) (.slice none 0 0) (.bool false) (.slice none 0 0) (.slice none 0 0) := by simp [Cs6, ← hv_, go_sem]
  have xkl : w9.heap.size < v10.heap.size := by simp [← hv_]
  clear hv_
  go_wp2_with fail
  refine (alive7_any _).mono ?_
  rintro e w11 ⟨rfl, b⟩
  replace h0 := h0.on b
  replace g0 := g0.on b
  replace he := he.on b
  replace ge_ := ge_.on b
  replace hf := hf.on b
  replace gf := gf.on b
  rewrite [cR b pal] at pa0 pa1 pa2 pa3 pa4 pa5
  replace pal := lK b pal
  rewrite [cR b xl] at x0 x1 x2 x3 x4 x5
  replace xl := lK b xl
  rewrite [cR b ll] at l0 l1 l2 l3 l4 l5
  replace ll := lK b ll
  rewrite [cR b xql] at xq0 xq1 xq2 xq3 xq4 xq5
  replace xql := lK b xql
  rewrite [cR b xkl] at xk0 xk1 xk2 xk3 xk4 xk5
  replace xkl := lK b xkl
  replace cc := bK cc b
  clear b
  go_wp2_with fail
  refine (stsame_N he ge_ (zl_.le (by omega)) (zh_.le (by omega)) hf gf (zl_.le (by omega)) (zh_.le (by omega)) true two_eq).mono ?_
  rintro e w12 ⟨rfl, b⟩
  replace h0 := h0.on b
  replace g0 := g0.on b
  replace he := he.on b
  replace ge_ := ge_.on b
  replace hf := hf.on b
  replace gf := gf.on b
  rewrite [cR b pal] at pa0 pa1 pa2 pa3 pa4 pa5
  replace pal := lK b pal
  rewrite [cR b xl] at x0 x1 x2 x3 x4 x5
  replace xl := lK b xl
  rewrite [cR b ll] at l0 l1 l2 l3 l4 l5
  replace ll := lK b ll
  rewrite [cR b xql] at xq0 xq1 xq2 xq3 xq4 xq5
  replace xql := lK b xql
  rewrite [cR b xkl] at xk0 xk1 xk2 xk3 xk4 xk5
  replace xkl := lK b xkl
  replace cc := bK cc b
  clear b
  go_wp2_with fail
  refine (stsame_none _).mono ?_
  rintro e w13 ⟨rfl, b⟩
  replace h0 := h0.on b
  replace g0 := g0.on b
  replace he := he.on b
  replace ge_ := ge_.on b
  replace hf := hf.on b
  replace gf := gf.on b
  rewrite [cR b pal] at pa0 pa1 pa2 pa3 pa4 pa5
  replace pal := lK b pal
  rewrite [cR b xl] at x0 x1 x2 x3 x4 x5
  replace xl := lK b xl
  rewrite [cR b ll] at l0 l1 l2 l3 l4 l5
  replace ll := lK b ll
  rewrite [cR b xql] at xq0 xq1 xq2 xq3 xq4 xq5
  replace xql := lK b xql
  rewrite [cR b xkl] at xk0 xk1 xk2 xk3 xk4 xk5
  replace xkl := lK b xkl
  replace cc := bK cc b
  clear b
  go_wp2_with fail
  go_ret
  exact ⟨rfl, cc⟩

theorem IvalOuts_ok {w : World} {b0 p0 : Bool} {A0 B0 V0 U0 : Option Addr} {n0 c0 m0 d0 r0 k0 o0 q0 : Nat} {j : Int} {x0 y0 : Rat} (h0 : Rt w b0 A0 n0 c0 B0 m0 d0 x0) (g0 : Rt w p0 V0 r0 k0 U0 o0 q0 y0) (s0 : Sz x0 3) (t0 : Sz y0 3) (G0 : ∀ W : World, Below w.heap.size w W → Calls Tryz.prog 17 #[.agg #[.bool b0, .slice A0 n0 c0, .slice B0 m0 d0, .bool p0, .slice V0 r0 k0, .slice U0 o0 q0], .int .i64 3] W (GotV W (.bool true))) (j0 : 0 ≤ j) (j1 : j ≤ 300) (hb : b0 = false) (hxy : x0 ≤ y0) :
    Calls Tryz.prog 5 #[.agg #[.bool b0, .slice A0 n0 c0, .slice B0 m0 d0, .bool p0, .slice V0 r0 k0, .slice U0 o0 q0], .int .i64 j] w (fun e w' => e = .returned (.bool true) ∧ Below w.heap.size w w') := by
  have t1_ : decide (300 < j) = false := decide_eq_false (by omega)
  have jl : j.toNat ≤ 500 := by omega
  have zl_ := bak_sz (flo_len (s0.le (show 3 ≤ 30 by omega)) jl) (by omega) jl
  have zh_ := bak_sz (cei_len (t0.le (show 3 ≤ 30 by omega)) jl) (by omega) jl
  obtain ⟨ol, e1⟩ : ∃ r, bak (flo x0 j.toNat) j.toNat = r := ⟨_, rfl⟩
  obtain ⟨oh, e2⟩ : ∃ r, bak (cei y0 j.toNat) j.toNat = r := ⟨_, rfl⟩
  rw [e1] at zl_
  rw [e2] at zh_
  have OI : ∀ {W : World} {b0 p0 : Bool} {A0 B0 V0 U0 : Option Addr} {n0 c0 m0 d0 r0 k0 o0 q0 : Nat}, Rt W b0 A0 n0 c0 B0 m0 d0 x0 → Rt W p0 V0 r0 k0 U0 o0 q0 y0 → Calls Tryz.prog 28 #[.agg #[.bool b0, .slice A0 n0 c0, .slice B0 m0 d0, .bool p0, .slice V0 r0 k0, .slice U0 o0 q0], .int .i64 j] W (GotSp W ol oh 0) := fun a b => by rw [← e1, ← e2]; exact iout_N a b (s0.le (by omega)) (t0.le (by omega)) (by omega) (by omega)
  have OR : ∀ {W : World} {b0 p0 : Bool} {A0 B0 V0 U0 : Option Addr} {n0 c0 m0 d0 r0 k0 o0 q0 : Nat}, Rt W b0 A0 n0 c0 B0 m0 d0 x0 → Rt W p0 V0 r0 k0 U0 o0 q0 y0 → Calls Tryz.prog 29 #[.agg #[.bool b0, .slice A0 n0 c0, .slice B0 m0 d0, .bool p0, .slice V0 r0 k0, .slice U0 o0 q0], .int .i64 j] W (GotSp W ol oh 0) := fun a b => by rw [← e1, ← e2]; exact stout_N a b (s0.le (by omega)) (t0.le (by omega)) (by omega) (by omega)
  have zd_ := sqr_bak_sz (s0.le (show 3 ≤ 10 by omega)) (show j.toNat ≤ 310 by omega)
  have ze_ := sqh_sz (t0.le (show 3 ≤ 10 by omega)) (show j.toNat ≤ 310 by omega)
  obtain ⟨sl, e3⟩ : ∃ r, bak (sqr x0 j.toNat : Int) j.toNat = r := ⟨_, rfl⟩
  obtain ⟨sh, e4⟩ : ∃ r, sqh y0 j.toNat = r := ⟨_, rfl⟩
  rw [e3] at zd_
  rw [e4] at ze_
  subst hb
  have QI : ∀ {W : World} {p0 : Bool} {A0 B0 V0 U0 : Option Addr} {n0 c0 m0 d0 r0 k0 o0 q0 : Nat}, Rt W false A0 n0 c0 B0 m0 d0 x0 → Rt W p0 V0 r0 k0 U0 o0 q0 y0 → Calls Tryz.prog 30 #[.agg #[.bool false, .slice A0 n0 c0, .slice B0 m0 d0, .bool p0, .slice V0 r0 k0, .slice U0 o0 q0], .int .i64 j] W (GotSp W sl sh 0) := fun a b => by rw [← e3, ← e4]; exact isqrt_N a b (s0.le (by omega)) (t0.le (by omega)) (by omega) (by omega) rfl hxy
  have QR_ : ∀ {W : World} {p0 : Bool} {A0 B0 V0 U0 : Option Addr} {n0 c0 m0 d0 r0 k0 o0 q0 : Nat}, Rt W false A0 n0 c0 B0 m0 d0 x0 → Rt W p0 V0 r0 k0 U0 o0 q0 y0 → Calls Tryz.prog 31 #[.agg #[.bool false, .slice A0 n0 c0, .slice B0 m0 d0, .bool p0, .slice V0 r0 k0, .slice U0 o0 q0], .int .i64 j] W (GotSp W sl sh 0) := fun a b => by rw [← e3, ← e4]; exact stsqrt_N a b (s0.le (by omega)) (t0.le (by omega)) (by omega) (by omega) rfl
  clear e1 e2 e3 e4 hxy
  have cc := Below.refl w.heap.size w
  go_enter Tryz.func5, Tryz.ntmps5
  go_wp2_with fail
  generalize hv_ : w.alloc (.cells #[.bool false, .slice A0 n0 c0, .slice B0 m0 d0, .bool p0, .slice V0 r0 k0, .slice U0 o0 q0] 29) = v1
  have bA : Below w.heap.size w v1 := by rw [← hv_]; exact ((Below.refl _ w).alloc (by simp) _)
  replace h0 := h0.on bA
  replace g0 := g0.on bA
  replace cc := bK cc bA
  clear bA
  obtain ⟨pa0, pa1, pa2, pa3, pa4, pa5⟩ : Cs6 v1 w.heap.size (.bool false) (.slice A0 n0 c0) (.slice B0 m0 d0) (.bool p0) (.slice V0 r0 k0) (.slice U0 o0 q0) := by simp [Cs6, ← hv_, go_sem]
  have pal : w.heap.size < v1.heap.size := by simp [← hv_] <;> omega
  clear hv_
  refine (G0 _ cc).mono ?_
  rintro e w2 ⟨rfl, b⟩
  replace h0 := h0.on b
  replace g0 := g0.on b
  rewrite [cR b pal] at pa0 pa1 pa2 pa3 pa4 pa5
  replace pal := lK b pal
  replace cc := bK cc b
  clear b
  go_wp2_with fail
  refine (OI h0 g0).mono ?_
  rintro e w3 ⟨be, Ae, ne, ce, Be, me, de, pe, Ve, re, ke, Ue, oe, qe, rfl, ⟨he, ge_⟩, b⟩
  replace h0 := h0.on b
  replace g0 := g0.on b
  rewrite [cR b pal] at pa0 pa1 pa2 pa3 pa4 pa5
  replace pal := lK b pal
  replace cc := bK cc b
  clear b
  go_wp2_with fail
  generalize hv_ : w3.alloc (.cells #[.bool be, .slice Ae ne ce, .slice Be me de, .bool pe, .slice Ve re ke, .slice Ue oe qe] 29) = v4
  have bA : Below w3.heap.size w3 v4 := by rw [← hv_]; exact below_one _ _
  replace h0 := h0.on bA
  replace g0 := g0.on bA
  replace he := he.on bA
  replace ge_ := ge_.on bA
  rewrite [cR bA pal] at pa0 pa1 pa2 pa3 pa4 pa5
  replace pal := lK bA pal
  replace cc := bK cc bA
  clear bA
  obtain ⟨x0, x1, x2, x3, x4, x5⟩ : Cs6 v4 w3.heap.size (.bool be) (.slice Ae ne ce) (.slice Be me de) (.bool pe) (.slice Ve re ke) (.slice Ue oe qe) := by simp [Cs6, ← hv_, go_sem]
  have xl : w3.heap.size < v4.heap.size := by simp [← hv_]
  clear hv_
  go_wp2_with fail
  refine (OR h0 g0).mono ?_
  rintro e w5 ⟨bf, Af, nf, cf, Bf, mf, df, pf, Vf, rf, kf, Uf, of, qf, rfl, ⟨hf, gf⟩, b⟩
  replace h0 := h0.on b
  replace g0 := g0.on b
  replace he := he.on b
  replace ge_ := ge_.on b
  rewrite [cR b pal] at pa0 pa1 pa2 pa3 pa4 pa5
  replace pal := lK b pal
  rewrite [cR b xl] at x0 x1 x2 x3 x4 x5
  replace xl := lK b xl
  replace cc := bK cc b
  clear b
  go_wp2_with fail
  generalize hv_ : w5.alloc (.cells #[.bool bf, .slice Af nf cf, .slice Bf mf df, .bool pf, .slice Vf rf kf, .slice Uf of qf] 29) = v6
  have bA : Below w5.heap.size w5 v6 := by rw [← hv_]; exact below_one _ _
  replace h0 := h0.on bA
  replace g0 := g0.on bA
  replace he := he.on bA
  replace ge_ := ge_.on bA
  replace hf := hf.on bA
  replace gf := gf.on bA
  rewrite [cR bA pal] at pa0 pa1 pa2 pa3 pa4 pa5
  replace pal := lK bA pal
  rewrite [cR bA xl] at x0 x1 x2 x3 x4 x5
  replace xl := lK bA xl
  replace cc := bK cc bA
  clear bA
  obtain ⟨l0, l1, l2, l3, l4, l5⟩ : Cs6 v6 w5.heap.size (.bool bf) (.slice Af nf cf) (.slice Bf mf df) (.bool pf) (.slice Vf rf kf) (.slice Uf of qf) := by simp [Cs6, ← hv_, go_sem]
  have ll : w5.heap.size < v6.heap.size := by simp [← hv_]
  clear hv_
  go_wp2_with fail
  refine (QI h0 g0).mono ?_
  rintro e w7 ⟨bu, Au, nu, cu, Bu, mu, du, pu, Vu, ru, ku, Uu, ou, qu, rfl, ⟨hu, gu⟩, b⟩
  replace h0 := h0.on b
  replace g0 := g0.on b
  replace he := he.on b
  replace ge_ := ge_.on b
  replace hf := hf.on b
  replace gf := gf.on b
  rewrite [cR b pal] at pa0 pa1 pa2 pa3 pa4 pa5
  replace pal := lK b pal
  rewrite [cR b xl] at x0 x1 x2 x3 x4 x5
  replace xl := lK b xl
  rewrite [cR b ll] at l0 l1 l2 l3 l4 l5
  replace ll := lK b ll
  replace cc := bK cc b
  clear b
  go_wp2_with fail
  generalize hv_ : w7.alloc (.cells #[.bool bu, .slice Au nu cu, .slice Bu mu du, .bool pu, .slice Vu ru ku, .slice Uu ou qu] 29) = v8
  have bA : Below w7.heap.size w7 v8 := by rw [← hv_]; exact below_one _ _
  replace h0 := h0.on bA
  replace g0 := g0.on bA
  replace he := he.on bA
  replace ge_ := ge_.on bA
  replace hf := hf.on bA
  replace gf := gf.on bA
  replace hu := hu.on bA
  replace gu := gu.on bA
  rewrite [cR bA pal] at pa0 pa1 pa2 pa3 pa4 pa5
  replace pal := lK bA pal
  rewrite [cR bA xl] at x0 x1 x2 x3 x4 x5
  replace xl := lK bA xl
  rewrite [cR bA ll] at l0 l1 l2 l3 l4 l5
  replace ll := lK bA ll
  replace cc := bK cc bA
  clear bA
  obtain ⟨xq0, xq1, xq2, xq3, xq4, xq5⟩ : Cs6 v8 w7.heap.size (.bool bu) (.slice Au nu cu) (.slice Bu mu du) (.bool pu) (.slice Vu ru ku) (.slice Uu ou qu) := by simp [Cs6, ← hv_, go_sem]
  have xql : w7.heap.size < v8.heap.size := by simp [← hv_]
  clear hv_
  go_wp2_with fail
  refine (QR_ h0 g0).mono ?_
  rintro e w9 ⟨bz, Az, nz, cz, Bz, mz, dz, pz, Vz, rz, kz, Uz, oz, qz, rfl, ⟨hz, gz⟩, b⟩
  replace h0 := h0.on b
  replace g0 := g0.on b
  replace he := he.on b
  replace ge_ := ge_.on b
  replace hf := hf.on b
  replace gf := gf.on b
  replace hu := hu.on b
  replace gu := gu.on b
  rewrite [cR b pal] at pa0 pa1 pa2 pa3 pa4 pa5
  replace pal := lK b pal
  rewrite [cR b xl] at x0 x1 x2 x3 x4 x5
  replace xl := lK b xl
  rewrite [cR b ll] at l0 l1 l2 l3 l4 l5
  replace ll := lK b ll
  rewrite [cR b xql] at xq0 xq1 xq2 xq3 xq4 xq5
  replace xql := lK b xql
  replace cc := bK cc b
  clear b
  go_wp2_with fail
  generalize hv_ : w9.alloc (.cells #[.bool bz, .slice Az nz cz, .slice Bz mz dz, .bool pz, .slice Vz rz kz, .slice Uz oz qz] 29) = v10
  have bA : Below w9.heap.size w9 v10 := by rw [← hv_]; exact below_one _ _
  replace h0 := h0.on bA
  replace g0 := g0.on bA
  replace he := he.on bA
  replace ge_ := ge_.on bA
  replace hf := hf.on bA
  replace gf := gf.on bA
  replace hu := hu.on bA
  replace gu := gu.on bA
  replace hz := hz.on bA
  replace gz := gz.on bA
  rewrite [cR bA pal] at pa0 pa1 pa2 pa3 pa4 pa5
  replace pal := lK bA pal
  rewrite [cR bA xl] at x0 x1 x2 x3 x4 x5
  replace xl := lK bA xl
  rewrite [cR bA ll] at l0 l1 l2 l3 l4 l5
  replace ll := lK bA ll
  rewrite [cR bA xql] at xq0 xq1 xq2 xq3 xq4 xq5
  replace xql := lK bA xql
  replace cc := bK cc bA
  clear bA
  obtain ⟨xk0, xk1, xk2, xk3, xk4, xk5⟩ : Cs6 v10 w9.heap.size (.bool bz) (.slice Az nz cz) (.slice Bz mz dz) (.bool pz) (.slice Vz rz kz) (.slice Uz oz qz) := by simp [Cs6, ← hv_, go_sem]
  have xkl : w9.heap.size < v10.heap.size := by simp [← hv_]
  clear hv_
  go_wp2_with fail
  refine (alive7_any _).mono ?_
  rintro e w11 ⟨rfl, b⟩
  replace h0 := h0.on b
  replace g0 := g0.on b
  replace he := he.on b
  replace ge_ := ge_.on b
  replace hf := hf.on b
  replace gf := gf.on b
  replace hu := hu.on b
  replace gu := gu.on b
  replace hz := hz.on b
  replace gz := gz.on b
  rewrite [cR b pal] at pa0 pa1 pa2 pa3 pa4 pa5
  replace pal := lK b pal
  rewrite [cR b xl] at x0 x1 x2 x3 x4 x5
  replace xl := lK b xl
  rewrite [cR b ll] at l0 l1 l2 l3 l4 l5
  replace ll := lK b ll
  rewrite [cR b xql] at xq0 xq1 xq2 xq3 xq4 xq5
  replace xql := lK b xql
  rewrite [cR b xkl] at xk0 xk1 xk2 xk3 xk4 xk5
  replace xkl := lK b xkl
  replace cc := bK cc b
  clear b
  go_wp2_with fail
  refine (stsame_N he ge_ (zl_.le (by omega)) (zh_.le (by omega)) hf gf (zl_.le (by omega)) (zh_.le (by omega)) true two_eq).mono ?_
  rintro e w12 ⟨rfl, b⟩
  replace h0 := h0.on b
  replace g0 := g0.on b
  replace he := he.on b
  replace ge_ := ge_.on b
  replace hf := hf.on b
  replace gf := gf.on b
  replace hu := hu.on b
  replace gu := gu.on b
  replace hz := hz.on b
  replace gz := gz.on b
  rewrite [cR b pal] at pa0 pa1 pa2 pa3 pa4 pa5
  replace pal := lK b pal
  rewrite [cR b xl] at x0 x1 x2 x3 x4 x5
  replace xl := lK b xl
  rewrite [cR b ll] at l0 l1 l2 l3 l4 l5
  replace ll := lK b ll
  rewrite [cR b xql] at xq0 xq1 xq2 xq3 xq4 xq5
  replace xql := lK b xql
  rewrite [cR b xkl] at xk0 xk1 xk2 xk3 xk4 xk5
  replace xkl := lK b xkl
  replace cc := bK cc b
  clear b
  go_wp2_with fail
  refine (stsame_N hu gu (zd_.le (by omega)) (ze_.le (by omega)) hz gz (zd_.le (by omega)) (ze_.le (by omega)) true two_eq).mono ?_
  rintro e w13 ⟨rfl, b⟩
  replace h0 := h0.on b
  replace g0 := g0.on b
  replace he := he.on b
  replace ge_ := ge_.on b
  replace hf := hf.on b
  replace gf := gf.on b
  replace hu := hu.on b
  replace gu := gu.on b
  replace hz := hz.on b
  replace gz := gz.on b
  rewrite [cR b pal] at pa0 pa1 pa2 pa3 pa4 pa5
  replace pal := lK b pal
  rewrite [cR b xl] at x0 x1 x2 x3 x4 x5
  replace xl := lK b xl
  rewrite [cR b ll] at l0 l1 l2 l3 l4 l5
  replace ll := lK b ll
  rewrite [cR b xql] at xq0 xq1 xq2 xq3 xq4 xq5
  replace xql := lK b xql
  rewrite [cR b xkl] at xk0 xk1 xk2 xk3 xk4 xk5
  replace xkl := lK b xkl
  replace cc := bK cc b
  clear b
  go_wp2_with fail
  go_ret
  exact ⟨rfl, cc⟩

end Go.Proofs.YtanpklbconflmaaGreat
