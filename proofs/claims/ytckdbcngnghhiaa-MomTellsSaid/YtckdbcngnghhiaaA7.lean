/-
  Several texts in one: C17a, C17b.
-/
import Derived.Test.YtckdbcngnghhiaaA4
import Derived.Test.YtckdbcngnghhiaaA6
import Derived.Test.YtckdbcngnghhiaaA2

/-
  The contracts of the seventeenth reference: Of, Add, Sub, Mul, One.
-/
namespace Go.Proofs.Ytckdbcngnghhiaa
set_option maxRecDepth 100000
set_option maxHeartbeats 8000000
open Go.RowKit
set_option linter.unusedVariables false
set_option linter.unusedSimpArgs false

theorem nOf17_N (w : World) (x : Int) :
    Calls Try.prog 40 #[.int .i64 x] w (GotV w (.agg #[.int .i64 x, .bool true])) := by
  have cc := Below.refl w.heap.size w
  go_enter Try.func40, Try.ntmps40
  go_wp2_with fail
  refine bodyPost_ret (v := .agg #[.int .i64 x, .bool true]) (by simp [results, Try.results40, go_sem]) rfl ⟨rfl, ?_⟩
  exact (Below.refl _ w).alloc (Nat.le_refl _) _

theorem nAdd17_fft {w : World} {x y : Int} (hx : I64 x) (hy : I64 y) (ho : I64 (x + y)) :
    Calls Try.prog 41 #[.agg #[.int .i64 x, .bool false], .agg #[.int .i64 y, .bool false]] w (GotV w (.agg #[.int .i64 (x + y), .bool false])) := by
  have CA : ∀ W : World, Calls Try.prog 64 #[.int .i64 x, .int .i64 y] W (GotV W (.tuple #[.int .i64 (nI (x + y)), .int .i64 (nE (x + y))])) := fun W => radd8_N hx hy
  rw [(nI_yes ho).1, (nI_yes ho).2] at CA
  clear hx hy ho
  generalize x + y = z at *
  have cc := Below.refl w.heap.size w
  go_enter Try.func41, Try.ntmps41
  go_wp2_with fail
  generalize hv_ : ((w.alloc (.cells #[.int .i64 x, .bool false] 58)).alloc (.cells #[.int .i64 y, .bool false] 58)).alloc (.cells #[.int .i64 0, .bool false] 58) = v1
  obtain ⟨f0, f1⟩ : Fz2 v1 (w.heap.size + 1 + 1) := by simp [Fz2, ← hv_, go_sem]
  have bA : Below w.heap.size w v1 := by rw [← hv_]; exact ((((Below.refl _ w).alloc (by simp) _).alloc (by simp) _).alloc (by simp <;> omega) _)
  replace cc := bK cc bA
  clear bA
  obtain ⟨xa0, xa1⟩ : Cs2 v1 w.heap.size (.int .i64 x) (.bool false) := by simp [Cs2, ← hv_, go_sem]
  have xal : w.heap.size < v1.heap.size := by simp [← hv_] <;> omega
  obtain ⟨xb0, xb1⟩ : Cs2 v1 (w.heap.size + 1) (.int .i64 y) (.bool false) := by simp [Cs2, ← hv_, go_sem]
  have xbl : w.heap.size + 1 < v1.heap.size := by simp [← hv_] <;> omega
  obtain ⟨g0, g1⟩ : Cs2 v1 (w.heap.size + 1 + 1) (.int .i64 0) (.bool false) := by simp [Cs2, ← hv_, go_sem]
  have gl : w.heap.size + 1 + 1 < v1.heap.size := by simp [← hv_] <;> omega
  clear hv_
  go_wp2_with fail
  refine (CA _).mono ?_
  rintro e w2 ⟨rfl, b⟩
  rewrite [fR b gl] at f0 f1
  rewrite [cR b xal] at xa0 xa1
  replace xal := lK b xal
  rewrite [cR b xbl] at xb0 xb1
  replace xbl := lK b xbl
  rewrite [cR b gl] at g0 g1
  replace gl := lK b gl
  replace cc := bK cc b
  clear b
  have HBF := Lib.hid (below_put cc (show w.heap.size ≤ w.heap.size + 1 + 1 by omega) (.int .i64 (z)) (.bool false))
  clear cc
  go_wp2_with fail
  refine bodyPost_ret (v := .agg #[.int .i64 z, .bool false]) (by simp [results, Try.results41, go_sem, g0, g1]) rfl ⟨rfl, HBF.out⟩

theorem nAdd17_fff {w : World} {x y : Int} (hx : I64 x) (hy : I64 y) (ho : ¬ I64 (x + y)) :
    Calls Try.prog 41 #[.agg #[.int .i64 x, .bool false], .agg #[.int .i64 y, .bool false]] w (GotV w (.agg #[.int .i64 0, .bool false])) := by
  have CA : ∀ W : World, Calls Try.prog 64 #[.int .i64 x, .int .i64 y] W (GotV W (.tuple #[.int .i64 (nI (x + y)), .int .i64 (nE (x + y))])) := fun W => radd8_N hx hy
  rw [(nI_no ho).1, (nI_no ho).2] at CA
  clear hx hy ho
  have cc := Below.refl w.heap.size w
  go_enter Try.func41, Try.ntmps41
  go_wp2_with fail
  generalize hv_ : ((w.alloc (.cells #[.int .i64 x, .bool false] 58)).alloc (.cells #[.int .i64 y, .bool false] 58)).alloc (.cells #[.int .i64 0, .bool false] 58) = v1
  obtain ⟨f0, f1⟩ : Fz2 v1 (w.heap.size + 1 + 1) := by simp [Fz2, ← hv_, go_sem]
  have bA : Below w.heap.size w v1 := by rw [← hv_]; exact ((((Below.refl _ w).alloc (by simp) _).alloc (by simp) _).alloc (by simp <;> omega) _)
  replace cc := bK cc bA
  clear bA
  obtain ⟨xa0, xa1⟩ : Cs2 v1 w.heap.size (.int .i64 x) (.bool false) := by simp [Cs2, ← hv_, go_sem]
  have xal : w.heap.size < v1.heap.size := by simp [← hv_] <;> omega
  obtain ⟨xb0, xb1⟩ : Cs2 v1 (w.heap.size + 1) (.int .i64 y) (.bool false) := by simp [Cs2, ← hv_, go_sem]
  have xbl : w.heap.size + 1 < v1.heap.size := by simp [← hv_] <;> omega
  obtain ⟨g0, g1⟩ : Cs2 v1 (w.heap.size + 1 + 1) (.int .i64 0) (.bool false) := by simp [Cs2, ← hv_, go_sem]
  have gl : w.heap.size + 1 + 1 < v1.heap.size := by simp [← hv_] <;> omega
  clear hv_
  go_wp2_with fail
  refine (CA _).mono ?_
  rintro e w2 ⟨rfl, b⟩
  rewrite [fR b gl] at f0 f1
  rewrite [cR b xal] at xa0 xa1
  replace xal := lK b xal
  rewrite [cR b xbl] at xb0 xb1
  replace xbl := lK b xbl
  rewrite [cR b gl] at g0 g1
  replace gl := lK b gl
  replace cc := bK cc b
  clear b
  have HBF := Lib.hid (below_put cc (show w.heap.size ≤ w.heap.size + 1 + 1 by omega) (.int .i64 (0)) (.bool false))
  clear cc
  go_wp2_with fail
  refine bodyPost_ret (v := .agg #[.int .i64 0, .bool false]) (by simp [results, Try.results41, go_sem, g0, g1]) rfl ⟨rfl, HBF.out⟩

theorem nAdd17_ftt {w : World} {x y : Int} (hx : I64 x) (hy : I64 y) (ho : I64 (x + y)) :
    Calls Try.prog 41 #[.agg #[.int .i64 x, .bool false], .agg #[.int .i64 y, .bool true]] w (GotV w (.agg #[.int .i64 (x + y), .bool false])) := by
  have CA : ∀ W : World, Calls Try.prog 64 #[.int .i64 x, .int .i64 y] W (GotV W (.tuple #[.int .i64 (nI (x + y)), .int .i64 (nE (x + y))])) := fun W => radd8_N hx hy
  rw [(nI_yes ho).1, (nI_yes ho).2] at CA
  clear hx hy ho
  generalize x + y = z at *
  have cc := Below.refl w.heap.size w
  go_enter Try.func41, Try.ntmps41
  go_wp2_with fail
  generalize hv_ : ((w.alloc (.cells #[.int .i64 x, .bool false] 58)).alloc (.cells #[.int .i64 y, .bool true] 58)).alloc (.cells #[.int .i64 0, .bool false] 58) = v1
  obtain ⟨f0, f1⟩ : Fz2 v1 (w.heap.size + 1 + 1) := by simp [Fz2, ← hv_, go_sem]
  have bA : Below w.heap.size w v1 := by rw [← hv_]; exact ((((Below.refl _ w).alloc (by simp) _).alloc (by simp) _).alloc (by simp <;> omega) _)
  replace cc := bK cc bA
  clear bA
  obtain ⟨xa0, xa1⟩ : Cs2 v1 w.heap.size (.int .i64 x) (.bool false) := by simp [Cs2, ← hv_, go_sem]
  have xal : w.heap.size < v1.heap.size := by simp [← hv_] <;> omega
  obtain ⟨xb0, xb1⟩ : Cs2 v1 (w.heap.size + 1) (.int .i64 y) (.bool true) := by simp [Cs2, ← hv_, go_sem]
  have xbl : w.heap.size + 1 < v1.heap.size := by simp [← hv_] <;> omega
  obtain ⟨g0, g1⟩ : Cs2 v1 (w.heap.size + 1 + 1) (.int .i64 0) (.bool false) := by simp [Cs2, ← hv_, go_sem]
  have gl : w.heap.size + 1 + 1 < v1.heap.size := by simp [← hv_] <;> omega
  clear hv_
  go_wp2_with fail
  refine (CA _).mono ?_
  rintro e w2 ⟨rfl, b⟩
  rewrite [fR b gl] at f0 f1
  rewrite [cR b xal] at xa0 xa1
  replace xal := lK b xal
  rewrite [cR b xbl] at xb0 xb1
  replace xbl := lK b xbl
  rewrite [cR b gl] at g0 g1
  replace gl := lK b gl
  replace cc := bK cc b
  clear b
  have HBF := Lib.hid (below_put cc (show w.heap.size ≤ w.heap.size + 1 + 1 by omega) (.int .i64 (z)) (.bool false))
  clear cc
  go_wp2_with fail
  refine bodyPost_ret (v := .agg #[.int .i64 z, .bool false]) (by simp [results, Try.results41, go_sem, g0, g1]) rfl ⟨rfl, HBF.out⟩

theorem nAdd17_ftf {w : World} {x y : Int} (hx : I64 x) (hy : I64 y) (ho : ¬ I64 (x + y)) :
    Calls Try.prog 41 #[.agg #[.int .i64 x, .bool false], .agg #[.int .i64 y, .bool true]] w (GotV w (.agg #[.int .i64 0, .bool false])) := by
  have CA : ∀ W : World, Calls Try.prog 64 #[.int .i64 x, .int .i64 y] W (GotV W (.tuple #[.int .i64 (nI (x + y)), .int .i64 (nE (x + y))])) := fun W => radd8_N hx hy
  rw [(nI_no ho).1, (nI_no ho).2] at CA
  clear hx hy ho
  have cc := Below.refl w.heap.size w
  go_enter Try.func41, Try.ntmps41
  go_wp2_with fail
  generalize hv_ : ((w.alloc (.cells #[.int .i64 x, .bool false] 58)).alloc (.cells #[.int .i64 y, .bool true] 58)).alloc (.cells #[.int .i64 0, .bool false] 58) = v1
  obtain ⟨f0, f1⟩ : Fz2 v1 (w.heap.size + 1 + 1) := by simp [Fz2, ← hv_, go_sem]
  have bA : Below w.heap.size w v1 := by rw [← hv_]; exact ((((Below.refl _ w).alloc (by simp) _).alloc (by simp) _).alloc (by simp <;> omega) _)
  replace cc := bK cc bA
  clear bA
  obtain ⟨xa0, xa1⟩ : Cs2 v1 w.heap.size (.int .i64 x) (.bool false) := by simp [Cs2, ← hv_, go_sem]
  have xal : w.heap.size < v1.heap.size := by simp [← hv_] <;> omega
  obtain ⟨xb0, xb1⟩ : Cs2 v1 (w.heap.size + 1) (.int .i64 y) (.bool true) := by simp [Cs2, ← hv_, go_sem]
  have xbl : w.heap.size + 1 < v1.heap.size := by simp [← hv_] <;> omega
  obtain ⟨g0, g1⟩ : Cs2 v1 (w.heap.size + 1 + 1) (.int .i64 0) (.bool false) := by simp [Cs2, ← hv_, go_sem]
  have gl : w.heap.size + 1 + 1 < v1.heap.size := by simp [← hv_] <;> omega
  clear hv_
  go_wp2_with fail
  refine (CA _).mono ?_
  rintro e w2 ⟨rfl, b⟩
  rewrite [fR b gl] at f0 f1
  rewrite [cR b xal] at xa0 xa1
  replace xal := lK b xal
  rewrite [cR b xbl] at xb0 xb1
  replace xbl := lK b xbl
  rewrite [cR b gl] at g0 g1
  replace gl := lK b gl
  replace cc := bK cc b
  clear b
  have HBF := Lib.hid (below_put cc (show w.heap.size ≤ w.heap.size + 1 + 1 by omega) (.int .i64 (0)) (.bool false))
  clear cc
  go_wp2_with fail
  refine bodyPost_ret (v := .agg #[.int .i64 0, .bool false]) (by simp [results, Try.results41, go_sem, g0, g1]) rfl ⟨rfl, HBF.out⟩

theorem nAdd17_tft {w : World} {x y : Int} (hx : I64 x) (hy : I64 y) (ho : I64 (x + y)) :
    Calls Try.prog 41 #[.agg #[.int .i64 x, .bool true], .agg #[.int .i64 y, .bool false]] w (GotV w (.agg #[.int .i64 (x + y), .bool false])) := by
  have CA : ∀ W : World, Calls Try.prog 64 #[.int .i64 x, .int .i64 y] W (GotV W (.tuple #[.int .i64 (nI (x + y)), .int .i64 (nE (x + y))])) := fun W => radd8_N hx hy
  rw [(nI_yes ho).1, (nI_yes ho).2] at CA
  clear hx hy ho
  generalize x + y = z at *
  have cc := Below.refl w.heap.size w
  go_enter Try.func41, Try.ntmps41
  go_wp2_with fail
  generalize hv_ : ((w.alloc (.cells #[.int .i64 x, .bool true] 58)).alloc (.cells #[.int .i64 y, .bool false] 58)).alloc (.cells #[.int .i64 0, .bool false] 58) = v1
  obtain ⟨f0, f1⟩ : Fz2 v1 (w.heap.size + 1 + 1) := by simp [Fz2, ← hv_, go_sem]
  have bA : Below w.heap.size w v1 := by rw [← hv_]; exact ((((Below.refl _ w).alloc (by simp) _).alloc (by simp) _).alloc (by simp <;> omega) _)
  replace cc := bK cc bA
  clear bA
  obtain ⟨xa0, xa1⟩ : Cs2 v1 w.heap.size (.int .i64 x) (.bool true) := by simp [Cs2, ← hv_, go_sem]
  have xal : w.heap.size < v1.heap.size := by simp [← hv_] <;> omega
  obtain ⟨xb0, xb1⟩ : Cs2 v1 (w.heap.size + 1) (.int .i64 y) (.bool false) := by simp [Cs2, ← hv_, go_sem]
  have xbl : w.heap.size + 1 < v1.heap.size := by simp [← hv_] <;> omega
  obtain ⟨g0, g1⟩ : Cs2 v1 (w.heap.size + 1 + 1) (.int .i64 0) (.bool false) := by simp [Cs2, ← hv_, go_sem]
  have gl : w.heap.size + 1 + 1 < v1.heap.size := by simp [← hv_] <;> omega
  clear hv_
  go_wp2_with fail
  refine (CA _).mono ?_
  rintro e w2 ⟨rfl, b⟩
  rewrite [fR b gl] at f0 f1
  rewrite [cR b xal] at xa0 xa1
  replace xal := lK b xal
  rewrite [cR b xbl] at xb0 xb1
  replace xbl := lK b xbl
  rewrite [cR b gl] at g0 g1
  replace gl := lK b gl
  replace cc := bK cc b
  clear b
  have HBF := Lib.hid (below_put cc (show w.heap.size ≤ w.heap.size + 1 + 1 by omega) (.int .i64 (z)) (.bool false))
  clear cc
  go_wp2_with fail
  refine bodyPost_ret (v := .agg #[.int .i64 z, .bool false]) (by simp [results, Try.results41, go_sem, g0, g1]) rfl ⟨rfl, HBF.out⟩

theorem nAdd17_tff {w : World} {x y : Int} (hx : I64 x) (hy : I64 y) (ho : ¬ I64 (x + y)) :
    Calls Try.prog 41 #[.agg #[.int .i64 x, .bool true], .agg #[.int .i64 y, .bool false]] w (GotV w (.agg #[.int .i64 0, .bool false])) := by
  have CA : ∀ W : World, Calls Try.prog 64 #[.int .i64 x, .int .i64 y] W (GotV W (.tuple #[.int .i64 (nI (x + y)), .int .i64 (nE (x + y))])) := fun W => radd8_N hx hy
  rw [(nI_no ho).1, (nI_no ho).2] at CA
  clear hx hy ho
  have cc := Below.refl w.heap.size w
  go_enter Try.func41, Try.ntmps41
  go_wp2_with fail
  generalize hv_ : ((w.alloc (.cells #[.int .i64 x, .bool true] 58)).alloc (.cells #[.int .i64 y, .bool false] 58)).alloc (.cells #[.int .i64 0, .bool false] 58) = v1
  obtain ⟨f0, f1⟩ : Fz2 v1 (w.heap.size + 1 + 1) := by simp [Fz2, ← hv_, go_sem]
  have bA : Below w.heap.size w v1 := by rw [← hv_]; exact ((((Below.refl _ w).alloc (by simp) _).alloc (by simp) _).alloc (by simp <;> omega) _)
  replace cc := bK cc bA
  clear bA
  obtain ⟨xa0, xa1⟩ : Cs2 v1 w.heap.size (.int .i64 x) (.bool true) := by simp [Cs2, ← hv_, go_sem]
  have xal : w.heap.size < v1.heap.size := by simp [← hv_] <;> omega
  obtain ⟨xb0, xb1⟩ : Cs2 v1 (w.heap.size + 1) (.int .i64 y) (.bool false) := by simp [Cs2, ← hv_, go_sem]
  have xbl : w.heap.size + 1 < v1.heap.size := by simp [← hv_] <;> omega
  obtain ⟨g0, g1⟩ : Cs2 v1 (w.heap.size + 1 + 1) (.int .i64 0) (.bool false) := by simp [Cs2, ← hv_, go_sem]
  have gl : w.heap.size + 1 + 1 < v1.heap.size := by simp [← hv_] <;> omega
  clear hv_
  go_wp2_with fail
  refine (CA _).mono ?_
  rintro e w2 ⟨rfl, b⟩
  rewrite [fR b gl] at f0 f1
  rewrite [cR b xal] at xa0 xa1
  replace xal := lK b xal
  rewrite [cR b xbl] at xb0 xb1
  replace xbl := lK b xbl
  rewrite [cR b gl] at g0 g1
  replace gl := lK b gl
  replace cc := bK cc b
  clear b
  have HBF := Lib.hid (below_put cc (show w.heap.size ≤ w.heap.size + 1 + 1 by omega) (.int .i64 (0)) (.bool false))
  clear cc
  go_wp2_with fail
  refine bodyPost_ret (v := .agg #[.int .i64 0, .bool false]) (by simp [results, Try.results41, go_sem, g0, g1]) rfl ⟨rfl, HBF.out⟩

theorem nAdd17_ttt {w : World} {x y : Int} (hx : I64 x) (hy : I64 y) (ho : I64 (x + y)) :
    Calls Try.prog 41 #[.agg #[.int .i64 x, .bool true], .agg #[.int .i64 y, .bool true]] w (GotV w (.agg #[.int .i64 (x + y), .bool true])) := by
  have CA : ∀ W : World, Calls Try.prog 64 #[.int .i64 x, .int .i64 y] W (GotV W (.tuple #[.int .i64 (nI (x + y)), .int .i64 (nE (x + y))])) := fun W => radd8_N hx hy
  rw [(nI_yes ho).1, (nI_yes ho).2] at CA
  clear hx hy ho
  generalize x + y = z at *
  have cc := Below.refl w.heap.size w
  go_enter Try.func41, Try.ntmps41
  go_wp2_with fail
  generalize hv_ : ((w.alloc (.cells #[.int .i64 x, .bool true] 58)).alloc (.cells #[.int .i64 y, .bool true] 58)).alloc (.cells #[.int .i64 0, .bool false] 58) = v1
  obtain ⟨f0, f1⟩ : Fz2 v1 (w.heap.size + 1 + 1) := by simp [Fz2, ← hv_, go_sem]
  have bA : Below w.heap.size w v1 := by rw [← hv_]; exact ((((Below.refl _ w).alloc (by simp) _).alloc (by simp) _).alloc (by simp <;> omega) _)
  replace cc := bK cc bA
  clear bA
  obtain ⟨xa0, xa1⟩ : Cs2 v1 w.heap.size (.int .i64 x) (.bool true) := by simp [Cs2, ← hv_, go_sem]
  have xal : w.heap.size < v1.heap.size := by simp [← hv_] <;> omega
  obtain ⟨xb0, xb1⟩ : Cs2 v1 (w.heap.size + 1) (.int .i64 y) (.bool true) := by simp [Cs2, ← hv_, go_sem]
  have xbl : w.heap.size + 1 < v1.heap.size := by simp [← hv_] <;> omega
  obtain ⟨g0, g1⟩ : Cs2 v1 (w.heap.size + 1 + 1) (.int .i64 0) (.bool false) := by simp [Cs2, ← hv_, go_sem]
  have gl : w.heap.size + 1 + 1 < v1.heap.size := by simp [← hv_] <;> omega
  clear hv_
  go_wp2_with fail
  refine (CA _).mono ?_
  rintro e w2 ⟨rfl, b⟩
  rewrite [fR b gl] at f0 f1
  rewrite [cR b xal] at xa0 xa1
  replace xal := lK b xal
  rewrite [cR b xbl] at xb0 xb1
  replace xbl := lK b xbl
  rewrite [cR b gl] at g0 g1
  replace gl := lK b gl
  replace cc := bK cc b
  clear b
  have HBF := Lib.hid (below_put cc (show w.heap.size ≤ w.heap.size + 1 + 1 by omega) (.int .i64 (z)) (.bool true))
  clear cc
  go_wp2_with fail
  refine bodyPost_ret (v := .agg #[.int .i64 z, .bool true]) (by simp [results, Try.results41, go_sem, g0, g1]) rfl ⟨rfl, HBF.out⟩

theorem nAdd17_ttf {w : World} {x y : Int} (hx : I64 x) (hy : I64 y) (ho : ¬ I64 (x + y)) :
    Calls Try.prog 41 #[.agg #[.int .i64 x, .bool true], .agg #[.int .i64 y, .bool true]] w (GotV w (.agg #[.int .i64 0, .bool false])) := by
  have CA : ∀ W : World, Calls Try.prog 64 #[.int .i64 x, .int .i64 y] W (GotV W (.tuple #[.int .i64 (nI (x + y)), .int .i64 (nE (x + y))])) := fun W => radd8_N hx hy
  rw [(nI_no ho).1, (nI_no ho).2] at CA
  clear hx hy ho
  have cc := Below.refl w.heap.size w
  go_enter Try.func41, Try.ntmps41
  go_wp2_with fail
  generalize hv_ : ((w.alloc (.cells #[.int .i64 x, .bool true] 58)).alloc (.cells #[.int .i64 y, .bool true] 58)).alloc (.cells #[.int .i64 0, .bool false] 58) = v1
  obtain ⟨f0, f1⟩ : Fz2 v1 (w.heap.size + 1 + 1) := by simp [Fz2, ← hv_, go_sem]
  have bA : Below w.heap.size w v1 := by rw [← hv_]; exact ((((Below.refl _ w).alloc (by simp) _).alloc (by simp) _).alloc (by simp <;> omega) _)
  replace cc := bK cc bA
  clear bA
  obtain ⟨xa0, xa1⟩ : Cs2 v1 w.heap.size (.int .i64 x) (.bool true) := by simp [Cs2, ← hv_, go_sem]
  have xal : w.heap.size < v1.heap.size := by simp [← hv_] <;> omega
  obtain ⟨xb0, xb1⟩ : Cs2 v1 (w.heap.size + 1) (.int .i64 y) (.bool true) := by simp [Cs2, ← hv_, go_sem]
  have xbl : w.heap.size + 1 < v1.heap.size := by simp [← hv_] <;> omega
  obtain ⟨g0, g1⟩ : Cs2 v1 (w.heap.size + 1 + 1) (.int .i64 0) (.bool false) := by simp [Cs2, ← hv_, go_sem]
  have gl : w.heap.size + 1 + 1 < v1.heap.size := by simp [← hv_] <;> omega
  clear hv_
  go_wp2_with fail
  refine (CA _).mono ?_
  rintro e w2 ⟨rfl, b⟩
  rewrite [fR b gl] at f0 f1
  rewrite [cR b xal] at xa0 xa1
  replace xal := lK b xal
  rewrite [cR b xbl] at xb0 xb1
  replace xbl := lK b xbl
  rewrite [cR b gl] at g0 g1
  replace gl := lK b gl
  replace cc := bK cc b
  clear b
  have HBF := Lib.hid (below_put cc (show w.heap.size ≤ w.heap.size + 1 + 1 by omega) (.int .i64 (0)) (.bool false))
  clear cc
  go_wp2_with fail
  refine bodyPost_ret (v := .agg #[.int .i64 0, .bool false]) (by simp [results, Try.results41, go_sem, g0, g1]) rfl ⟨rfl, HBF.out⟩

theorem nAdd17_N {w : World} {x y : Int} (hx : I64 x) (hy : I64 y) {p q : Bool} : Calls Try.prog 41 #[.agg #[.int .i64 x, .bool p], .agg #[.int .i64 y, .bool q]] w (GotV w (.agg #[.int .i64 (nAdd (x, p) (y, q)).1, .bool (nAdd (x, p) (y, q)).2])) := by
  show Calls Try.prog 41 #[.agg #[.int .i64 x, .bool p], .agg #[.int .i64 y, .bool q]] w (GotV w (.agg #[.int .i64 (nI (x + y)), .bool (p && q && decide (I64 (x + y)))]))
  by_cases ho : I64 (x + y)
  · rw [(nI_yes ho).1, decide_eq_true ho]
    cases p <;> cases q
    · exact nAdd17_fft hx hy ho
    · exact nAdd17_ftt hx hy ho
    · exact nAdd17_tft hx hy ho
    · exact nAdd17_ttt hx hy ho
  · rw [(nI_no ho).1, decide_eq_false ho]
    cases p <;> cases q
    · exact nAdd17_fff hx hy ho
    · exact nAdd17_ftf hx hy ho
    · exact nAdd17_tff hx hy ho
    · exact nAdd17_ttf hx hy ho

theorem nSub17_fft {w : World} {x y : Int} (hx : I64 x) (hy : I64 y) (ho : I64 (x - y)) :
    Calls Try.prog 43 #[.agg #[.int .i64 x, .bool false], .agg #[.int .i64 y, .bool false]] w (GotV w (.agg #[.int .i64 (x - y), .bool false])) := by
  have CA : ∀ W : World, Calls Try.prog 65 #[.int .i64 x, .int .i64 y] W (GotV W (.tuple #[.int .i64 (nI (x - y)), .int .i64 (nE (x - y))])) := fun W => rsub8_N hx hy
  rw [(nI_yes ho).1, (nI_yes ho).2] at CA
  clear hx hy ho
  generalize x - y = z at *
  have cc := Below.refl w.heap.size w
  go_enter Try.func43, Try.ntmps43
  go_wp2_with fail
  generalize hv_ : ((w.alloc (.cells #[.int .i64 x, .bool false] 58)).alloc (.cells #[.int .i64 y, .bool false] 58)).alloc (.cells #[.int .i64 0, .bool false] 58) = v1
  obtain ⟨f0, f1⟩ : Fz2 v1 (w.heap.size + 1 + 1) := by simp [Fz2, ← hv_, go_sem]
  have bA : Below w.heap.size w v1 := by rw [← hv_]; exact ((((Below.refl _ w).alloc (by simp) _).alloc (by simp) _).alloc (by simp <;> omega) _)
  replace cc := bK cc bA
  clear bA
  obtain ⟨xa0, xa1⟩ : Cs2 v1 w.heap.size (.int .i64 x) (.bool false) := by simp [Cs2, ← hv_, go_sem]
  have xal : w.heap.size < v1.heap.size := by simp [← hv_] <;> omega
  obtain ⟨xb0, xb1⟩ : Cs2 v1 (w.heap.size + 1) (.int .i64 y) (.bool false) := by simp [Cs2, ← hv_, go_sem]
  have xbl : w.heap.size + 1 < v1.heap.size := by simp [← hv_] <;> omega
  obtain ⟨g0, g1⟩ : Cs2 v1 (w.heap.size + 1 + 1) (.int .i64 0) (.bool false) := by simp [Cs2, ← hv_, go_sem]
  have gl : w.heap.size + 1 + 1 < v1.heap.size := by simp [← hv_] <;> omega
  clear hv_
  go_wp2_with fail
  refine (CA _).mono ?_
  rintro e w2 ⟨rfl, b⟩
  rewrite [fR b gl] at f0 f1
  rewrite [cR b xal] at xa0 xa1
  replace xal := lK b xal
  rewrite [cR b xbl] at xb0 xb1
  replace xbl := lK b xbl
  rewrite [cR b gl] at g0 g1
  replace gl := lK b gl
  replace cc := bK cc b
  clear b
  have HBF := Lib.hid (below_put cc (show w.heap.size ≤ w.heap.size + 1 + 1 by omega) (.int .i64 (z)) (.bool false))
  clear cc
  go_wp2_with fail
  refine bodyPost_ret (v := .agg #[.int .i64 z, .bool false]) (by simp [results, Try.results43, go_sem, g0, g1]) rfl ⟨rfl, HBF.out⟩

theorem nSub17_fff {w : World} {x y : Int} (hx : I64 x) (hy : I64 y) (ho : ¬ I64 (x - y)) :
    Calls Try.prog 43 #[.agg #[.int .i64 x, .bool false], .agg #[.int .i64 y, .bool false]] w (GotV w (.agg #[.int .i64 0, .bool false])) := by
  have CA : ∀ W : World, Calls Try.prog 65 #[.int .i64 x, .int .i64 y] W (GotV W (.tuple #[.int .i64 (nI (x - y)), .int .i64 (nE (x - y))])) := fun W => rsub8_N hx hy
  rw [(nI_no ho).1, (nI_no ho).2] at CA
  clear hx hy ho
  have cc := Below.refl w.heap.size w
  go_enter Try.func43, Try.ntmps43
  go_wp2_with fail
  generalize hv_ : ((w.alloc (.cells #[.int .i64 x, .bool false] 58)).alloc (.cells #[.int .i64 y, .bool false] 58)).alloc (.cells #[.int .i64 0, .bool false] 58) = v1
  obtain ⟨f0, f1⟩ : Fz2 v1 (w.heap.size + 1 + 1) := by simp [Fz2, ← hv_, go_sem]
  have bA : Below w.heap.size w v1 := by rw [← hv_]; exact ((((Below.refl _ w).alloc (by simp) _).alloc (by simp) _).alloc (by simp <;> omega) _)
  replace cc := bK cc bA
  clear bA
  obtain ⟨xa0, xa1⟩ : Cs2 v1 w.heap.size (.int .i64 x) (.bool false) := by simp [Cs2, ← hv_, go_sem]
  have xal : w.heap.size < v1.heap.size := by simp [← hv_] <;> omega
  obtain ⟨xb0, xb1⟩ : Cs2 v1 (w.heap.size + 1) (.int .i64 y) (.bool false) := by simp [Cs2, ← hv_, go_sem]
  have xbl : w.heap.size + 1 < v1.heap.size := by simp [← hv_] <;> omega
  obtain ⟨g0, g1⟩ : Cs2 v1 (w.heap.size + 1 + 1) (.int .i64 0) (.bool false) := by simp [Cs2, ← hv_, go_sem]
  have gl : w.heap.size + 1 + 1 < v1.heap.size := by simp [← hv_] <;> omega
  clear hv_
  go_wp2_with fail
  refine (CA _).mono ?_
  rintro e w2 ⟨rfl, b⟩
  rewrite [fR b gl] at f0 f1
  rewrite [cR b xal] at xa0 xa1
  replace xal := lK b xal
  rewrite [cR b xbl] at xb0 xb1
  replace xbl := lK b xbl
  rewrite [cR b gl] at g0 g1
  replace gl := lK b gl
  replace cc := bK cc b
  clear b
  have HBF := Lib.hid (below_put cc (show w.heap.size ≤ w.heap.size + 1 + 1 by omega) (.int .i64 (0)) (.bool false))
  clear cc
  go_wp2_with fail
  refine bodyPost_ret (v := .agg #[.int .i64 0, .bool false]) (by simp [results, Try.results43, go_sem, g0, g1]) rfl ⟨rfl, HBF.out⟩

theorem nSub17_ftt {w : World} {x y : Int} (hx : I64 x) (hy : I64 y) (ho : I64 (x - y)) :
    Calls Try.prog 43 #[.agg #[.int .i64 x, .bool false], .agg #[.int .i64 y, .bool true]] w (GotV w (.agg #[.int .i64 (x - y), .bool false])) := by
  have CA : ∀ W : World, Calls Try.prog 65 #[.int .i64 x, .int .i64 y] W (GotV W (.tuple #[.int .i64 (nI (x - y)), .int .i64 (nE (x - y))])) := fun W => rsub8_N hx hy
  rw [(nI_yes ho).1, (nI_yes ho).2] at CA
  clear hx hy ho
  generalize x - y = z at *
  have cc := Below.refl w.heap.size w
  go_enter Try.func43, Try.ntmps43
  go_wp2_with fail
  generalize hv_ : ((w.alloc (.cells #[.int .i64 x, .bool false] 58)).alloc (.cells #[.int .i64 y, .bool true] 58)).alloc (.cells #[.int .i64 0, .bool false] 58) = v1
  obtain ⟨f0, f1⟩ : Fz2 v1 (w.heap.size + 1 + 1) := by simp [Fz2, ← hv_, go_sem]
  have bA : Below w.heap.size w v1 := by rw [← hv_]; exact ((((Below.refl _ w).alloc (by simp) _).alloc (by simp) _).alloc (by simp <;> omega) _)
  replace cc := bK cc bA
  clear bA
  obtain ⟨xa0, xa1⟩ : Cs2 v1 w.heap.size (.int .i64 x) (.bool false) := by simp [Cs2, ← hv_, go_sem]
  have xal : w.heap.size < v1.heap.size := by simp [← hv_] <;> omega
  obtain ⟨xb0, xb1⟩ : Cs2 v1 (w.heap.size + 1) (.int .i64 y) (.bool true) := by simp [Cs2, ← hv_, go_sem]
  have xbl : w.heap.size + 1 < v1.heap.size := by simp [← hv_] <;> omega
  obtain ⟨g0, g1⟩ : Cs2 v1 (w.heap.size + 1 + 1) (.int .i64 0) (.bool false) := by simp [Cs2, ← hv_, go_sem]
  have gl : w.heap.size + 1 + 1 < v1.heap.size := by simp [← hv_] <;> omega
  clear hv_
  go_wp2_with fail
  refine (CA _).mono ?_
  rintro e w2 ⟨rfl, b⟩
  rewrite [fR b gl] at f0 f1
  rewrite [cR b xal] at xa0 xa1
  replace xal := lK b xal
  rewrite [cR b xbl] at xb0 xb1
  replace xbl := lK b xbl
  rewrite [cR b gl] at g0 g1
  replace gl := lK b gl
  replace cc := bK cc b
  clear b
  have HBF := Lib.hid (below_put cc (show w.heap.size ≤ w.heap.size + 1 + 1 by omega) (.int .i64 (z)) (.bool false))
  clear cc
  go_wp2_with fail
  refine bodyPost_ret (v := .agg #[.int .i64 z, .bool false]) (by simp [results, Try.results43, go_sem, g0, g1]) rfl ⟨rfl, HBF.out⟩

theorem nSub17_ftf {w : World} {x y : Int} (hx : I64 x) (hy : I64 y) (ho : ¬ I64 (x - y)) :
    Calls Try.prog 43 #[.agg #[.int .i64 x, .bool false], .agg #[.int .i64 y, .bool true]] w (GotV w (.agg #[.int .i64 0, .bool false])) := by
  have CA : ∀ W : World, Calls Try.prog 65 #[.int .i64 x, .int .i64 y] W (GotV W (.tuple #[.int .i64 (nI (x - y)), .int .i64 (nE (x - y))])) := fun W => rsub8_N hx hy
  rw [(nI_no ho).1, (nI_no ho).2] at CA
  clear hx hy ho
  have cc := Below.refl w.heap.size w
  go_enter Try.func43, Try.ntmps43
  go_wp2_with fail
  generalize hv_ : ((w.alloc (.cells #[.int .i64 x, .bool false] 58)).alloc (.cells #[.int .i64 y, .bool true] 58)).alloc (.cells #[.int .i64 0, .bool false] 58) = v1
  obtain ⟨f0, f1⟩ : Fz2 v1 (w.heap.size + 1 + 1) := by simp [Fz2, ← hv_, go_sem]
  have bA : Below w.heap.size w v1 := by rw [← hv_]; exact ((((Below.refl _ w).alloc (by simp) _).alloc (by simp) _).alloc (by simp <;> omega) _)
  replace cc := bK cc bA
  clear bA
  obtain ⟨xa0, xa1⟩ : Cs2 v1 w.heap.size (.int .i64 x) (.bool false) := by simp [Cs2, ← hv_, go_sem]
  have xal : w.heap.size < v1.heap.size := by simp [← hv_] <;> omega
  obtain ⟨xb0, xb1⟩ : Cs2 v1 (w.heap.size + 1) (.int .i64 y) (.bool true) := by simp [Cs2, ← hv_, go_sem]
  have xbl : w.heap.size + 1 < v1.heap.size := by simp [← hv_] <;> omega
  obtain ⟨g0, g1⟩ : Cs2 v1 (w.heap.size + 1 + 1) (.int .i64 0) (.bool false) := by simp [Cs2, ← hv_, go_sem]
  have gl : w.heap.size + 1 + 1 < v1.heap.size := by simp [← hv_] <;> omega
  clear hv_
  go_wp2_with fail
  refine (CA _).mono ?_
  rintro e w2 ⟨rfl, b⟩
  rewrite [fR b gl] at f0 f1
  rewrite [cR b xal] at xa0 xa1
  replace xal := lK b xal
  rewrite [cR b xbl] at xb0 xb1
  replace xbl := lK b xbl
  rewrite [cR b gl] at g0 g1
  replace gl := lK b gl
  replace cc := bK cc b
  clear b
  have HBF := Lib.hid (below_put cc (show w.heap.size ≤ w.heap.size + 1 + 1 by omega) (.int .i64 (0)) (.bool false))
  clear cc
  go_wp2_with fail
  refine bodyPost_ret (v := .agg #[.int .i64 0, .bool false]) (by simp [results, Try.results43, go_sem, g0, g1]) rfl ⟨rfl, HBF.out⟩

theorem nSub17_tft {w : World} {x y : Int} (hx : I64 x) (hy : I64 y) (ho : I64 (x - y)) :
    Calls Try.prog 43 #[.agg #[.int .i64 x, .bool true], .agg #[.int .i64 y, .bool false]] w (GotV w (.agg #[.int .i64 (x - y), .bool false])) := by
  have CA : ∀ W : World, Calls Try.prog 65 #[.int .i64 x, .int .i64 y] W (GotV W (.tuple #[.int .i64 (nI (x - y)), .int .i64 (nE (x - y))])) := fun W => rsub8_N hx hy
  rw [(nI_yes ho).1, (nI_yes ho).2] at CA
  clear hx hy ho
  generalize x - y = z at *
  have cc := Below.refl w.heap.size w
  go_enter Try.func43, Try.ntmps43
  go_wp2_with fail
  generalize hv_ : ((w.alloc (.cells #[.int .i64 x, .bool true] 58)).alloc (.cells #[.int .i64 y, .bool false] 58)).alloc (.cells #[.int .i64 0, .bool false] 58) = v1
  obtain ⟨f0, f1⟩ : Fz2 v1 (w.heap.size + 1 + 1) := by simp [Fz2, ← hv_, go_sem]
  have bA : Below w.heap.size w v1 := by rw [← hv_]; exact ((((Below.refl _ w).alloc (by simp) _).alloc (by simp) _).alloc (by simp <;> omega) _)
  replace cc := bK cc bA
  clear bA
  obtain ⟨xa0, xa1⟩ : Cs2 v1 w.heap.size (.int .i64 x) (.bool true) := by simp [Cs2, ← hv_, go_sem]
  have xal : w.heap.size < v1.heap.size := by simp [← hv_] <;> omega
  obtain ⟨xb0, xb1⟩ : Cs2 v1 (w.heap.size + 1) (.int .i64 y) (.bool false) := by simp [Cs2, ← hv_, go_sem]
  have xbl : w.heap.size + 1 < v1.heap.size := by simp [← hv_] <;> omega
  obtain ⟨g0, g1⟩ : Cs2 v1 (w.heap.size + 1 + 1) (.int .i64 0) (.bool false) := by simp [Cs2, ← hv_, go_sem]
  have gl : w.heap.size + 1 + 1 < v1.heap.size := by simp [← hv_] <;> omega
  clear hv_
  go_wp2_with fail
  refine (CA _).mono ?_
  rintro e w2 ⟨rfl, b⟩
  rewrite [fR b gl] at f0 f1
  rewrite [cR b xal] at xa0 xa1
  replace xal := lK b xal
  rewrite [cR b xbl] at xb0 xb1
  replace xbl := lK b xbl
  rewrite [cR b gl] at g0 g1
  replace gl := lK b gl
  replace cc := bK cc b
  clear b
  have HBF := Lib.hid (below_put cc (show w.heap.size ≤ w.heap.size + 1 + 1 by omega) (.int .i64 (z)) (.bool false))
  clear cc
  go_wp2_with fail
  refine bodyPost_ret (v := .agg #[.int .i64 z, .bool false]) (by simp [results, Try.results43, go_sem, g0, g1]) rfl ⟨rfl, HBF.out⟩

theorem nSub17_tff {w : World} {x y : Int} (hx : I64 x) (hy : I64 y) (ho : ¬ I64 (x - y)) :
    Calls Try.prog 43 #[.agg #[.int .i64 x, .bool true], .agg #[.int .i64 y, .bool false]] w (GotV w (.agg #[.int .i64 0, .bool false])) := by
  have CA : ∀ W : World, Calls Try.prog 65 #[.int .i64 x, .int .i64 y] W (GotV W (.tuple #[.int .i64 (nI (x - y)), .int .i64 (nE (x - y))])) := fun W => rsub8_N hx hy
  rw [(nI_no ho).1, (nI_no ho).2] at CA
  clear hx hy ho
  have cc := Below.refl w.heap.size w
  go_enter Try.func43, Try.ntmps43
  go_wp2_with fail
  generalize hv_ : ((w.alloc (.cells #[.int .i64 x, .bool true] 58)).alloc (.cells #[.int .i64 y, .bool false] 58)).alloc (.cells #[.int .i64 0, .bool false] 58) = v1
  obtain ⟨f0, f1⟩ : Fz2 v1 (w.heap.size + 1 + 1) := by simp [Fz2, ← hv_, go_sem]
  have bA : Below w.heap.size w v1 := by rw [← hv_]; exact ((((Below.refl _ w).alloc (by simp) _).alloc (by simp) _).alloc (by simp <;> omega) _)
  replace cc := bK cc bA
  clear bA
  obtain ⟨xa0, xa1⟩ : Cs2 v1 w.heap.size (.int .i64 x) (.bool true) := by simp [Cs2, ← hv_, go_sem]
  have xal : w.heap.size < v1.heap.size := by simp [← hv_] <;> omega
  obtain ⟨xb0, xb1⟩ : Cs2 v1 (w.heap.size + 1) (.int .i64 y) (.bool false) := by simp [Cs2, ← hv_, go_sem]
  have xbl : w.heap.size + 1 < v1.heap.size := by simp [← hv_] <;> omega
  obtain ⟨g0, g1⟩ : Cs2 v1 (w.heap.size + 1 + 1) (.int .i64 0) (.bool false) := by simp [Cs2, ← hv_, go_sem]
  have gl : w.heap.size + 1 + 1 < v1.heap.size := by simp [← hv_] <;> omega
  clear hv_
  go_wp2_with fail
  refine (CA _).mono ?_
  rintro e w2 ⟨rfl, b⟩
  rewrite [fR b gl] at f0 f1
  rewrite [cR b xal] at xa0 xa1
  replace xal := lK b xal
  rewrite [cR b xbl] at xb0 xb1
  replace xbl := lK b xbl
  rewrite [cR b gl] at g0 g1
  replace gl := lK b gl
  replace cc := bK cc b
  clear b
  have HBF := Lib.hid (below_put cc (show w.heap.size ≤ w.heap.size + 1 + 1 by omega) (.int .i64 (0)) (.bool false))
  clear cc
  go_wp2_with fail
  refine bodyPost_ret (v := .agg #[.int .i64 0, .bool false]) (by simp [results, Try.results43, go_sem, g0, g1]) rfl ⟨rfl, HBF.out⟩

theorem nSub17_ttt {w : World} {x y : Int} (hx : I64 x) (hy : I64 y) (ho : I64 (x - y)) :
    Calls Try.prog 43 #[.agg #[.int .i64 x, .bool true], .agg #[.int .i64 y, .bool true]] w (GotV w (.agg #[.int .i64 (x - y), .bool true])) := by
  have CA : ∀ W : World, Calls Try.prog 65 #[.int .i64 x, .int .i64 y] W (GotV W (.tuple #[.int .i64 (nI (x - y)), .int .i64 (nE (x - y))])) := fun W => rsub8_N hx hy
  rw [(nI_yes ho).1, (nI_yes ho).2] at CA
  clear hx hy ho
  generalize x - y = z at *
  have cc := Below.refl w.heap.size w
  go_enter Try.func43, Try.ntmps43
  go_wp2_with fail
  generalize hv_ : ((w.alloc (.cells #[.int .i64 x, .bool true] 58)).alloc (.cells #[.int .i64 y, .bool true] 58)).alloc (.cells #[.int .i64 0, .bool false] 58) = v1
  obtain ⟨f0, f1⟩ : Fz2 v1 (w.heap.size + 1 + 1) := by simp [Fz2, ← hv_, go_sem]
  have bA : Below w.heap.size w v1 := by rw [← hv_]; exact ((((Below.refl _ w).alloc (by simp) _).alloc (by simp) _).alloc (by simp <;> omega) _)
  replace cc := bK cc bA
  clear bA
  obtain ⟨xa0, xa1⟩ : Cs2 v1 w.heap.size (.int .i64 x) (.bool true) := by simp [Cs2, ← hv_, go_sem]
  have xal : w.heap.size < v1.heap.size := by simp [← hv_] <;> omega
  obtain ⟨xb0, xb1⟩ : Cs2 v1 (w.heap.size + 1) (.int .i64 y) (.bool true) := by simp [Cs2, ← hv_, go_sem]
  have xbl : w.heap.size + 1 < v1.heap.size := by simp [← hv_] <;> omega
  obtain ⟨g0, g1⟩ : Cs2 v1 (w.heap.size + 1 + 1) (.int .i64 0) (.bool false) := by simp [Cs2, ← hv_, go_sem]
  have gl : w.heap.size + 1 + 1 < v1.heap.size := by simp [← hv_] <;> omega
  clear hv_
  go_wp2_with fail
  refine (CA _).mono ?_
  rintro e w2 ⟨rfl, b⟩
  rewrite [fR b gl] at f0 f1
  rewrite [cR b xal] at xa0 xa1
  replace xal := lK b xal
  rewrite [cR b xbl] at xb0 xb1
  replace xbl := lK b xbl
  rewrite [cR b gl] at g0 g1
  replace gl := lK b gl
  replace cc := bK cc b
  clear b
  have HBF := Lib.hid (below_put cc (show w.heap.size ≤ w.heap.size + 1 + 1 by omega) (.int .i64 (z)) (.bool true))
  clear cc
  go_wp2_with fail
  refine bodyPost_ret (v := .agg #[.int .i64 z, .bool true]) (by simp [results, Try.results43, go_sem, g0, g1]) rfl ⟨rfl, HBF.out⟩

theorem nSub17_ttf {w : World} {x y : Int} (hx : I64 x) (hy : I64 y) (ho : ¬ I64 (x - y)) :
    Calls Try.prog 43 #[.agg #[.int .i64 x, .bool true], .agg #[.int .i64 y, .bool true]] w (GotV w (.agg #[.int .i64 0, .bool false])) := by
  have CA : ∀ W : World, Calls Try.prog 65 #[.int .i64 x, .int .i64 y] W (GotV W (.tuple #[.int .i64 (nI (x - y)), .int .i64 (nE (x - y))])) := fun W => rsub8_N hx hy
  rw [(nI_no ho).1, (nI_no ho).2] at CA
  clear hx hy ho
  have cc := Below.refl w.heap.size w
  go_enter Try.func43, Try.ntmps43
  go_wp2_with fail
  generalize hv_ : ((w.alloc (.cells #[.int .i64 x, .bool true] 58)).alloc (.cells #[.int .i64 y, .bool true] 58)).alloc (.cells #[.int .i64 0, .bool false] 58) = v1
  obtain ⟨f0, f1⟩ : Fz2 v1 (w.heap.size + 1 + 1) := by simp [Fz2, ← hv_, go_sem]
  have bA : Below w.heap.size w v1 := by rw [← hv_]; exact ((((Below.refl _ w).alloc (by simp) _).alloc (by simp) _).alloc (by simp <;> omega) _)
  replace cc := bK cc bA
  clear bA
  obtain ⟨xa0, xa1⟩ : Cs2 v1 w.heap.size (.int .i64 x) (.bool true) := by simp [Cs2, ← hv_, go_sem]
  have xal : w.heap.size < v1.heap.size := by simp [← hv_] <;> omega
  obtain ⟨xb0, xb1⟩ : Cs2 v1 (w.heap.size + 1) (.int .i64 y) (.bool true) := by simp [Cs2, ← hv_, go_sem]
  have xbl : w.heap.size + 1 < v1.heap.size := by simp [← hv_] <;> omega
  obtain ⟨g0, g1⟩ : Cs2 v1 (w.heap.size + 1 + 1) (.int .i64 0) (.bool false) := by simp [Cs2, ← hv_, go_sem]
  have gl : w.heap.size + 1 + 1 < v1.heap.size := by simp [← hv_] <;> omega
  clear hv_
  go_wp2_with fail
  refine (CA _).mono ?_
  rintro e w2 ⟨rfl, b⟩
  rewrite [fR b gl] at f0 f1
  rewrite [cR b xal] at xa0 xa1
  replace xal := lK b xal
  rewrite [cR b xbl] at xb0 xb1
  replace xbl := lK b xbl
  rewrite [cR b gl] at g0 g1
  replace gl := lK b gl
  replace cc := bK cc b
  clear b
  have HBF := Lib.hid (below_put cc (show w.heap.size ≤ w.heap.size + 1 + 1 by omega) (.int .i64 (0)) (.bool false))
  clear cc
  go_wp2_with fail
  refine bodyPost_ret (v := .agg #[.int .i64 0, .bool false]) (by simp [results, Try.results43, go_sem, g0, g1]) rfl ⟨rfl, HBF.out⟩

theorem nSub17_N {w : World} {x y : Int} (hx : I64 x) (hy : I64 y) {p q : Bool} : Calls Try.prog 43 #[.agg #[.int .i64 x, .bool p], .agg #[.int .i64 y, .bool q]] w (GotV w (.agg #[.int .i64 (nSub (x, p) (y, q)).1, .bool (nSub (x, p) (y, q)).2])) := by
  show Calls Try.prog 43 #[.agg #[.int .i64 x, .bool p], .agg #[.int .i64 y, .bool q]] w (GotV w (.agg #[.int .i64 (nI (x - y)), .bool (p && q && decide (I64 (x - y)))]))
  by_cases ho : I64 (x - y)
  · rw [(nI_yes ho).1, decide_eq_true ho]
    cases p <;> cases q
    · exact nSub17_fft hx hy ho
    · exact nSub17_ftt hx hy ho
    · exact nSub17_tft hx hy ho
    · exact nSub17_ttt hx hy ho
  · rw [(nI_no ho).1, decide_eq_false ho]
    cases p <;> cases q
    · exact nSub17_fff hx hy ho
    · exact nSub17_ftf hx hy ho
    · exact nSub17_tff hx hy ho
    · exact nSub17_ttf hx hy ho

theorem nMul17_fft {w : World} {x y : Int} {j : Int} (j0 : 0 ≤ j) (j1 : j ≤ 40) (hx : I64 x) (hy : I64 y) (ho : I64 (rn (x * y) (2 ^ j.toNat))) :
    Calls Try.prog 42 #[.agg #[.int .i64 x, .bool false], .agg #[.int .i64 y, .bool false], .int .i64 j] w (GotV w (.agg #[.int .i64 (rn (x * y) (2 ^ j.toNat)), .bool false])) := by
  have CA : ∀ W : World, Calls Try.prog 18 #[.int .i64 x, .int .i64 y, .int .i64 j] W (GotV W (.tuple #[.int .i64 (nI (rn (x * y) (2 ^ j.toNat))), .int .i64 (nE (rn (x * y) (2 ^ j.toNat)))])) := fun W => rmul8_N hx hy j0 j1
  rw [(nI_yes ho).1, (nI_yes ho).2] at CA
  clear hx hy ho j0 j1
  generalize rn (x * y) (2 ^ j.toNat) = z at *
  have cc := Below.refl w.heap.size w
  go_enter Try.func42, Try.ntmps42
  go_wp2_with fail
  generalize hv_ : ((w.alloc (.cells #[.int .i64 x, .bool false] 58)).alloc (.cells #[.int .i64 y, .bool false] 58)).alloc (.cells #[.int .i64 0, .bool false] 58) = v1
  obtain ⟨f0, f1⟩ : Fz2 v1 (w.heap.size + 1 + 1) := by simp [Fz2, ← hv_, go_sem]
  have bA : Below w.heap.size w v1 := by rw [← hv_]; exact ((((Below.refl _ w).alloc (by simp) _).alloc (by simp) _).alloc (by simp <;> omega) _)
  replace cc := bK cc bA
  clear bA
  obtain ⟨xa0, xa1⟩ : Cs2 v1 w.heap.size (.int .i64 x) (.bool false) := by simp [Cs2, ← hv_, go_sem]
  have xal : w.heap.size < v1.heap.size := by simp [← hv_] <;> omega
  obtain ⟨xb0, xb1⟩ : Cs2 v1 (w.heap.size + 1) (.int .i64 y) (.bool false) := by simp [Cs2, ← hv_, go_sem]
  have xbl : w.heap.size + 1 < v1.heap.size := by simp [← hv_] <;> omega
  obtain ⟨g0, g1⟩ : Cs2 v1 (w.heap.size + 1 + 1) (.int .i64 0) (.bool false) := by simp [Cs2, ← hv_, go_sem]
  have gl : w.heap.size + 1 + 1 < v1.heap.size := by simp [← hv_] <;> omega
  clear hv_
  go_wp2_with fail
  refine (CA _).mono ?_
  rintro e w2 ⟨rfl, b⟩
  rewrite [fR b gl] at f0 f1
  rewrite [cR b xal] at xa0 xa1
  replace xal := lK b xal
  rewrite [cR b xbl] at xb0 xb1
  replace xbl := lK b xbl
  rewrite [cR b gl] at g0 g1
  replace gl := lK b gl
  replace cc := bK cc b
  clear b
  have HBF := Lib.hid (below_put cc (show w.heap.size ≤ w.heap.size + 1 + 1 by omega) (.int .i64 (z)) (.bool false))
  clear cc
  go_wp2_with fail
  refine bodyPost_ret (v := .agg #[.int .i64 z, .bool false]) (by simp [results, Try.results42, go_sem, g0, g1]) rfl ⟨rfl, HBF.out⟩

theorem nMul17_fff {w : World} {x y : Int} {j : Int} (j0 : 0 ≤ j) (j1 : j ≤ 40) (hx : I64 x) (hy : I64 y) (ho : ¬ I64 (rn (x * y) (2 ^ j.toNat))) :
    Calls Try.prog 42 #[.agg #[.int .i64 x, .bool false], .agg #[.int .i64 y, .bool false], .int .i64 j] w (GotV w (.agg #[.int .i64 0, .bool false])) := by
  have CA : ∀ W : World, Calls Try.prog 18 #[.int .i64 x, .int .i64 y, .int .i64 j] W (GotV W (.tuple #[.int .i64 (nI (rn (x * y) (2 ^ j.toNat))), .int .i64 (nE (rn (x * y) (2 ^ j.toNat)))])) := fun W => rmul8_N hx hy j0 j1
  rw [(nI_no ho).1, (nI_no ho).2] at CA
  clear hx hy ho j0 j1
  have cc := Below.refl w.heap.size w
  go_enter Try.func42, Try.ntmps42
  go_wp2_with fail
  generalize hv_ : ((w.alloc (.cells #[.int .i64 x, .bool false] 58)).alloc (.cells #[.int .i64 y, .bool false] 58)).alloc (.cells #[.int .i64 0, .bool false] 58) = v1
  obtain ⟨f0, f1⟩ : Fz2 v1 (w.heap.size + 1 + 1) := by simp [Fz2, ← hv_, go_sem]
  have bA : Below w.heap.size w v1 := by rw [← hv_]; exact ((((Below.refl _ w).alloc (by simp) _).alloc (by simp) _).alloc (by simp <;> omega) _)
  replace cc := bK cc bA
  clear bA
  obtain ⟨xa0, xa1⟩ : Cs2 v1 w.heap.size (.int .i64 x) (.bool false) := by simp [Cs2, ← hv_, go_sem]
  have xal : w.heap.size < v1.heap.size := by simp [← hv_] <;> omega
  obtain ⟨xb0, xb1⟩ : Cs2 v1 (w.heap.size + 1) (.int .i64 y) (.bool false) := by simp [Cs2, ← hv_, go_sem]
  have xbl : w.heap.size + 1 < v1.heap.size := by simp [← hv_] <;> omega
  obtain ⟨g0, g1⟩ : Cs2 v1 (w.heap.size + 1 + 1) (.int .i64 0) (.bool false) := by simp [Cs2, ← hv_, go_sem]
  have gl : w.heap.size + 1 + 1 < v1.heap.size := by simp [← hv_] <;> omega
  clear hv_
  go_wp2_with fail
  refine (CA _).mono ?_
  rintro e w2 ⟨rfl, b⟩
  rewrite [fR b gl] at f0 f1
  rewrite [cR b xal] at xa0 xa1
  replace xal := lK b xal
  rewrite [cR b xbl] at xb0 xb1
  replace xbl := lK b xbl
  rewrite [cR b gl] at g0 g1
  replace gl := lK b gl
  replace cc := bK cc b
  clear b
  have HBF := Lib.hid (below_put cc (show w.heap.size ≤ w.heap.size + 1 + 1 by omega) (.int .i64 (0)) (.bool false))
  clear cc
  go_wp2_with fail
  refine bodyPost_ret (v := .agg #[.int .i64 0, .bool false]) (by simp [results, Try.results42, go_sem, g0, g1]) rfl ⟨rfl, HBF.out⟩

theorem nMul17_ftt {w : World} {x y : Int} {j : Int} (j0 : 0 ≤ j) (j1 : j ≤ 40) (hx : I64 x) (hy : I64 y) (ho : I64 (rn (x * y) (2 ^ j.toNat))) :
    Calls Try.prog 42 #[.agg #[.int .i64 x, .bool false], .agg #[.int .i64 y, .bool true], .int .i64 j] w (GotV w (.agg #[.int .i64 (rn (x * y) (2 ^ j.toNat)), .bool false])) := by
  have CA : ∀ W : World, Calls Try.prog 18 #[.int .i64 x, .int .i64 y, .int .i64 j] W (GotV W (.tuple #[.int .i64 (nI (rn (x * y) (2 ^ j.toNat))), .int .i64 (nE (rn (x * y) (2 ^ j.toNat)))])) := fun W => rmul8_N hx hy j0 j1
  rw [(nI_yes ho).1, (nI_yes ho).2] at CA
  clear hx hy ho j0 j1
  generalize rn (x * y) (2 ^ j.toNat) = z at *
  have cc := Below.refl w.heap.size w
  go_enter Try.func42, Try.ntmps42
  go_wp2_with fail
  generalize hv_ : ((w.alloc (.cells #[.int .i64 x, .bool false] 58)).alloc (.cells #[.int .i64 y, .bool true] 58)).alloc (.cells #[.int .i64 0, .bool false] 58) = v1
  obtain ⟨f0, f1⟩ : Fz2 v1 (w.heap.size + 1 + 1) := by simp [Fz2, ← hv_, go_sem]
  have bA : Below w.heap.size w v1 := by rw [← hv_]; exact ((((Below.refl _ w).alloc (by simp) _).alloc (by simp) _).alloc (by simp <;> omega) _)
  replace cc := bK cc bA
  clear bA
  obtain ⟨xa0, xa1⟩ : Cs2 v1 w.heap.size (.int .i64 x) (.bool false) := by simp [Cs2, ← hv_, go_sem]
  have xal : w.heap.size < v1.heap.size := by simp [← hv_] <;> omega
  obtain ⟨xb0, xb1⟩ : Cs2 v1 (w.heap.size + 1) (.int .i64 y) (.bool true) := by simp [Cs2, ← hv_, go_sem]
  have xbl : w.heap.size + 1 < v1.heap.size := by simp [← hv_] <;> omega
  obtain ⟨g0, g1⟩ : Cs2 v1 (w.heap.size + 1 + 1) (.int .i64 0) (.bool false) := by simp [Cs2, ← hv_, go_sem]
  have gl : w.heap.size + 1 + 1 < v1.heap.size := by simp [← hv_] <;> omega
  clear hv_
  go_wp2_with fail
  refine (CA _).mono ?_
  rintro e w2 ⟨rfl, b⟩
  rewrite [fR b gl] at f0 f1
  rewrite [cR b xal] at xa0 xa1
  replace xal := lK b xal
  rewrite [cR b xbl] at xb0 xb1
  replace xbl := lK b xbl
  rewrite [cR b gl] at g0 g1
  replace gl := lK b gl
  replace cc := bK cc b
  clear b
  have HBF := Lib.hid (below_put cc (show w.heap.size ≤ w.heap.size + 1 + 1 by omega) (.int .i64 (z)) (.bool false))
  clear cc
  go_wp2_with fail
  refine bodyPost_ret (v := .agg #[.int .i64 z, .bool false]) (by simp [results, Try.results42, go_sem, g0, g1]) rfl ⟨rfl, HBF.out⟩

theorem nMul17_ftf {w : World} {x y : Int} {j : Int} (j0 : 0 ≤ j) (j1 : j ≤ 40) (hx : I64 x) (hy : I64 y) (ho : ¬ I64 (rn (x * y) (2 ^ j.toNat))) :
    Calls Try.prog 42 #[.agg #[.int .i64 x, .bool false], .agg #[.int .i64 y, .bool true], .int .i64 j] w (GotV w (.agg #[.int .i64 0, .bool false])) := by
  have CA : ∀ W : World, Calls Try.prog 18 #[.int .i64 x, .int .i64 y, .int .i64 j] W (GotV W (.tuple #[.int .i64 (nI (rn (x * y) (2 ^ j.toNat))), .int .i64 (nE (rn (x * y) (2 ^ j.toNat)))])) := fun W => rmul8_N hx hy j0 j1
  rw [(nI_no ho).1, (nI_no ho).2] at CA
  clear hx hy ho j0 j1
  have cc := Below.refl w.heap.size w
  go_enter Try.func42, Try.ntmps42
  go_wp2_with fail
  generalize hv_ : ((w.alloc (.cells #[.int .i64 x, .bool false] 58)).alloc (.cells #[.int .i64 y, .bool true] 58)).alloc (.cells #[.int .i64 0, .bool false] 58) = v1
  obtain ⟨f0, f1⟩ : Fz2 v1 (w.heap.size + 1 + 1) := by simp [Fz2, ← hv_, go_sem]
  have bA : Below w.heap.size w v1 := by rw [← hv_]; exact ((((Below.refl _ w).alloc (by simp) _).alloc (by simp) _).alloc (by simp <;> omega) _)
  replace cc := bK cc bA
  clear bA
  obtain ⟨xa0, xa1⟩ : Cs2 v1 w.heap.size (.int .i64 x) (.bool false) := by simp [Cs2, ← hv_, go_sem]
  have xal : w.heap.size < v1.heap.size := by simp [← hv_] <;> omega
  obtain ⟨xb0, xb1⟩ : Cs2 v1 (w.heap.size + 1) (.int .i64 y) (.bool true) := by simp [Cs2, ← hv_, go_sem]
  have xbl : w.heap.size + 1 < v1.heap.size := by simp [← hv_] <;> omega
  obtain ⟨g0, g1⟩ : Cs2 v1 (w.heap.size + 1 + 1) (.int .i64 0) (.bool false) := by simp [Cs2, ← hv_, go_sem]
  have gl : w.heap.size + 1 + 1 < v1.heap.size := by simp [← hv_] <;> omega
  clear hv_
  go_wp2_with fail
  refine (CA _).mono ?_
  rintro e w2 ⟨rfl, b⟩
  rewrite [fR b gl] at f0 f1
  rewrite [cR b xal] at xa0 xa1
  replace xal := lK b xal
  rewrite [cR b xbl] at xb0 xb1
  replace xbl := lK b xbl
  rewrite [cR b gl] at g0 g1
  replace gl := lK b gl
  replace cc := bK cc b
  clear b
  have HBF := Lib.hid (below_put cc (show w.heap.size ≤ w.heap.size + 1 + 1 by omega) (.int .i64 (0)) (.bool false))
  clear cc
  go_wp2_with fail
  refine bodyPost_ret (v := .agg #[.int .i64 0, .bool false]) (by simp [results, Try.results42, go_sem, g0, g1]) rfl ⟨rfl, HBF.out⟩

theorem nMul17_tft {w : World} {x y : Int} {j : Int} (j0 : 0 ≤ j) (j1 : j ≤ 40) (hx : I64 x) (hy : I64 y) (ho : I64 (rn (x * y) (2 ^ j.toNat))) :
    Calls Try.prog 42 #[.agg #[.int .i64 x, .bool true], .agg #[.int .i64 y, .bool false], .int .i64 j] w (GotV w (.agg #[.int .i64 (rn (x * y) (2 ^ j.toNat)), .bool false])) := by
  have CA : ∀ W : World, Calls Try.prog 18 #[.int .i64 x, .int .i64 y, .int .i64 j] W (GotV W (.tuple #[.int .i64 (nI (rn (x * y) (2 ^ j.toNat))), .int .i64 (nE (rn (x * y) (2 ^ j.toNat)))])) := fun W => rmul8_N hx hy j0 j1
  rw [(nI_yes ho).1, (nI_yes ho).2] at CA
  clear hx hy ho j0 j1
  generalize rn (x * y) (2 ^ j.toNat) = z at *
  have cc := Below.refl w.heap.size w
  go_enter Try.func42, Try.ntmps42
  go_wp2_with fail
  generalize hv_ : ((w.alloc (.cells #[.int .i64 x, .bool true] 58)).alloc (.cells #[.int .i64 y, .bool false] 58)).alloc (.cells #[.int .i64 0, .bool false] 58) = v1
  obtain ⟨f0, f1⟩ : Fz2 v1 (w.heap.size + 1 + 1) := by simp [Fz2, ← hv_, go_sem]
  have bA : Below w.heap.size w v1 := by rw [← hv_]; exact ((((Below.refl _ w).alloc (by simp) _).alloc (by simp) _).alloc (by simp <;> omega) _)
  replace cc := bK cc bA
  clear bA
  obtain ⟨xa0, xa1⟩ : Cs2 v1 w.heap.size (.int .i64 x) (.bool true) := by simp [Cs2, ← hv_, go_sem]
  have xal : w.heap.size < v1.heap.size := by simp [← hv_] <;> omega
  obtain ⟨xb0, xb1⟩ : Cs2 v1 (w.heap.size + 1) (.int .i64 y) (.bool false) := by simp [Cs2, ← hv_, go_sem]
  have xbl : w.heap.size + 1 < v1.heap.size := by simp [← hv_] <;> omega
  obtain ⟨g0, g1⟩ : Cs2 v1 (w.heap.size + 1 + 1) (.int .i64 0) (.bool false) := by simp [Cs2, ← hv_, go_sem]
  have gl : w.heap.size + 1 + 1 < v1.heap.size := by simp [← hv_] <;> omega
  clear hv_
  go_wp2_with fail
  refine (CA _).mono ?_
  rintro e w2 ⟨rfl, b⟩
  rewrite [fR b gl] at f0 f1
  rewrite [cR b xal] at xa0 xa1
  replace xal := lK b xal
  rewrite [cR b xbl] at xb0 xb1
  replace xbl := lK b xbl
  rewrite [cR b gl] at g0 g1
  replace gl := lK b gl
  replace cc := bK cc b
  clear b
  have HBF := Lib.hid (below_put cc (show w.heap.size ≤ w.heap.size + 1 + 1 by omega) (.int .i64 (z)) (.bool false))
  clear cc
  go_wp2_with fail
  refine bodyPost_ret (v := .agg #[.int .i64 z, .bool false]) (by simp [results, Try.results42, go_sem, g0, g1]) rfl ⟨rfl, HBF.out⟩

theorem nMul17_tff {w : World} {x y : Int} {j : Int} (j0 : 0 ≤ j) (j1 : j ≤ 40) (hx : I64 x) (hy : I64 y) (ho : ¬ I64 (rn (x * y) (2 ^ j.toNat))) :
    Calls Try.prog 42 #[.agg #[.int .i64 x, .bool true], .agg #[.int .i64 y, .bool false], .int .i64 j] w (GotV w (.agg #[.int .i64 0, .bool false])) := by
  have CA : ∀ W : World, Calls Try.prog 18 #[.int .i64 x, .int .i64 y, .int .i64 j] W (GotV W (.tuple #[.int .i64 (nI (rn (x * y) (2 ^ j.toNat))), .int .i64 (nE (rn (x * y) (2 ^ j.toNat)))])) := fun W => rmul8_N hx hy j0 j1
  rw [(nI_no ho).1, (nI_no ho).2] at CA
  clear hx hy ho j0 j1
  have cc := Below.refl w.heap.size w
  go_enter Try.func42, Try.ntmps42
  go_wp2_with fail
  generalize hv_ : ((w.alloc (.cells #[.int .i64 x, .bool true] 58)).alloc (.cells #[.int .i64 y, .bool false] 58)).alloc (.cells #[.int .i64 0, .bool false] 58) = v1
  obtain ⟨f0, f1⟩ : Fz2 v1 (w.heap.size + 1 + 1) := by simp [Fz2, ← hv_, go_sem]
  have bA : Below w.heap.size w v1 := by rw [← hv_]; exact ((((Below.refl _ w).alloc (by simp) _).alloc (by simp) _).alloc (by simp <;> omega) _)
  replace cc := bK cc bA
  clear bA
  obtain ⟨xa0, xa1⟩ : Cs2 v1 w.heap.size (.int .i64 x) (.bool true) := by simp [Cs2, ← hv_, go_sem]
  have xal : w.heap.size < v1.heap.size := by simp [← hv_] <;> omega
  obtain ⟨xb0, xb1⟩ : Cs2 v1 (w.heap.size + 1) (.int .i64 y) (.bool false) := by simp [Cs2, ← hv_, go_sem]
  have xbl : w.heap.size + 1 < v1.heap.size := by simp [← hv_] <;> omega
  obtain ⟨g0, g1⟩ : Cs2 v1 (w.heap.size + 1 + 1) (.int .i64 0) (.bool false) := by simp [Cs2, ← hv_, go_sem]
  have gl : w.heap.size + 1 + 1 < v1.heap.size := by simp [← hv_] <;> omega
  clear hv_
  go_wp2_with fail
  refine (CA _).mono ?_
  rintro e w2 ⟨rfl, b⟩
  rewrite [fR b gl] at f0 f1
  rewrite [cR b xal] at xa0 xa1
  replace xal := lK b xal
  rewrite [cR b xbl] at xb0 xb1
  replace xbl := lK b xbl
  rewrite [cR b gl] at g0 g1
  replace gl := lK b gl
  replace cc := bK cc b
  clear b
  have HBF := Lib.hid (below_put cc (show w.heap.size ≤ w.heap.size + 1 + 1 by omega) (.int .i64 (0)) (.bool false))
  clear cc
  go_wp2_with fail
  refine bodyPost_ret (v := .agg #[.int .i64 0, .bool false]) (by simp [results, Try.results42, go_sem, g0, g1]) rfl ⟨rfl, HBF.out⟩

theorem nMul17_ttt {w : World} {x y : Int} {j : Int} (j0 : 0 ≤ j) (j1 : j ≤ 40) (hx : I64 x) (hy : I64 y) (ho : I64 (rn (x * y) (2 ^ j.toNat))) :
    Calls Try.prog 42 #[.agg #[.int .i64 x, .bool true], .agg #[.int .i64 y, .bool true], .int .i64 j] w (GotV w (.agg #[.int .i64 (rn (x * y) (2 ^ j.toNat)), .bool true])) := by
  have CA : ∀ W : World, Calls Try.prog 18 #[.int .i64 x, .int .i64 y, .int .i64 j] W (GotV W (.tuple #[.int .i64 (nI (rn (x * y) (2 ^ j.toNat))), .int .i64 (nE (rn (x * y) (2 ^ j.toNat)))])) := fun W => rmul8_N hx hy j0 j1
  rw [(nI_yes ho).1, (nI_yes ho).2] at CA
  clear hx hy ho j0 j1
  generalize rn (x * y) (2 ^ j.toNat) = z at *
  have cc := Below.refl w.heap.size w
  go_enter Try.func42, Try.ntmps42
  go_wp2_with fail
  generalize hv_ : ((w.alloc (.cells #[.int .i64 x, .bool true] 58)).alloc (.cells #[.int .i64 y, .bool true] 58)).alloc (.cells #[.int .i64 0, .bool false] 58) = v1
  obtain ⟨f0, f1⟩ : Fz2 v1 (w.heap.size + 1 + 1) := by simp [Fz2, ← hv_, go_sem]
  have bA : Below w.heap.size w v1 := by rw [← hv_]; exact ((((Below.refl _ w).alloc (by simp) _).alloc (by simp) _).alloc (by simp <;> omega) _)
  replace cc := bK cc bA
  clear bA
  obtain ⟨xa0, xa1⟩ : Cs2 v1 w.heap.size (.int .i64 x) (.bool true) := by simp [Cs2, ← hv_, go_sem]
  have xal : w.heap.size < v1.heap.size := by simp [← hv_] <;> omega
  obtain ⟨xb0, xb1⟩ : Cs2 v1 (w.heap.size + 1) (.int .i64 y) (.bool true) := by simp [Cs2, ← hv_, go_sem]
  have xbl : w.heap.size + 1 < v1.heap.size := by simp [← hv_] <;> omega
  obtain ⟨g0, g1⟩ : Cs2 v1 (w.heap.size + 1 + 1) (.int .i64 0) (.bool false) := by simp [Cs2, ← hv_, go_sem]
  have gl : w.heap.size + 1 + 1 < v1.heap.size := by simp [← hv_] <;> omega
  clear hv_
  go_wp2_with fail
  refine (CA _).mono ?_
  rintro e w2 ⟨rfl, b⟩
  rewrite [fR b gl] at f0 f1
  rewrite [cR b xal] at xa0 xa1
  replace xal := lK b xal
  rewrite [cR b xbl] at xb0 xb1
  replace xbl := lK b xbl
  rewrite [cR b gl] at g0 g1
  replace gl := lK b gl
  replace cc := bK cc b
  clear b
  have HBF := Lib.hid (below_put cc (show w.heap.size ≤ w.heap.size + 1 + 1 by omega) (.int .i64 (z)) (.bool true))
  clear cc
  go_wp2_with fail
  refine bodyPost_ret (v := .agg #[.int .i64 z, .bool true]) (by simp [results, Try.results42, go_sem, g0, g1]) rfl ⟨rfl, HBF.out⟩

theorem nMul17_ttf {w : World} {x y : Int} {j : Int} (j0 : 0 ≤ j) (j1 : j ≤ 40) (hx : I64 x) (hy : I64 y) (ho : ¬ I64 (rn (x * y) (2 ^ j.toNat))) :
    Calls Try.prog 42 #[.agg #[.int .i64 x, .bool true], .agg #[.int .i64 y, .bool true], .int .i64 j] w (GotV w (.agg #[.int .i64 0, .bool false])) := by
  have CA : ∀ W : World, Calls Try.prog 18 #[.int .i64 x, .int .i64 y, .int .i64 j] W (GotV W (.tuple #[.int .i64 (nI (rn (x * y) (2 ^ j.toNat))), .int .i64 (nE (rn (x * y) (2 ^ j.toNat)))])) := fun W => rmul8_N hx hy j0 j1
  rw [(nI_no ho).1, (nI_no ho).2] at CA
  clear hx hy ho j0 j1
  have cc := Below.refl w.heap.size w
  go_enter Try.func42, Try.ntmps42
  go_wp2_with fail
  generalize hv_ : ((w.alloc (.cells #[.int .i64 x, .bool true] 58)).alloc (.cells #[.int .i64 y, .bool true] 58)).alloc (.cells #[.int .i64 0, .bool false] 58) = v1
  obtain ⟨f0, f1⟩ : Fz2 v1 (w.heap.size + 1 + 1) := by simp [Fz2, ← hv_, go_sem]
  have bA : Below w.heap.size w v1 := by rw [← hv_]; exact ((((Below.refl _ w).alloc (by simp) _).alloc (by simp) _).alloc (by simp <;> omega) _)
  replace cc := bK cc bA
  clear bA
  obtain ⟨xa0, xa1⟩ : Cs2 v1 w.heap.size (.int .i64 x) (.bool true) := by simp [Cs2, ← hv_, go_sem]
  have xal : w.heap.size < v1.heap.size := by simp [← hv_] <;> omega
  obtain ⟨xb0, xb1⟩ : Cs2 v1 (w.heap.size + 1) (.int .i64 y) (.bool true) := by simp [Cs2, ← hv_, go_sem]
  have xbl : w.heap.size + 1 < v1.heap.size := by simp [← hv_] <;> omega
  obtain ⟨g0, g1⟩ : Cs2 v1 (w.heap.size + 1 + 1) (.int .i64 0) (.bool false) := by simp [Cs2, ← hv_, go_sem]
  have gl : w.heap.size + 1 + 1 < v1.heap.size := by simp [← hv_] <;> omega
  clear hv_
  go_wp2_with fail
  refine (CA _).mono ?_
  rintro e w2 ⟨rfl, b⟩
  rewrite [fR b gl] at f0 f1
  rewrite [cR b xal] at xa0 xa1
  replace xal := lK b xal
  rewrite [cR b xbl] at xb0 xb1
  replace xbl := lK b xbl
  rewrite [cR b gl] at g0 g1
  replace gl := lK b gl
  replace cc := bK cc b
  clear b
  have HBF := Lib.hid (below_put cc (show w.heap.size ≤ w.heap.size + 1 + 1 by omega) (.int .i64 (0)) (.bool false))
  clear cc
  go_wp2_with fail
  refine bodyPost_ret (v := .agg #[.int .i64 0, .bool false]) (by simp [results, Try.results42, go_sem, g0, g1]) rfl ⟨rfl, HBF.out⟩

theorem nMul17_N {w : World} {x y : Int} {j : Int} (j0 : 0 ≤ j) (j1 : j ≤ 40) (hx : I64 x) (hy : I64 y) {p q : Bool} : Calls Try.prog 42 #[.agg #[.int .i64 x, .bool p], .agg #[.int .i64 y, .bool q], .int .i64 j] w (GotV w (.agg #[.int .i64 (nMul j.toNat (x, p) (y, q)).1, .bool (nMul j.toNat (x, p) (y, q)).2])) := by
  show Calls Try.prog 42 #[.agg #[.int .i64 x, .bool p], .agg #[.int .i64 y, .bool q], .int .i64 j] w (GotV w (.agg #[.int .i64 (nI (rn (x * y) (2 ^ j.toNat))), .bool (p && q && decide (I64 (rn (x * y) (2 ^ j.toNat))))]))
  by_cases ho : I64 (rn (x * y) (2 ^ j.toNat))
  · rw [(nI_yes ho).1, decide_eq_true ho]
    cases p <;> cases q
    · exact nMul17_fft j0 j1 hx hy ho
    · exact nMul17_ftt j0 j1 hx hy ho
    · exact nMul17_tft j0 j1 hx hy ho
    · exact nMul17_ttt j0 j1 hx hy ho
  · rw [(nI_no ho).1, decide_eq_false ho]
    cases p <;> cases q
    · exact nMul17_fff j0 j1 hx hy ho
    · exact nMul17_ftf j0 j1 hx hy ho
    · exact nMul17_tff j0 j1 hx hy ho
    · exact nMul17_ttf j0 j1 hx hy ho

theorem nOne17_N {w : World} {f : Int} (f0 : 0 ≤ f) (f1 : f ≤ 40) :
    Calls Try.prog 26 #[.int .i64 f] w (GotV w (.int .i64 ((2 ^ f.toNat : Nat) : Int))) := by
  have CO := rOne15_N (w := w) f0 f1
  generalize ((2 ^ f.toNat : Nat) : Int) = D at *
  clear f0 f1
  have cc := Below.refl w.heap.size w
  go_enter Try.func26, Try.ntmps26
  go_wp2_with fail
  refine (CO).mono ?_
  rintro e w1 ⟨rfl, b⟩
  replace cc := bK cc b
  clear b
  go_wp2_with fail
  go_ret
  exact ⟨rfl, cc⟩

end Go.Proofs.Ytckdbcngnghhiaa

/-
  The contract of the seventeenth reference: Right.
-/
namespace Go.Proofs.Ytckdbcngnghhiaa
set_option maxRecDepth 100000
set_option maxHeartbeats 8000000
open Go.RowKit
set_option linter.unusedVariables false
set_option linter.unusedSimpArgs false

theorem nRight17_0 {w : World} {lr mu wd f : Int} {ne : Bool} (q0 : f < 0) :
    Calls Try.prog 13 #[.agg #[.int .i64 lr, .int .i64 mu, .int .i64 wd, .bool ne], .int .i64 f] w (GotV w (.bool false)) := by
  have t0 : decide (f < 0) = true := decide_eq_true q0
  clear q0
  have cc := Below.refl w.heap.size w
  go_enter Try.func13, Try.ntmps13
  go_wp2_with fail
  generalize hv_ : w.alloc (.cells #[.int .i64 lr, .int .i64 mu, .int .i64 wd, .bool ne] 23) = v1
  have bA : Below w.heap.size w v1 := by rw [← hv_]; exact ((Below.refl _ w).alloc (by simp) _)
  replace cc := bK cc bA
  clear bA
  have sc0 : v1.cell? ⟨w.heap.size, 0, none⟩ = some (.int .i64 lr) := by simp [← hv_, go_sem]
  have sc1 : v1.cell? ⟨w.heap.size, 1, none⟩ = some (.int .i64 mu) := by simp [← hv_, go_sem]
  have sc2 : v1.cell? ⟨w.heap.size, 2, none⟩ = some (.int .i64 wd) := by simp [← hv_, go_sem]
  have sc3 : v1.cell? ⟨w.heap.size, 3, none⟩ = some (.bool ne) := by simp [← hv_, go_sem]
  have scl : w.heap.size < v1.heap.size := by simp [← hv_] <;> omega
  clear hv_
  go_wp2_with fail
  go_ret
  exact ⟨rfl, cc⟩

theorem nRight17_1 {w : World} {lr mu wd f : Int} {ne : Bool} (q0 : ¬ f < 0) (q1 : 40 < f) :
    Calls Try.prog 13 #[.agg #[.int .i64 lr, .int .i64 mu, .int .i64 wd, .bool ne], .int .i64 f] w (GotV w (.bool false)) := by
  have t0 : decide (f < 0) = false := decide_eq_false q0
  have t1 : decide (40 < f) = true := decide_eq_true q1
  clear q0 q1
  have cc := Below.refl w.heap.size w
  go_enter Try.func13, Try.ntmps13
  go_wp2_with fail
  generalize hv_ : w.alloc (.cells #[.int .i64 lr, .int .i64 mu, .int .i64 wd, .bool ne] 23) = v1
  have bA : Below w.heap.size w v1 := by rw [← hv_]; exact ((Below.refl _ w).alloc (by simp) _)
  replace cc := bK cc bA
  clear bA
  have sc0 : v1.cell? ⟨w.heap.size, 0, none⟩ = some (.int .i64 lr) := by simp [← hv_, go_sem]
  have sc1 : v1.cell? ⟨w.heap.size, 1, none⟩ = some (.int .i64 mu) := by simp [← hv_, go_sem]
  have sc2 : v1.cell? ⟨w.heap.size, 2, none⟩ = some (.int .i64 wd) := by simp [← hv_, go_sem]
  have sc3 : v1.cell? ⟨w.heap.size, 3, none⟩ = some (.bool ne) := by simp [← hv_, go_sem]
  have scl : w.heap.size < v1.heap.size := by simp [← hv_] <;> omega
  clear hv_
  go_wp2_with fail
  go_ret
  exact ⟨rfl, cc⟩

theorem nRight17_2 {w : World} {lr mu wd f : Int} {ne : Bool} (q0 : ¬ f < 0) (q1 : ¬ 40 < f) (q2 : lr < 0) :
    Calls Try.prog 13 #[.agg #[.int .i64 lr, .int .i64 mu, .int .i64 wd, .bool ne], .int .i64 f] w (GotV w (.bool false)) := by
  have t0 : decide (f < 0) = false := decide_eq_false q0
  have t1 : decide (40 < f) = false := decide_eq_false q1
  have t2 : decide (lr < 0) = true := decide_eq_true q2
  clear q0 q1 q2
  have cc := Below.refl w.heap.size w
  go_enter Try.func13, Try.ntmps13
  go_wp2_with fail
  generalize hv_ : w.alloc (.cells #[.int .i64 lr, .int .i64 mu, .int .i64 wd, .bool ne] 23) = v1
  have bA : Below w.heap.size w v1 := by rw [← hv_]; exact ((Below.refl _ w).alloc (by simp) _)
  replace cc := bK cc bA
  clear bA
  have sc0 : v1.cell? ⟨w.heap.size, 0, none⟩ = some (.int .i64 lr) := by simp [← hv_, go_sem]
  have sc1 : v1.cell? ⟨w.heap.size, 1, none⟩ = some (.int .i64 mu) := by simp [← hv_, go_sem]
  have sc2 : v1.cell? ⟨w.heap.size, 2, none⟩ = some (.int .i64 wd) := by simp [← hv_, go_sem]
  have sc3 : v1.cell? ⟨w.heap.size, 3, none⟩ = some (.bool ne) := by simp [← hv_, go_sem]
  have scl : w.heap.size < v1.heap.size := by simp [← hv_] <;> omega
  clear hv_
  go_wp2_with fail
  go_ret
  exact ⟨rfl, cc⟩

theorem nRight17_3 {w : World} {lr mu wd f : Int} {ne : Bool} (q0 : ¬ f < 0) (q1 : ¬ 40 < f) (q2 : ¬ lr < 0) (q3 : ¬ 0 ≤ mu) :
    Calls Try.prog 13 #[.agg #[.int .i64 lr, .int .i64 mu, .int .i64 wd, .bool ne], .int .i64 f] w (GotV w (.bool false)) := by
  have t0 : decide (f < 0) = false := decide_eq_false q0
  have t1 : decide (40 < f) = false := decide_eq_false q1
  have t2 : decide (lr < 0) = false := decide_eq_false q2
  have t3 : decide (0 ≤ mu) = false := decide_eq_false q3
  clear q0 q1 q2 q3
  have cc := Below.refl w.heap.size w
  go_enter Try.func13, Try.ntmps13
  go_wp2_with fail
  generalize hv_ : w.alloc (.cells #[.int .i64 lr, .int .i64 mu, .int .i64 wd, .bool ne] 23) = v1
  have bA : Below w.heap.size w v1 := by rw [← hv_]; exact ((Below.refl _ w).alloc (by simp) _)
  replace cc := bK cc bA
  clear bA
  have sc0 : v1.cell? ⟨w.heap.size, 0, none⟩ = some (.int .i64 lr) := by simp [← hv_, go_sem]
  have sc1 : v1.cell? ⟨w.heap.size, 1, none⟩ = some (.int .i64 mu) := by simp [← hv_, go_sem]
  have sc2 : v1.cell? ⟨w.heap.size, 2, none⟩ = some (.int .i64 wd) := by simp [← hv_, go_sem]
  have sc3 : v1.cell? ⟨w.heap.size, 3, none⟩ = some (.bool ne) := by simp [← hv_, go_sem]
  have scl : w.heap.size < v1.heap.size := by simp [← hv_] <;> omega
  clear hv_
  go_wp2_with fail
  have bD : Below v1.heap.size v1 v1.drew := below_drewN (Below.refl _ v1) 1
  rewrite [cR bD scl] at sc0 sc1 sc2 sc3
  replace scl := lK bD scl
  replace cc := bK cc bD
  clear bD
  refine wp_region_held_drew (S := fun w' => w'.cell? ⟨w.heap.size, 0, none⟩ = some (.int .i64 lr) ∧ w'.cell? ⟨w.heap.size, 1, none⟩ = some (.int .i64 mu) ∧ w'.cell? ⟨w.heap.size, 2, none⟩ = some (.int .i64 wd) ∧ w'.cell? ⟨w.heap.size, 3, none⟩ = some (.bool ne)) (by kernel_rfl) ?_ (fun hHeld => ?_)
  · exact ⟨sc0, sc1, sc2, sc3⟩
  refine tY (i := 0) (v := ?_) rfl ?_ hHeld ?_
  rotate_left
  · (intro w hSw; (try dsimp only at hSw); go_simp; (try with_reducible rfl))
  try simp only [Act.put, pT]
  refine tY (i := 1) (v := ?_) rfl ?_ hHeld ?_
  rotate_left
  · (intro w hSw; (try dsimp only at hSw); go_simp; (try with_reducible rfl))
  try simp only [Act.put, pT]
  refine tY (i := 2) (v := ?_) rfl ?_ hHeld ?_
  rotate_left
  · (intro w hSw; (try dsimp only at hSw); go_simp; (try with_reducible rfl))
  try simp only [Act.put, pT]
  refine tY (i := 3) (v := ?_) rfl ?_ hHeld ?_
  rotate_left
  · (intro w hSw; (try dsimp only at hSw); go_simp; (try with_reducible rfl))
  try simp only [Act.put, pT]
  refine tU (i := 4) rfl hHeld ?_
  try simp only [Act.put, pT]
  refine tU (i := 5) rfl hHeld ?_
  try simp only [Act.put, pT]
  refine tU (i := 6) rfl hHeld ?_
  try simp only [Act.put, pT]
  refine tU (i := 7) rfl hHeld ?_
  try simp only [Act.put, pT]
  refine tU (i := 8) rfl hHeld ?_
  try simp only [Act.put, pT]
  refine tY (i := 9) (v := ?_) rfl ?_ hHeld ?_
  rotate_left
  · (intro w hSw; (try dsimp only at hSw); go_simp; (try with_reducible rfl))
  try simp only [Act.put, pT]
  refine tY (i := 10) (v := ?_) rfl ?_ hHeld ?_
  rotate_left
  · (intro w hSw; (try dsimp only at hSw); go_simp; (try with_reducible rfl))
  try simp only [Act.put, pT]
  refine tU (i := 11) rfl hHeld ?_
  try simp only [Act.put, pT]
  refine tU (i := 12) rfl hHeld ?_
  try simp only [Act.put, pT]
  refine tU (i := 13) rfl hHeld ?_
  try simp only [Act.put, pT]
  refine tY (i := 14) (v := ?_) rfl ?_ hHeld ?_
  rotate_left
  · (intro w hSw; (try dsimp only at hSw); go_simp; (try with_reducible rfl))
  try simp only [Act.put, pT]
  refine tY (i := 15) (v := ?_) rfl ?_ hHeld ?_
  rotate_left
  · (intro w hSw; (try dsimp only at hSw); go_simp; (try with_reducible rfl))
  try simp only [Act.put, pT]
  refine tU (i := 16) rfl hHeld ?_
  try simp only [Act.put, pT]
  refine tU (i := 17) rfl hHeld ?_
  try simp only [Act.put, pT]
  refine tU (i := 18) rfl hHeld ?_
  try simp only [Act.put, pT]
  refine tU (i := 19) rfl hHeld ?_
  try simp only [Act.put, pT]
  refine tU (i := 20) rfl hHeld ?_
  try simp only [Act.put, pT]
  refine tY (i := 21) (v := ?_) rfl ?_ hHeld ?_
  rotate_left
  · (intro w hSw; (try dsimp only at hSw); go_simp; (try with_reducible rfl))
  try simp only [Act.put, pT]
  refine tY (i := 22) (v := ?_) rfl ?_ hHeld ?_
  rotate_left
  · (intro w hSw; (try dsimp only at hSw); go_simp; (try with_reducible rfl))
  try simp only [Act.put, pT]
  refine wpAnyH_done (by kernel_rfl) ?_ _
  clear hHeld
  go_wp2_with fail
  go_ret
  exact ⟨rfl, cc⟩

theorem nRight17_4 {w : World} {lr mu wd f D : Int} {ne : Bool} (hD : ((2 ^ f.toNat : Nat) : Int) = D) (q0 : ¬ f < 0) (q1 : ¬ 40 < f) (q2 : ¬ lr < 0) (q3 : 0 ≤ mu) (q4 : ¬ mu < D) :
    Calls Try.prog 13 #[.agg #[.int .i64 lr, .int .i64 mu, .int .i64 wd, .bool ne], .int .i64 f] w (GotV w (.bool false)) := by
  have t0 : decide (f < 0) = false := decide_eq_false q0
  have t1 : decide (40 < f) = false := decide_eq_false q1
  have t2 : decide (lr < 0) = false := decide_eq_false q2
  have t3 : decide (0 ≤ mu) = true := decide_eq_true q3
  have t4 : decide (mu < D) = false := decide_eq_false q4
  have CO := fun W : World => nOne17_N (w := W) (f := f) (by omega) (by omega)
  rw [hD] at CO
  clear q0 q1 q2 q3 q4 hD
  have cc := Below.refl w.heap.size w
  go_enter Try.func13, Try.ntmps13
  go_wp2_with fail
  generalize hv_ : w.alloc (.cells #[.int .i64 lr, .int .i64 mu, .int .i64 wd, .bool ne] 23) = v1
  have bA : Below w.heap.size w v1 := by rw [← hv_]; exact ((Below.refl _ w).alloc (by simp) _)
  replace cc := bK cc bA
  clear bA
  have sc0 : v1.cell? ⟨w.heap.size, 0, none⟩ = some (.int .i64 lr) := by simp [← hv_, go_sem]
  have sc1 : v1.cell? ⟨w.heap.size, 1, none⟩ = some (.int .i64 mu) := by simp [← hv_, go_sem]
  have sc2 : v1.cell? ⟨w.heap.size, 2, none⟩ = some (.int .i64 wd) := by simp [← hv_, go_sem]
  have sc3 : v1.cell? ⟨w.heap.size, 3, none⟩ = some (.bool ne) := by simp [← hv_, go_sem]
  have scl : w.heap.size < v1.heap.size := by simp [← hv_] <;> omega
  clear hv_
  go_wp2_with fail
  have bD : Below v1.heap.size v1 v1.drew := below_drewN (Below.refl _ v1) 1
  rewrite [cR bD scl] at sc0 sc1 sc2 sc3
  replace scl := lK bD scl
  replace cc := bK cc bD
  clear bD
  refine wp_region_held_drew (S := fun w' => w'.cell? ⟨w.heap.size, 0, none⟩ = some (.int .i64 lr) ∧ w'.cell? ⟨w.heap.size, 1, none⟩ = some (.int .i64 mu) ∧ w'.cell? ⟨w.heap.size, 2, none⟩ = some (.int .i64 wd) ∧ w'.cell? ⟨w.heap.size, 3, none⟩ = some (.bool ne)) (by kernel_rfl) ?_ (fun hHeld => ?_)
  · exact ⟨sc0, sc1, sc2, sc3⟩
  refine tY (i := 0) (v := ?_) rfl ?_ hHeld ?_
  rotate_left
  · (intro w hSw; (try dsimp only at hSw); go_simp; (try with_reducible rfl))
  try simp only [Act.put, pT]
  refine tY (i := 1) (v := ?_) rfl ?_ hHeld ?_
  rotate_left
  · (intro w hSw; (try dsimp only at hSw); go_simp; (try with_reducible rfl))
  try simp only [Act.put, pT]
  refine tY (i := 2) (v := ?_) rfl ?_ hHeld ?_
  rotate_left
  · (intro w hSw; (try dsimp only at hSw); go_simp; (try with_reducible rfl))
  try simp only [Act.put, pT]
  refine tY (i := 3) (v := ?_) rfl ?_ hHeld ?_
  rotate_left
  · (intro w hSw; (try dsimp only at hSw); go_simp; (try with_reducible rfl))
  try simp only [Act.put, pT]
  refine tY (i := 4) (v := ?_) rfl ?_ hHeld ?_
  rotate_left
  · (intro w hSw; (try dsimp only at hSw); go_simp; (try with_reducible rfl))
  try simp only [Act.put, pT]
  refine tY (i := 5) (v := ?_) rfl ?_ hHeld ?_
  rotate_left
  · (intro w hSw; (try dsimp only at hSw); go_simp; (try with_reducible rfl))
  try simp only [Act.put, pT]
  refine tY (i := 6) (v := ?_) rfl ?_ hHeld ?_
  rotate_left
  · (intro w hSw; (try dsimp only at hSw); go_simp; (try with_reducible rfl))
  try simp only [Act.put, pT]
  refine wpAnyH_ready (rs := [7]) (by kernel_rfl) (by simp) ?_
  refine AllReadyH.cons rfl (fun K hK => ?_) AllReadyH.nil
  (try simp only [pT])
  rw [if_pos (by rfl)]
  go_simp
  go_at_call 26
  refine (CO _).mono ?_
  rintro e w2 ⟨rfl, b⟩
  rewrite [cR b scl] at sc0 sc1 sc2 sc3
  replace scl := lK b scl
  replace cc := bK cc b
  clear b
  refine hK.out _ _ ?_ (fun hHeld => ?_)
  · exact ⟨sc0, sc1, sc2, sc3⟩
  clear hK K
  try simp only [Act.put, pT]
  refine tY (i := 8) (v := ?_) rfl ?_ hHeld ?_
  rotate_left
  · (intro w hSw; (try dsimp only at hSw); go_simp; (try with_reducible rfl))
  try simp only [Act.put, pT]
  refine tY (i := 9) (v := ?_) rfl ?_ hHeld ?_
  rotate_left
  · (intro w hSw; (try dsimp only at hSw); go_simp; (try with_reducible rfl))
  try simp only [Act.put, pT]
  refine tY (i := 10) (v := ?_) rfl ?_ hHeld ?_
  rotate_left
  · (intro w hSw; (try dsimp only at hSw); go_simp; (try with_reducible rfl))
  try simp only [Act.put, pT]
  refine tU (i := 11) rfl hHeld ?_
  try simp only [Act.put, pT]
  refine tU (i := 12) rfl hHeld ?_
  try simp only [Act.put, pT]
  refine tU (i := 13) rfl hHeld ?_
  try simp only [Act.put, pT]
  refine tY (i := 14) (v := ?_) rfl ?_ hHeld ?_
  rotate_left
  · (intro w hSw; (try dsimp only at hSw); go_simp; (try with_reducible rfl))
  try simp only [Act.put, pT]
  refine tY (i := 15) (v := ?_) rfl ?_ hHeld ?_
  rotate_left
  · (intro w hSw; (try dsimp only at hSw); go_simp; (try with_reducible rfl))
  try simp only [Act.put, pT]
  refine tU (i := 16) rfl hHeld ?_
  try simp only [Act.put, pT]
  refine tU (i := 17) rfl hHeld ?_
  try simp only [Act.put, pT]
  refine tU (i := 18) rfl hHeld ?_
  try simp only [Act.put, pT]
  refine tU (i := 19) rfl hHeld ?_
  try simp only [Act.put, pT]
  refine tU (i := 20) rfl hHeld ?_
  try simp only [Act.put, pT]
  refine tY (i := 21) (v := ?_) rfl ?_ hHeld ?_
  rotate_left
  · (intro w hSw; (try dsimp only at hSw); go_simp; (try with_reducible rfl))
  try simp only [Act.put, pT]
  refine tY (i := 22) (v := ?_) rfl ?_ hHeld ?_
  rotate_left
  · (intro w hSw; (try dsimp only at hSw); go_simp; (try with_reducible rfl))
  try simp only [Act.put, pT]
  refine wpAnyH_done (by kernel_rfl) ?_ _
  clear hHeld
  go_wp2_with fail
  go_ret
  exact ⟨rfl, cc⟩

theorem nRight17_5 {w : World} {lr mu wd f D : Int} {ne : Bool} (hD : ((2 ^ f.toNat : Nat) : Int) = D) (q0 : ¬ f < 0) (q1 : ¬ 40 < f) (q2 : ¬ lr < 0) (q3 : 0 ≤ mu) (q4 : mu < D) (q5 : ¬ 0 ≤ wd) :
    Calls Try.prog 13 #[.agg #[.int .i64 lr, .int .i64 mu, .int .i64 wd, .bool ne], .int .i64 f] w (GotV w (.bool false)) := by
  have t0 : decide (f < 0) = false := decide_eq_false q0
  have t1 : decide (40 < f) = false := decide_eq_false q1
  have t2 : decide (lr < 0) = false := decide_eq_false q2
  have t3 : decide (0 ≤ mu) = true := decide_eq_true q3
  have t4 : decide (mu < D) = true := decide_eq_true q4
  have t5 : decide (0 ≤ wd) = false := decide_eq_false q5
  have CO := fun W : World => nOne17_N (w := W) (f := f) (by omega) (by omega)
  rw [hD] at CO
  clear q0 q1 q2 q3 q4 q5 hD
  have cc := Below.refl w.heap.size w
  go_enter Try.func13, Try.ntmps13
  go_wp2_with fail
  generalize hv_ : w.alloc (.cells #[.int .i64 lr, .int .i64 mu, .int .i64 wd, .bool ne] 23) = v1
  have bA : Below w.heap.size w v1 := by rw [← hv_]; exact ((Below.refl _ w).alloc (by simp) _)
  replace cc := bK cc bA
  clear bA
  have sc0 : v1.cell? ⟨w.heap.size, 0, none⟩ = some (.int .i64 lr) := by simp [← hv_, go_sem]
  have sc1 : v1.cell? ⟨w.heap.size, 1, none⟩ = some (.int .i64 mu) := by simp [← hv_, go_sem]
  have sc2 : v1.cell? ⟨w.heap.size, 2, none⟩ = some (.int .i64 wd) := by simp [← hv_, go_sem]
  have sc3 : v1.cell? ⟨w.heap.size, 3, none⟩ = some (.bool ne) := by simp [← hv_, go_sem]
  have scl : w.heap.size < v1.heap.size := by simp [← hv_] <;> omega
  clear hv_
  go_wp2_with fail
  have bD : Below v1.heap.size v1 v1.drew := below_drewN (Below.refl _ v1) 1
  rewrite [cR bD scl] at sc0 sc1 sc2 sc3
  replace scl := lK bD scl
  replace cc := bK cc bD
  clear bD
  refine wp_region_held_drew (S := fun w' => w'.cell? ⟨w.heap.size, 0, none⟩ = some (.int .i64 lr) ∧ w'.cell? ⟨w.heap.size, 1, none⟩ = some (.int .i64 mu) ∧ w'.cell? ⟨w.heap.size, 2, none⟩ = some (.int .i64 wd) ∧ w'.cell? ⟨w.heap.size, 3, none⟩ = some (.bool ne)) (by kernel_rfl) ?_ (fun hHeld => ?_)
  · exact ⟨sc0, sc1, sc2, sc3⟩
  refine tY (i := 0) (v := ?_) rfl ?_ hHeld ?_
  rotate_left
  · (intro w hSw; (try dsimp only at hSw); go_simp; (try with_reducible rfl))
  try simp only [Act.put, pT]
  refine tY (i := 1) (v := ?_) rfl ?_ hHeld ?_
  rotate_left
  · (intro w hSw; (try dsimp only at hSw); go_simp; (try with_reducible rfl))
  try simp only [Act.put, pT]
  refine tY (i := 2) (v := ?_) rfl ?_ hHeld ?_
  rotate_left
  · (intro w hSw; (try dsimp only at hSw); go_simp; (try with_reducible rfl))
  try simp only [Act.put, pT]
  refine tY (i := 3) (v := ?_) rfl ?_ hHeld ?_
  rotate_left
  · (intro w hSw; (try dsimp only at hSw); go_simp; (try with_reducible rfl))
  try simp only [Act.put, pT]
  refine tY (i := 4) (v := ?_) rfl ?_ hHeld ?_
  rotate_left
  · (intro w hSw; (try dsimp only at hSw); go_simp; (try with_reducible rfl))
  try simp only [Act.put, pT]
  refine tY (i := 5) (v := ?_) rfl ?_ hHeld ?_
  rotate_left
  · (intro w hSw; (try dsimp only at hSw); go_simp; (try with_reducible rfl))
  try simp only [Act.put, pT]
  refine tY (i := 6) (v := ?_) rfl ?_ hHeld ?_
  rotate_left
  · (intro w hSw; (try dsimp only at hSw); go_simp; (try with_reducible rfl))
  try simp only [Act.put, pT]
  refine wpAnyH_ready (rs := [7]) (by kernel_rfl) (by simp) ?_
  refine AllReadyH.cons rfl (fun K hK => ?_) AllReadyH.nil
  (try simp only [pT])
  rw [if_pos (by rfl)]
  go_simp
  go_at_call 26
  refine (CO _).mono ?_
  rintro e w2 ⟨rfl, b⟩
  rewrite [cR b scl] at sc0 sc1 sc2 sc3
  replace scl := lK b scl
  replace cc := bK cc b
  clear b
  refine hK.out _ _ ?_ (fun hHeld => ?_)
  · exact ⟨sc0, sc1, sc2, sc3⟩
  clear hK K
  try simp only [Act.put, pT]
  refine tY (i := 8) (v := ?_) rfl ?_ hHeld ?_
  rotate_left
  · (intro w hSw; (try dsimp only at hSw); go_simp; (try with_reducible rfl))
  try simp only [Act.put, pT]
  refine tY (i := 9) (v := ?_) rfl ?_ hHeld ?_
  rotate_left
  · (intro w hSw; (try dsimp only at hSw); go_simp; (try with_reducible rfl))
  try simp only [Act.put, pT]
  refine tY (i := 10) (v := ?_) rfl ?_ hHeld ?_
  rotate_left
  · (intro w hSw; (try dsimp only at hSw); go_simp; (try with_reducible rfl))
  try simp only [Act.put, pT]
  refine tY (i := 11) (v := ?_) rfl ?_ hHeld ?_
  rotate_left
  · (intro w hSw; (try dsimp only at hSw); go_simp; (try with_reducible rfl))
  try simp only [Act.put, pT]
  refine tY (i := 12) (v := ?_) rfl ?_ hHeld ?_
  rotate_left
  · (intro w hSw; (try dsimp only at hSw); go_simp; (try with_reducible rfl))
  try simp only [Act.put, pT]
  refine tY (i := 13) (v := ?_) rfl ?_ hHeld ?_
  rotate_left
  · (intro w hSw; (try dsimp only at hSw); go_simp; (try with_reducible rfl))
  try simp only [Act.put, pT]
  refine tY (i := 14) (v := ?_) rfl ?_ hHeld ?_
  rotate_left
  · (intro w hSw; (try dsimp only at hSw); go_simp; (try with_reducible rfl))
  try simp only [Act.put, pT]
  refine tY (i := 15) (v := ?_) rfl ?_ hHeld ?_
  rotate_left
  · (intro w hSw; (try dsimp only at hSw); go_simp; (try with_reducible rfl))
  try simp only [Act.put, pT]
  refine tU (i := 16) rfl hHeld ?_
  try simp only [Act.put, pT]
  refine tU (i := 17) rfl hHeld ?_
  try simp only [Act.put, pT]
  refine tU (i := 18) rfl hHeld ?_
  try simp only [Act.put, pT]
  refine tU (i := 19) rfl hHeld ?_
  try simp only [Act.put, pT]
  refine tU (i := 20) rfl hHeld ?_
  try simp only [Act.put, pT]
  refine tY (i := 21) (v := ?_) rfl ?_ hHeld ?_
  rotate_left
  · (intro w hSw; (try dsimp only at hSw); go_simp; (try with_reducible rfl))
  try simp only [Act.put, pT]
  refine tY (i := 22) (v := ?_) rfl ?_ hHeld ?_
  rotate_left
  · (intro w hSw; (try dsimp only at hSw); go_simp; (try with_reducible rfl))
  try simp only [Act.put, pT]
  refine wpAnyH_done (by kernel_rfl) ?_ _
  clear hHeld
  go_wp2_with fail
  go_ret
  exact ⟨rfl, cc⟩

theorem nRight17_6 {w : World} {lr mu wd f D : Int} {ne : Bool} (hD : ((2 ^ f.toNat : Nat) : Int) = D) (q0 : ¬ f < 0) (q1 : ¬ 40 < f) (q2 : ¬ lr < 0) (q3 : 0 ≤ mu) (q4 : mu < D) (q5 : 0 ≤ wd) (q6 : ¬ wd ≤ D) :
    Calls Try.prog 13 #[.agg #[.int .i64 lr, .int .i64 mu, .int .i64 wd, .bool ne], .int .i64 f] w (GotV w (.bool false)) := by
  have t0 : decide (f < 0) = false := decide_eq_false q0
  have t1 : decide (40 < f) = false := decide_eq_false q1
  have t2 : decide (lr < 0) = false := decide_eq_false q2
  have t3 : decide (0 ≤ mu) = true := decide_eq_true q3
  have t4 : decide (mu < D) = true := decide_eq_true q4
  have t5 : decide (0 ≤ wd) = true := decide_eq_true q5
  have t6 : decide (wd ≤ D) = false := decide_eq_false q6
  have CO := fun W : World => nOne17_N (w := W) (f := f) (by omega) (by omega)
  rw [hD] at CO
  clear q0 q1 q2 q3 q4 q5 q6 hD
  have cc := Below.refl w.heap.size w
  go_enter Try.func13, Try.ntmps13
  go_wp2_with fail
  generalize hv_ : w.alloc (.cells #[.int .i64 lr, .int .i64 mu, .int .i64 wd, .bool ne] 23) = v1
  have bA : Below w.heap.size w v1 := by rw [← hv_]; exact ((Below.refl _ w).alloc (by simp) _)
  replace cc := bK cc bA
  clear bA
  have sc0 : v1.cell? ⟨w.heap.size, 0, none⟩ = some (.int .i64 lr) := by simp [← hv_, go_sem]
  have sc1 : v1.cell? ⟨w.heap.size, 1, none⟩ = some (.int .i64 mu) := by simp [← hv_, go_sem]
  have sc2 : v1.cell? ⟨w.heap.size, 2, none⟩ = some (.int .i64 wd) := by simp [← hv_, go_sem]
  have sc3 : v1.cell? ⟨w.heap.size, 3, none⟩ = some (.bool ne) := by simp [← hv_, go_sem]
  have scl : w.heap.size < v1.heap.size := by simp [← hv_] <;> omega
  clear hv_
  go_wp2_with fail
  have bD : Below v1.heap.size v1 v1.drew := below_drewN (Below.refl _ v1) 1
  rewrite [cR bD scl] at sc0 sc1 sc2 sc3
  replace scl := lK bD scl
  replace cc := bK cc bD
  clear bD
  refine wp_region_held_drew (S := fun w' => w'.cell? ⟨w.heap.size, 0, none⟩ = some (.int .i64 lr) ∧ w'.cell? ⟨w.heap.size, 1, none⟩ = some (.int .i64 mu) ∧ w'.cell? ⟨w.heap.size, 2, none⟩ = some (.int .i64 wd) ∧ w'.cell? ⟨w.heap.size, 3, none⟩ = some (.bool ne)) (by kernel_rfl) ?_ (fun hHeld => ?_)
  · exact ⟨sc0, sc1, sc2, sc3⟩
  refine tY (i := 0) (v := ?_) rfl ?_ hHeld ?_
  rotate_left
  · (intro w hSw; (try dsimp only at hSw); go_simp; (try with_reducible rfl))
  try simp only [Act.put, pT]
  refine tY (i := 1) (v := ?_) rfl ?_ hHeld ?_
  rotate_left
  · (intro w hSw; (try dsimp only at hSw); go_simp; (try with_reducible rfl))
  try simp only [Act.put, pT]
  refine tY (i := 2) (v := ?_) rfl ?_ hHeld ?_
  rotate_left
  · (intro w hSw; (try dsimp only at hSw); go_simp; (try with_reducible rfl))
  try simp only [Act.put, pT]
  refine tY (i := 3) (v := ?_) rfl ?_ hHeld ?_
  rotate_left
  · (intro w hSw; (try dsimp only at hSw); go_simp; (try with_reducible rfl))
  try simp only [Act.put, pT]
  refine tY (i := 4) (v := ?_) rfl ?_ hHeld ?_
  rotate_left
  · (intro w hSw; (try dsimp only at hSw); go_simp; (try with_reducible rfl))
  try simp only [Act.put, pT]
  refine tY (i := 5) (v := ?_) rfl ?_ hHeld ?_
  rotate_left
  · (intro w hSw; (try dsimp only at hSw); go_simp; (try with_reducible rfl))
  try simp only [Act.put, pT]
  refine tY (i := 6) (v := ?_) rfl ?_ hHeld ?_
  rotate_left
  · (intro w hSw; (try dsimp only at hSw); go_simp; (try with_reducible rfl))
  try simp only [Act.put, pT]
  refine wpAnyH_ready (rs := [7]) (by kernel_rfl) (by simp) ?_
  refine AllReadyH.cons rfl (fun K hK => ?_) AllReadyH.nil
  (try simp only [pT])
  rw [if_pos (by rfl)]
  go_simp
  go_at_call 26
  refine (CO _).mono ?_
  rintro e w2 ⟨rfl, b⟩
  rewrite [cR b scl] at sc0 sc1 sc2 sc3
  replace scl := lK b scl
  replace cc := bK cc b
  clear b
  refine hK.out _ _ ?_ (fun hHeld => ?_)
  · exact ⟨sc0, sc1, sc2, sc3⟩
  clear hK K
  try simp only [Act.put, pT]
  refine tY (i := 8) (v := ?_) rfl ?_ hHeld ?_
  rotate_left
  · (intro w hSw; (try dsimp only at hSw); go_simp; (try with_reducible rfl))
  try simp only [Act.put, pT]
  refine tY (i := 9) (v := ?_) rfl ?_ hHeld ?_
  rotate_left
  · (intro w hSw; (try dsimp only at hSw); go_simp; (try with_reducible rfl))
  try simp only [Act.put, pT]
  refine tY (i := 10) (v := ?_) rfl ?_ hHeld ?_
  rotate_left
  · (intro w hSw; (try dsimp only at hSw); go_simp; (try with_reducible rfl))
  try simp only [Act.put, pT]
  refine tY (i := 11) (v := ?_) rfl ?_ hHeld ?_
  rotate_left
  · (intro w hSw; (try dsimp only at hSw); go_simp; (try with_reducible rfl))
  try simp only [Act.put, pT]
  refine tY (i := 12) (v := ?_) rfl ?_ hHeld ?_
  rotate_left
  · (intro w hSw; (try dsimp only at hSw); go_simp; (try with_reducible rfl))
  try simp only [Act.put, pT]
  refine tY (i := 13) (v := ?_) rfl ?_ hHeld ?_
  rotate_left
  · (intro w hSw; (try dsimp only at hSw); go_simp; (try with_reducible rfl))
  try simp only [Act.put, pT]
  refine tY (i := 14) (v := ?_) rfl ?_ hHeld ?_
  rotate_left
  · (intro w hSw; (try dsimp only at hSw); go_simp; (try with_reducible rfl))
  try simp only [Act.put, pT]
  refine tY (i := 15) (v := ?_) rfl ?_ hHeld ?_
  rotate_left
  · (intro w hSw; (try dsimp only at hSw); go_simp; (try with_reducible rfl))
  try simp only [Act.put, pT]
  refine tY (i := 16) (v := ?_) rfl ?_ hHeld ?_
  rotate_left
  · (intro w hSw; (try dsimp only at hSw); go_simp; (try with_reducible rfl))
  try simp only [Act.put, pT]
  refine tY (i := 17) (v := ?_) rfl ?_ hHeld ?_
  rotate_left
  · (intro w hSw; (try dsimp only at hSw); go_simp; (try with_reducible rfl))
  try simp only [Act.put, pT]
  refine tY (i := 18) (v := ?_) rfl ?_ hHeld ?_
  rotate_left
  · (intro w hSw; (try dsimp only at hSw); go_simp; (try with_reducible rfl))
  try simp only [Act.put, pT]
  refine wpAnyH_ready (rs := [19]) (by kernel_rfl) (by simp) ?_
  refine AllReadyH.cons rfl (fun K hK => ?_) AllReadyH.nil
  (try simp only [pT])
  rw [if_pos (by rfl)]
  go_simp
  go_at_call 26
  refine (CO _).mono ?_
  rintro e w3 ⟨rfl, b⟩
  rewrite [cR b scl] at sc0 sc1 sc2 sc3
  replace scl := lK b scl
  replace cc := bK cc b
  clear b
  refine hK.out _ _ ?_ (fun hHeld => ?_)
  · exact ⟨sc0, sc1, sc2, sc3⟩
  clear hK K
  try simp only [Act.put, pT]
  refine tY (i := 20) (v := ?_) rfl ?_ hHeld ?_
  rotate_left
  · (intro w hSw; (try dsimp only at hSw); go_simp; (try with_reducible rfl))
  try simp only [Act.put, pT]
  refine tY (i := 21) (v := ?_) rfl ?_ hHeld ?_
  rotate_left
  · (intro w hSw; (try dsimp only at hSw); go_simp; (try with_reducible rfl))
  try simp only [Act.put, pT]
  refine tY (i := 22) (v := ?_) rfl ?_ hHeld ?_
  rotate_left
  · (intro w hSw; (try dsimp only at hSw); go_simp; (try with_reducible rfl))
  try simp only [Act.put, pT]
  refine wpAnyH_done (by kernel_rfl) ?_ _
  clear hHeld
  go_wp2_with fail
  go_ret
  exact ⟨rfl, cc⟩

theorem nRight17_7 {w : World} {lr mu wd f D : Int} {ne : Bool} (hD : ((2 ^ f.toNat : Nat) : Int) = D) (q0 : ¬ f < 0) (q1 : ¬ 40 < f) (q2 : ¬ lr < 0) (q3 : 0 ≤ mu) (q4 : mu < D) (q5 : 0 ≤ wd) (q6 : wd ≤ D) :
    Calls Try.prog 13 #[.agg #[.int .i64 lr, .int .i64 mu, .int .i64 wd, .bool ne], .int .i64 f] w (GotV w (.bool true)) := by
  have t0 : decide (f < 0) = false := decide_eq_false q0
  have t1 : decide (40 < f) = false := decide_eq_false q1
  have t2 : decide (lr < 0) = false := decide_eq_false q2
  have t3 : decide (0 ≤ mu) = true := decide_eq_true q3
  have t4 : decide (mu < D) = true := decide_eq_true q4
  have t5 : decide (0 ≤ wd) = true := decide_eq_true q5
  have t6 : decide (wd ≤ D) = true := decide_eq_true q6
  have CO := fun W : World => nOne17_N (w := W) (f := f) (by omega) (by omega)
  rw [hD] at CO
  clear q0 q1 q2 q3 q4 q5 q6 hD
  have cc := Below.refl w.heap.size w
  go_enter Try.func13, Try.ntmps13
  go_wp2_with fail
  generalize hv_ : w.alloc (.cells #[.int .i64 lr, .int .i64 mu, .int .i64 wd, .bool ne] 23) = v1
  have bA : Below w.heap.size w v1 := by rw [← hv_]; exact ((Below.refl _ w).alloc (by simp) _)
  replace cc := bK cc bA
  clear bA
  have sc0 : v1.cell? ⟨w.heap.size, 0, none⟩ = some (.int .i64 lr) := by simp [← hv_, go_sem]
  have sc1 : v1.cell? ⟨w.heap.size, 1, none⟩ = some (.int .i64 mu) := by simp [← hv_, go_sem]
  have sc2 : v1.cell? ⟨w.heap.size, 2, none⟩ = some (.int .i64 wd) := by simp [← hv_, go_sem]
  have sc3 : v1.cell? ⟨w.heap.size, 3, none⟩ = some (.bool ne) := by simp [← hv_, go_sem]
  have scl : w.heap.size < v1.heap.size := by simp [← hv_] <;> omega
  clear hv_
  go_wp2_with fail
  have bD : Below v1.heap.size v1 v1.drew := below_drewN (Below.refl _ v1) 1
  rewrite [cR bD scl] at sc0 sc1 sc2 sc3
  replace scl := lK bD scl
  replace cc := bK cc bD
  clear bD
  refine wp_region_held_drew (S := fun w' => w'.cell? ⟨w.heap.size, 0, none⟩ = some (.int .i64 lr) ∧ w'.cell? ⟨w.heap.size, 1, none⟩ = some (.int .i64 mu) ∧ w'.cell? ⟨w.heap.size, 2, none⟩ = some (.int .i64 wd) ∧ w'.cell? ⟨w.heap.size, 3, none⟩ = some (.bool ne)) (by kernel_rfl) ?_ (fun hHeld => ?_)
  · exact ⟨sc0, sc1, sc2, sc3⟩
  refine tY (i := 0) (v := ?_) rfl ?_ hHeld ?_
  rotate_left
  · (intro w hSw; (try dsimp only at hSw); go_simp; (try with_reducible rfl))
  try simp only [Act.put, pT]
  refine tY (i := 1) (v := ?_) rfl ?_ hHeld ?_
  rotate_left
  · (intro w hSw; (try dsimp only at hSw); go_simp; (try with_reducible rfl))
  try simp only [Act.put, pT]
  refine tY (i := 2) (v := ?_) rfl ?_ hHeld ?_
  rotate_left
  · (intro w hSw; (try dsimp only at hSw); go_simp; (try with_reducible rfl))
  try simp only [Act.put, pT]
  refine tY (i := 3) (v := ?_) rfl ?_ hHeld ?_
  rotate_left
  · (intro w hSw; (try dsimp only at hSw); go_simp; (try with_reducible rfl))
  try simp only [Act.put, pT]
  refine tY (i := 4) (v := ?_) rfl ?_ hHeld ?_
  rotate_left
  · (intro w hSw; (try dsimp only at hSw); go_simp; (try with_reducible rfl))
  try simp only [Act.put, pT]
  refine tY (i := 5) (v := ?_) rfl ?_ hHeld ?_
  rotate_left
  · (intro w hSw; (try dsimp only at hSw); go_simp; (try with_reducible rfl))
  try simp only [Act.put, pT]
  refine tY (i := 6) (v := ?_) rfl ?_ hHeld ?_
  rotate_left
  · (intro w hSw; (try dsimp only at hSw); go_simp; (try with_reducible rfl))
  try simp only [Act.put, pT]
  refine wpAnyH_ready (rs := [7]) (by kernel_rfl) (by simp) ?_
  refine AllReadyH.cons rfl (fun K hK => ?_) AllReadyH.nil
  (try simp only [pT])
  rw [if_pos (by rfl)]
  go_simp
  go_at_call 26
  refine (CO _).mono ?_
  rintro e w2 ⟨rfl, b⟩
  rewrite [cR b scl] at sc0 sc1 sc2 sc3
  replace scl := lK b scl
  replace cc := bK cc b
  clear b
  refine hK.out _ _ ?_ (fun hHeld => ?_)
  · exact ⟨sc0, sc1, sc2, sc3⟩
  clear hK K
  try simp only [Act.put, pT]
  refine tY (i := 8) (v := ?_) rfl ?_ hHeld ?_
  rotate_left
  · (intro w hSw; (try dsimp only at hSw); go_simp; (try with_reducible rfl))
  try simp only [Act.put, pT]
  refine tY (i := 9) (v := ?_) rfl ?_ hHeld ?_
  rotate_left
  · (intro w hSw; (try dsimp only at hSw); go_simp; (try with_reducible rfl))
  try simp only [Act.put, pT]
  refine tY (i := 10) (v := ?_) rfl ?_ hHeld ?_
  rotate_left
  · (intro w hSw; (try dsimp only at hSw); go_simp; (try with_reducible rfl))
  try simp only [Act.put, pT]
  refine tY (i := 11) (v := ?_) rfl ?_ hHeld ?_
  rotate_left
  · (intro w hSw; (try dsimp only at hSw); go_simp; (try with_reducible rfl))
  try simp only [Act.put, pT]
  refine tY (i := 12) (v := ?_) rfl ?_ hHeld ?_
  rotate_left
  · (intro w hSw; (try dsimp only at hSw); go_simp; (try with_reducible rfl))
  try simp only [Act.put, pT]
  refine tY (i := 13) (v := ?_) rfl ?_ hHeld ?_
  rotate_left
  · (intro w hSw; (try dsimp only at hSw); go_simp; (try with_reducible rfl))
  try simp only [Act.put, pT]
  refine tY (i := 14) (v := ?_) rfl ?_ hHeld ?_
  rotate_left
  · (intro w hSw; (try dsimp only at hSw); go_simp; (try with_reducible rfl))
  try simp only [Act.put, pT]
  refine tY (i := 15) (v := ?_) rfl ?_ hHeld ?_
  rotate_left
  · (intro w hSw; (try dsimp only at hSw); go_simp; (try with_reducible rfl))
  try simp only [Act.put, pT]
  refine tY (i := 16) (v := ?_) rfl ?_ hHeld ?_
  rotate_left
  · (intro w hSw; (try dsimp only at hSw); go_simp; (try with_reducible rfl))
  try simp only [Act.put, pT]
  refine tY (i := 17) (v := ?_) rfl ?_ hHeld ?_
  rotate_left
  · (intro w hSw; (try dsimp only at hSw); go_simp; (try with_reducible rfl))
  try simp only [Act.put, pT]
  refine tY (i := 18) (v := ?_) rfl ?_ hHeld ?_
  rotate_left
  · (intro w hSw; (try dsimp only at hSw); go_simp; (try with_reducible rfl))
  try simp only [Act.put, pT]
  refine wpAnyH_ready (rs := [19]) (by kernel_rfl) (by simp) ?_
  refine AllReadyH.cons rfl (fun K hK => ?_) AllReadyH.nil
  (try simp only [pT])
  rw [if_pos (by rfl)]
  go_simp
  go_at_call 26
  refine (CO _).mono ?_
  rintro e w3 ⟨rfl, b⟩
  rewrite [cR b scl] at sc0 sc1 sc2 sc3
  replace scl := lK b scl
  replace cc := bK cc b
  clear b
  refine hK.out _ _ ?_ (fun hHeld => ?_)
  · exact ⟨sc0, sc1, sc2, sc3⟩
  clear hK K
  try simp only [Act.put, pT]
  refine tY (i := 20) (v := ?_) rfl ?_ hHeld ?_
  rotate_left
  · (intro w hSw; (try dsimp only at hSw); go_simp; (try with_reducible rfl))
  try simp only [Act.put, pT]
  refine tY (i := 21) (v := ?_) rfl ?_ hHeld ?_
  rotate_left
  · (intro w hSw; (try dsimp only at hSw); go_simp; (try with_reducible rfl))
  try simp only [Act.put, pT]
  refine tY (i := 22) (v := ?_) rfl ?_ hHeld ?_
  rotate_left
  · (intro w hSw; (try dsimp only at hSw); go_simp; (try with_reducible rfl))
  try simp only [Act.put, pT]
  refine wpAnyH_done (by kernel_rfl) ?_ _
  clear hHeld
  go_wp2_with fail
  go_ret
  exact ⟨rfl, cc⟩

theorem nRight17_N {w : World} {lr mu wd f : Int} {ne : Bool} : Calls Try.prog 13 #[.agg #[.int .i64 lr, .int .i64 mu, .int .i64 wd, .bool ne], .int .i64 f] w (GotV w (.bool (decide (OkM17 lr mu wd f)))) := by
  by_cases q0 : f < 0
  · rw [decide_eq_false (fun h => by have := h.1; omega)]; exact nRight17_0 q0
  by_cases q1 : 40 < f
  · rw [decide_eq_false (fun h => by have := h.2.1; omega)]; exact nRight17_1 q0 q1
  by_cases q2 : lr < 0
  · rw [decide_eq_false (fun h => by have := h.2.2.1; omega)]; exact nRight17_2 q0 q1 q2
  by_cases q3 : 0 ≤ mu
  rotate_left
  · rw [decide_eq_false (fun h => q3 h.2.2.2.1)]; exact nRight17_3 q0 q1 q2 q3
  by_cases q4 : mu < ((2 ^ f.toNat : Nat) : Int)
  rotate_left
  · rw [decide_eq_false (fun h => q4 h.2.2.2.2.1)]; exact nRight17_4 rfl q0 q1 q2 q3 q4
  by_cases q5 : 0 ≤ wd
  rotate_left
  · rw [decide_eq_false (fun h => q5 h.2.2.2.2.2.1)]; exact nRight17_5 rfl q0 q1 q2 q3 q4 q5
  by_cases q6 : wd ≤ ((2 ^ f.toNat : Nat) : Int)
  rotate_left
  · rw [decide_eq_false (fun h => q6 h.2.2.2.2.2.2)]; exact nRight17_6 rfl q0 q1 q2 q3 q4 q5 q6
  rw [decide_eq_true (show OkM17 lr mu wd f from ⟨by omega, by omega, by omega, q3, q4, q5, q6⟩)]
  exact nRight17_7 rfl q0 q1 q2 q3 q4 q5 q6

end Go.Proofs.Ytckdbcngnghhiaa
