/-
  The walk of FixNumbers.
-/
import Derived.Test.YtccigpnebejbiaaGreatA11
import Derived.Test.YtccigpnebejbiaaGreatA3
import Derived.Test.YtccigpnebejbiaaGreatA5
namespace Go.Proofs.YtccigpnebejbiaaGreat
set_option maxRecDepth 100000
open Go.RowKit
set_option linter.unusedVariables false
set_option linter.unusedSimpArgs false

set_option maxRecDepth 100000 in
set_option maxHeartbeats 8000000 in
theorem FixNumbers_few {w : World} {b0 : Bool} {A0 B0 : Option Addr} {n0 c0 m0 d0 : Nat} {a j : Int} (G0 : ∀ W : World, Below w.heap.size w W → Calls Tryz.prog 14 #[.agg #[.bool b0, .slice A0 n0 c0, .slice B0 m0 d0], .int .i64 4] W (GotV W (.bool false))) :
    Calls Tryz.prog 4 #[.agg #[.bool b0, .slice A0 n0 c0, .slice B0 m0 d0], .int .i64 a, .int .i64 j] w (fun e w' => e = .returned (.bool true) ∧ Below w.heap.size w w') := by
  have cc := Below.refl w.heap.size w
  go_enter Tryz.func4, Tryz.ntmps4
  go_wp2_with fail
  have bA : Below w.heap.size w (w.alloc (.cells #[.bool b0, .slice A0 n0 c0, .slice B0 m0 d0] 33)) := ((Below.refl _ w).alloc (by simp) _)
  replace cc := bK cc bA
  clear bA
  have ka0 : (w.alloc (.cells #[.bool b0, .slice A0 n0 c0, .slice B0 m0 d0] 33)).cell? ⟨w.heap.size, 0, none⟩ = some (.bool b0) := by simp [go_sem]
  have ka1 : (w.alloc (.cells #[.bool b0, .slice A0 n0 c0, .slice B0 m0 d0] 33)).cell? ⟨w.heap.size, 1, none⟩ = some (.slice A0 n0 c0) := by simp [go_sem]
  have ka2 : (w.alloc (.cells #[.bool b0, .slice A0 n0 c0, .slice B0 m0 d0] 33)).cell? ⟨w.heap.size, 2, none⟩ = some (.slice B0 m0 d0) := by simp [go_sem]
  have kal : w.heap.size < (w.alloc (.cells #[.bool b0, .slice A0 n0 c0, .slice B0 m0 d0] 33)).heap.size := by simp <;> omega
  generalize w.alloc (.cells #[.bool b0, .slice A0 n0 c0, .slice B0 m0 d0] 33) = v1 at *
  go_wp2_with fail
  refine (G0 _ cc).mono ?_
  rintro e w2 ⟨rfl, b⟩
  replace ka0 := cK b ka0 kal
  replace ka1 := cK b ka1 kal
  replace ka2 := cK b ka2 kal
  replace kal := lK b kal
  replace cc := bK cc b
  clear b
  go_wp2_with fail
  refine (alive8_any _).mono ?_
  rintro e w3 ⟨rfl, b⟩
  replace ka0 := cK b ka0 kal
  replace ka1 := cK b ka1 kal
  replace ka2 := cK b ka2 kal
  replace kal := lK b kal
  replace cc := bK cc b
  clear b
  go_wp2_with fail
  go_ret
  exact ⟨rfl, cc⟩

set_option maxRecDepth 100000 in
set_option maxHeartbeats 8000000 in
theorem FixNumbers_no {w : World} {b0 : Bool} {A0 B0 : Option Addr} {n0 c0 m0 d0 : Nat} {a j : Int} (G0 : ∀ W : World, Below w.heap.size w W → Calls Tryz.prog 14 #[.agg #[.bool b0, .slice A0 n0 c0, .slice B0 m0 d0], .int .i64 4] W (GotV W (.bool true))) {x0 : Rat} (h0 : Rt w b0 A0 n0 c0 B0 m0 d0 x0) {p e : Int} (C0 : ∀ W : World, Rt W b0 A0 n0 c0 B0 m0 d0 x0 → Calls Tryz.prog 15 #[.agg #[.bool b0, .slice A0 n0 c0, .slice B0 m0 d0], .int .i64 j] W (GotV W (.tuple #[.int .i64 (p), .int .i64 (e)]))) (R0 : ∀ W : World, Rt W b0 A0 n0 c0 B0 m0 d0 x0 → Calls Tryz.prog 16 #[.agg #[.bool b0, .slice A0 n0 c0, .slice B0 m0 d0], .int .i64 j] W (GotV W (.tuple #[.int .i64 (p), .int .i64 (e)]))) (C1 : ∀ W : World, Calls Tryz.prog 17 #[.int .i64 a, .int .i64 j] W (GotV W (.tuple #[.agg #[.bool false, .slice none 0 0, .slice none 0 0], .int .i64 1]))) (R1 : ∀ W : World, Calls Tryz.prog 18 #[.int .i64 a, .int .i64 j] W (GotV W (.tuple #[.agg #[.bool false, .slice none 0 0, .slice none 0 0], .int .i64 1]))) :
    Calls Tryz.prog 4 #[.agg #[.bool b0, .slice A0 n0 c0, .slice B0 m0 d0], .int .i64 a, .int .i64 j] w (fun e w' => e = .returned (.bool true) ∧ Below w.heap.size w w') := by
  have cc := Below.refl w.heap.size w
  go_enter Tryz.func4, Tryz.ntmps4
  go_wp2_with fail
  have bA : Below w.heap.size w (w.alloc (.cells #[.bool b0, .slice A0 n0 c0, .slice B0 m0 d0] 33)) := ((Below.refl _ w).alloc (by simp) _)
  replace h0 := h0.on bA
  replace cc := bK cc bA
  clear bA
  have ka0 : (w.alloc (.cells #[.bool b0, .slice A0 n0 c0, .slice B0 m0 d0] 33)).cell? ⟨w.heap.size, 0, none⟩ = some (.bool b0) := by simp [go_sem]
  have ka1 : (w.alloc (.cells #[.bool b0, .slice A0 n0 c0, .slice B0 m0 d0] 33)).cell? ⟨w.heap.size, 1, none⟩ = some (.slice A0 n0 c0) := by simp [go_sem]
  have ka2 : (w.alloc (.cells #[.bool b0, .slice A0 n0 c0, .slice B0 m0 d0] 33)).cell? ⟨w.heap.size, 2, none⟩ = some (.slice B0 m0 d0) := by simp [go_sem]
  have kal : w.heap.size < (w.alloc (.cells #[.bool b0, .slice A0 n0 c0, .slice B0 m0 d0] 33)).heap.size := by simp <;> omega
  generalize w.alloc (.cells #[.bool b0, .slice A0 n0 c0, .slice B0 m0 d0] 33) = v1 at *
  go_wp2_with fail
  refine (G0 _ cc).mono ?_
  rintro e w2 ⟨rfl, b⟩
  replace h0 := h0.on b
  replace ka0 := cK b ka0 kal
  replace ka1 := cK b ka1 kal
  replace ka2 := cK b ka2 kal
  replace kal := lK b kal
  replace cc := bK cc b
  clear b
  go_wp2_with fail
  refine (C0 _ h0).mono ?_
  rintro e w3 ⟨rfl, b⟩
  replace h0 := h0.on b
  replace ka0 := cK b ka0 kal
  replace ka1 := cK b ka1 kal
  replace ka2 := cK b ka2 kal
  replace kal := lK b kal
  replace cc := bK cc b
  clear b
  go_wp2_with fail
  refine (R0 _ h0).mono ?_
  rintro e w4 ⟨rfl, b⟩
  replace h0 := h0.on b
  replace ka0 := cK b ka0 kal
  replace ka1 := cK b ka1 kal
  replace ka2 := cK b ka2 kal
  replace kal := lK b kal
  replace cc := bK cc b
  clear b
  go_wp2_with fail
  refine (C1 _).mono ?_
  rintro e w5 ⟨rfl, b⟩
  replace h0 := h0.on b
  replace ka0 := cK b ka0 kal
  replace ka1 := cK b ka1 kal
  replace ka2 := cK b ka2 kal
  replace kal := lK b kal
  replace cc := bK cc b
  clear b
  go_wp2_with fail
  have bA := below_one w5 (.cells #[.bool false, .slice none 0 0, .slice none 0 0] 33)
  replace h0 := h0.on bA
  replace ka0 := cK bA ka0 kal
  replace ka1 := cK bA ka1 kal
  replace ka2 := cK bA ka2 kal
  replace kal := lK bA kal
  replace cc := bK cc bA
  clear bA
  have xa0 : (w5.alloc (.cells #[.bool false, .slice none 0 0, .slice none 0 0] 33)).cell? ⟨w5.heap.size, 0, none⟩ = some (.bool false) := by simp [go_sem]
  have xa1 : (w5.alloc (.cells #[.bool false, .slice none 0 0, .slice none 0 0] 33)).cell? ⟨w5.heap.size, 1, none⟩ = some (.slice none 0 0) := by simp [go_sem]
  have xa2 : (w5.alloc (.cells #[.bool false, .slice none 0 0, .slice none 0 0] 33)).cell? ⟨w5.heap.size, 2, none⟩ = some (.slice none 0 0) := by simp [go_sem]
  have xal : w5.heap.size < (w5.alloc (.cells #[.bool false, .slice none 0 0, .slice none 0 0] 33)).heap.size := by simp
  generalize w5.alloc (.cells #[.bool false, .slice none 0 0, .slice none 0 0] 33) = v6 at *
  go_wp2_with fail
  refine (R1 _).mono ?_
  rintro e w7 ⟨rfl, b⟩
  replace h0 := h0.on b
  replace ka0 := cK b ka0 kal
  replace ka1 := cK b ka1 kal
  replace ka2 := cK b ka2 kal
  replace kal := lK b kal
  replace xa0 := cK b xa0 xal
  replace xa1 := cK b xa1 xal
  replace xa2 := cK b xa2 xal
  replace xal := lK b xal
  replace cc := bK cc b
  clear b
  go_wp2_with fail
  have bA := below_one w7 (.cells #[.bool false, .slice none 0 0, .slice none 0 0] 33)
  replace h0 := h0.on bA
  replace ka0 := cK bA ka0 kal
  replace ka1 := cK bA ka1 kal
  replace ka2 := cK bA ka2 kal
  replace kal := lK bA kal
  replace xa0 := cK bA xa0 xal
  replace xa1 := cK bA xa1 xal
  replace xa2 := cK bA xa2 xal
  replace xal := lK bA xal
  replace cc := bK cc bA
  clear bA
  have xb0 : (w7.alloc (.cells #[.bool false, .slice none 0 0, .slice none 0 0] 33)).cell? ⟨w7.heap.size, 0, none⟩ = some (.bool false) := by simp [go_sem]
  have xb1 : (w7.alloc (.cells #[.bool false, .slice none 0 0, .slice none 0 0] 33)).cell? ⟨w7.heap.size, 1, none⟩ = some (.slice none 0 0) := by simp [go_sem]
  have xb2 : (w7.alloc (.cells #[.bool false, .slice none 0 0, .slice none 0 0] 33)).cell? ⟨w7.heap.size, 2, none⟩ = some (.slice none 0 0) := by simp [go_sem]
  have xbl : w7.heap.size < (w7.alloc (.cells #[.bool false, .slice none 0 0, .slice none 0 0] 33)).heap.size := by simp
  generalize w7.alloc (.cells #[.bool false, .slice none 0 0, .slice none 0 0] 33) = v8 at *
  go_wp2_with fail
  refine (alive8_any _).mono ?_
  rintro e w9 ⟨rfl, b⟩
  replace h0 := h0.on b
  replace ka0 := cK b ka0 kal
  replace ka1 := cK b ka1 kal
  replace ka2 := cK b ka2 kal
  replace kal := lK b kal
  replace xa0 := cK b xa0 xal
  replace xa1 := cK b xa1 xal
  replace xa2 := cK b xa2 xal
  replace xal := lK b xal
  replace xb0 := cK b xb0 xbl
  replace xb1 := cK b xb1 xbl
  replace xb2 := cK b xb2 xbl
  replace xbl := lK b xbl
  replace cc := bK cc b
  clear b
  go_wp2_with fail
  refine (rtsame_none _).mono ?_
  rintro e w10 ⟨rfl, b⟩
  replace h0 := h0.on b
  replace ka0 := cK b ka0 kal
  replace ka1 := cK b ka1 kal
  replace ka2 := cK b ka2 kal
  replace kal := lK b kal
  replace xa0 := cK b xa0 xal
  replace xa1 := cK b xa1 xal
  replace xa2 := cK b xa2 xal
  replace xal := lK b xal
  replace xb0 := cK b xb0 xbl
  replace xb1 := cK b xb1 xbl
  replace xb2 := cK b xb2 xbl
  replace xbl := lK b xbl
  replace cc := bK cc b
  clear b
  go_wp2_with fail
  go_ret
  exact ⟨rfl, cc⟩

set_option maxRecDepth 100000 in
set_option maxHeartbeats 8000000 in
theorem FixNumbers_ok {w : World} {b0 : Bool} {A0 B0 : Option Addr} {n0 c0 m0 d0 : Nat} {a j : Int} (G0 : ∀ W : World, Below w.heap.size w W → Calls Tryz.prog 14 #[.agg #[.bool b0, .slice A0 n0 c0, .slice B0 m0 d0], .int .i64 4] W (GotV W (.bool true))) {x0 : Rat} (h0 : Rt w b0 A0 n0 c0 B0 m0 d0 x0) {p e : Int} (C0 : ∀ W : World, Rt W b0 A0 n0 c0 B0 m0 d0 x0 → Calls Tryz.prog 15 #[.agg #[.bool b0, .slice A0 n0 c0, .slice B0 m0 d0], .int .i64 j] W (GotV W (.tuple #[.int .i64 (p), .int .i64 (e)]))) (R0 : ∀ W : World, Rt W b0 A0 n0 c0 B0 m0 d0 x0 → Calls Tryz.prog 16 #[.agg #[.bool b0, .slice A0 n0 c0, .slice B0 m0 d0], .int .i64 j] W (GotV W (.tuple #[.int .i64 (p), .int .i64 (e)]))) {y : Rat} (sy : Sz y 8) (C1 : ∀ W : World, Calls Tryz.prog 17 #[.int .i64 a, .int .i64 j] W (GotRp W y 0)) (R1 : ∀ W : World, Calls Tryz.prog 18 #[.int .i64 a, .int .i64 j] W (GotRp W y 0)) :
    Calls Tryz.prog 4 #[.agg #[.bool b0, .slice A0 n0 c0, .slice B0 m0 d0], .int .i64 a, .int .i64 j] w (fun e w' => e = .returned (.bool true) ∧ Below w.heap.size w w') := by
  have cc := Below.refl w.heap.size w
  go_enter Tryz.func4, Tryz.ntmps4
  go_wp2_with fail
  have bA : Below w.heap.size w (w.alloc (.cells #[.bool b0, .slice A0 n0 c0, .slice B0 m0 d0] 33)) := ((Below.refl _ w).alloc (by simp) _)
  replace h0 := h0.on bA
  replace cc := bK cc bA
  clear bA
  have ka0 : (w.alloc (.cells #[.bool b0, .slice A0 n0 c0, .slice B0 m0 d0] 33)).cell? ⟨w.heap.size, 0, none⟩ = some (.bool b0) := by simp [go_sem]
  have ka1 : (w.alloc (.cells #[.bool b0, .slice A0 n0 c0, .slice B0 m0 d0] 33)).cell? ⟨w.heap.size, 1, none⟩ = some (.slice A0 n0 c0) := by simp [go_sem]
  have ka2 : (w.alloc (.cells #[.bool b0, .slice A0 n0 c0, .slice B0 m0 d0] 33)).cell? ⟨w.heap.size, 2, none⟩ = some (.slice B0 m0 d0) := by simp [go_sem]
  have kal : w.heap.size < (w.alloc (.cells #[.bool b0, .slice A0 n0 c0, .slice B0 m0 d0] 33)).heap.size := by simp <;> omega
  generalize w.alloc (.cells #[.bool b0, .slice A0 n0 c0, .slice B0 m0 d0] 33) = v1 at *
  go_wp2_with fail
  refine (G0 _ cc).mono ?_
  rintro e w2 ⟨rfl, b⟩
  replace h0 := h0.on b
  replace ka0 := cK b ka0 kal
  replace ka1 := cK b ka1 kal
  replace ka2 := cK b ka2 kal
  replace kal := lK b kal
  replace cc := bK cc b
  clear b
  go_wp2_with fail
  refine (C0 _ h0).mono ?_
  rintro e w3 ⟨rfl, b⟩
  replace h0 := h0.on b
  replace ka0 := cK b ka0 kal
  replace ka1 := cK b ka1 kal
  replace ka2 := cK b ka2 kal
  replace kal := lK b kal
  replace cc := bK cc b
  clear b
  go_wp2_with fail
  refine (R0 _ h0).mono ?_
  rintro e w4 ⟨rfl, b⟩
  replace h0 := h0.on b
  replace ka0 := cK b ka0 kal
  replace ka1 := cK b ka1 kal
  replace ka2 := cK b ka2 kal
  replace kal := lK b kal
  replace cc := bK cc b
  clear b
  go_wp2_with fail
  refine (C1 _).mono ?_
  rintro e w5 ⟨bu, Au, nu, cu, Bu, mu, du, rfl, hu, b⟩
  replace h0 := h0.on b
  replace ka0 := cK b ka0 kal
  replace ka1 := cK b ka1 kal
  replace ka2 := cK b ka2 kal
  replace kal := lK b kal
  replace cc := bK cc b
  clear b
  go_wp2_with fail
  have bA := below_one w5 (.cells #[.bool bu, .slice Au nu cu, .slice Bu mu du] 33)
  replace h0 := h0.on bA
  replace hu := hu.on bA
  replace ka0 := cK bA ka0 kal
  replace ka1 := cK bA ka1 kal
  replace ka2 := cK bA ka2 kal
  replace kal := lK bA kal
  replace cc := bK cc bA
  clear bA
  have xa0 : (w5.alloc (.cells #[.bool bu, .slice Au nu cu, .slice Bu mu du] 33)).cell? ⟨w5.heap.size, 0, none⟩ = some (.bool bu) := by simp [go_sem]
  have xa1 : (w5.alloc (.cells #[.bool bu, .slice Au nu cu, .slice Bu mu du] 33)).cell? ⟨w5.heap.size, 1, none⟩ = some (.slice Au nu cu) := by simp [go_sem]
  have xa2 : (w5.alloc (.cells #[.bool bu, .slice Au nu cu, .slice Bu mu du] 33)).cell? ⟨w5.heap.size, 2, none⟩ = some (.slice Bu mu du) := by simp [go_sem]
  have xal : w5.heap.size < (w5.alloc (.cells #[.bool bu, .slice Au nu cu, .slice Bu mu du] 33)).heap.size := by simp
  generalize w5.alloc (.cells #[.bool bu, .slice Au nu cu, .slice Bu mu du] 33) = v6 at *
  go_wp2_with fail
  refine (R1 _).mono ?_
  rintro e w7 ⟨bv, Av, nv, cv, Bv, mv, dv, rfl, hv, b⟩
  replace h0 := h0.on b
  replace hu := hu.on b
  replace ka0 := cK b ka0 kal
  replace ka1 := cK b ka1 kal
  replace ka2 := cK b ka2 kal
  replace kal := lK b kal
  replace xa0 := cK b xa0 xal
  replace xa1 := cK b xa1 xal
  replace xa2 := cK b xa2 xal
  replace xal := lK b xal
  replace cc := bK cc b
  clear b
  go_wp2_with fail
  have bA := below_one w7 (.cells #[.bool bv, .slice Av nv cv, .slice Bv mv dv] 33)
  replace h0 := h0.on bA
  replace hu := hu.on bA
  replace hv := hv.on bA
  replace ka0 := cK bA ka0 kal
  replace ka1 := cK bA ka1 kal
  replace ka2 := cK bA ka2 kal
  replace kal := lK bA kal
  replace xa0 := cK bA xa0 xal
  replace xa1 := cK bA xa1 xal
  replace xa2 := cK bA xa2 xal
  replace xal := lK bA xal
  replace cc := bK cc bA
  clear bA
  have xb0 : (w7.alloc (.cells #[.bool bv, .slice Av nv cv, .slice Bv mv dv] 33)).cell? ⟨w7.heap.size, 0, none⟩ = some (.bool bv) := by simp [go_sem]
  have xb1 : (w7.alloc (.cells #[.bool bv, .slice Av nv cv, .slice Bv mv dv] 33)).cell? ⟨w7.heap.size, 1, none⟩ = some (.slice Av nv cv) := by simp [go_sem]
  have xb2 : (w7.alloc (.cells #[.bool bv, .slice Av nv cv, .slice Bv mv dv] 33)).cell? ⟨w7.heap.size, 2, none⟩ = some (.slice Bv mv dv) := by simp [go_sem]
  have xbl : w7.heap.size < (w7.alloc (.cells #[.bool bv, .slice Av nv cv, .slice Bv mv dv] 33)).heap.size := by simp
  generalize w7.alloc (.cells #[.bool bv, .slice Av nv cv, .slice Bv mv dv] 33) = v8 at *
  go_wp2_with fail
  refine (alive8_any _).mono ?_
  rintro e w9 ⟨rfl, b⟩
  replace h0 := h0.on b
  replace hu := hu.on b
  replace hv := hv.on b
  replace ka0 := cK b ka0 kal
  replace ka1 := cK b ka1 kal
  replace ka2 := cK b ka2 kal
  replace kal := lK b kal
  replace xa0 := cK b xa0 xal
  replace xa1 := cK b xa1 xal
  replace xa2 := cK b xa2 xal
  replace xal := lK b xal
  replace xb0 := cK b xb0 xbl
  replace xb1 := cK b xb1 xbl
  replace xb2 := cK b xb2 xbl
  replace xbl := lK b xbl
  replace cc := bK cc b
  clear b
  go_wp2_with fail
  refine (rtsame_self hu (sy.le (by omega)) hv).mono ?_
  rintro e w10 ⟨rfl, b⟩
  replace h0 := h0.on b
  replace hu := hu.on b
  replace hv := hv.on b
  replace ka0 := cK b ka0 kal
  replace ka1 := cK b ka1 kal
  replace ka2 := cK b ka2 kal
  replace kal := lK b kal
  replace xa0 := cK b xa0 xal
  replace xa1 := cK b xa1 xal
  replace xa2 := cK b xa2 xal
  replace xal := lK b xal
  replace xb0 := cK b xb0 xbl
  replace xb1 := cK b xb1 xbl
  replace xb2 := cK b xb2 xbl
  replace xbl := lK b xbl
  replace cc := bK cc b
  clear b
  go_wp2_with fail
  go_ret
  exact ⟨rfl, cc⟩

set_option maxRecDepth 100000 in
set_option maxHeartbeats 8000000 in
theorem FixNumbers_walk {w : World} (b0 : Bool) {A0 : Option Addr} {n0 c0 : Nat} {l : List Nat} {B0 : Option Addr} {m0 d0 : Nat} {l2 : List Nat} (hl : Lim w.heap.size w A0 n0 c0 l) (hm : Lim w.heap.size w B0 m0 d0 l2) (a : Int) (wa : (Lit.int .i64 a).wf = true) (j : Int) (wj : (Lit.int .i64 j).wf = true) :
    Calls Tryz.prog 4 #[.agg #[.bool b0, .slice A0 n0 c0, .slice B0 m0 d0], .int .i64 a, .int .i64 j] w (fun e w' => e = .returned (.bool true) ∧ Below w.heap.size w w') := by
  have ha := i64_wf wa
  cases e1 : (decide ((n0 : Int) ≤ ((4 : Nat) : Int)) && (decide ((m0 : Int) ≤ ((4 : Nat) : Int)) && okR b0 n0 l m0 l2)) with
  | false => exact FixNumbers_few (fun W hW => rtfew_any (hl.on hW) (hm.on hW) 4 (by omega) false e1)
  | true =>
    obtain ⟨x, hx, sx⟩ := few_rt 4 hl hm e1
    have G := fun (W : World) (hW : Below w.heap.size w W) => rtfew_any (hl.on hW) (hm.on hW) 4 (by omega) true e1
    by_cases hj : j < 0 ∨ 40 < j
    · exact FixNumbers_no G hx (fun W h => fof_no h (sx.le (by omega)) hj) (fun W h => rof8_no hj) (fun W => frat_no ha hj) (fun W => rrat8_no hj)
    · have j0 : 0 ≤ j := by omega
      have j1 : j ≤ 40 := by omega
      exact FixNumbers_ok G hx (fun W h => fof_N h (sx.le (by omega)) j0 j1) (fun W h => rof8_N h (sx.le (by omega)) j0 j1) (bak_sz8 ha (by omega)) (fun W => frat_N ha j0 j1) (fun W => rrat8_N ha j0 j1)

end Go.Proofs.YtccigpnebejbiaaGreat
