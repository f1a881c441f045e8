/-
  The walk of ZedBack.
-/
import Derived.Test.YtdaohhbdhmmihaaDoorA6
namespace Go.Proofs.YtdaohhbdhmmihaaDoor
open Go.RowKit
set_option linter.unusedVariables false

set_option maxRecDepth 100000 in
set_option maxHeartbeats 8000000 in
theorem ZedBack_no {w : World} {b0 : Bool} {a0 : Option Addr} {len0 cap0 : Nat} (ht : Tab w) (s : ByteArray) (G : ∀ W : World, Below w.heap.size w W → Calls Tryd.prog 24 #[.agg #[.bool b0, .slice a0 len0 cap0], .int .i64 10] W (GotV W (.bool false))) :
    Calls Tryd.prog 5 #[.agg #[.bool b0, .slice a0 len0 cap0], .string s] w fun e w' => e = .returned (.bool true) ∧ Below w.heap.size w w' := by
  have cc := Below.refl w.heap.size w
  go_enter Tryd.func5, Tryd.ntmps5
  go_wp2_with fail
  have bA := below_one w (.cells #[.bool b0, .slice a0 len0 cap0] 25)
  replace cc := cc.trans (bA.mono cc.size)
  clear bA
  have p0 : (w.alloc (.cells #[.bool b0, .slice a0 len0 cap0] 25)).cell? ⟨w.heap.size, 0, none⟩ = some (.bool b0) := by simp [go_sem]
  have p1 : (w.alloc (.cells #[.bool b0, .slice a0 len0 cap0] 25)).cell? ⟨w.heap.size, 1, none⟩ = some (.slice a0 len0 cap0) := by simp [go_sem]
  have pl : w.heap.size < (w.alloc (.cells #[.bool b0, .slice a0 len0 cap0] 25)).heap.size := by simp
  generalize w.alloc (.cells #[.bool b0, .slice a0 len0 cap0] 25) = v1 at *
  refine (G _ cc).mono ?_
  rintro e w20 ⟨rfl, b⟩
  replace p0 := (b.cell (p := ⟨w.heap.size, 0, none⟩) pl).trans p0
  replace p1 := (b.cell (p := ⟨w.heap.size, 1, none⟩) pl).trans p1
  replace pl := Nat.lt_of_lt_of_le pl b.size
  replace cc := cc.trans (b.mono cc.size)
  clear b
  go_wp2_with fail
  refine (alive_any _ (ht.on cc)).mono ?_
  rintro e w2 ⟨rfl, b⟩
  replace p0 := (b.cell (p := ⟨w.heap.size, 0, none⟩) pl).trans p0
  replace p1 := (b.cell (p := ⟨w.heap.size, 1, none⟩) pl).trans p1
  replace pl := Nat.lt_of_lt_of_le pl b.size
  replace cc := cc.trans (b.mono cc.size)
  clear b
  go_wp2_with fail
  go_ret
  exact ⟨rfl, cc⟩

set_option maxRecDepth 100000 in
set_option maxHeartbeats 8000000 in
theorem ZedBack_long {w : World} {b0 : Bool} {a0 : Option Addr} {len0 cap0 : Nat} (ht : Tab w) (s : ByteArray) (hs : s.size ≤ 9223372036854775807) (hl : 400 < s.size) (G : ∀ W : World, Below w.heap.size w W → Calls Tryd.prog 24 #[.agg #[.bool b0, .slice a0 len0 cap0], .int .i64 10] W (GotV W (.bool true))) :
    Calls Tryd.prog 5 #[.agg #[.bool b0, .slice a0 len0 cap0], .string s] w fun e w' => e = .returned (.bool true) ∧ Below w.heap.size w w' := by
  have hi : (400 : Int) < (s.size : Int) := by omega
  have cc := Below.refl w.heap.size w
  go_enter Tryd.func5, Tryd.ntmps5
  go_wp2_with fail
  have bA := below_one w (.cells #[.bool b0, .slice a0 len0 cap0] 25)
  replace cc := cc.trans (bA.mono cc.size)
  clear bA
  have p0 : (w.alloc (.cells #[.bool b0, .slice a0 len0 cap0] 25)).cell? ⟨w.heap.size, 0, none⟩ = some (.bool b0) := by simp [go_sem]
  have p1 : (w.alloc (.cells #[.bool b0, .slice a0 len0 cap0] 25)).cell? ⟨w.heap.size, 1, none⟩ = some (.slice a0 len0 cap0) := by simp [go_sem]
  have pl : w.heap.size < (w.alloc (.cells #[.bool b0, .slice a0 len0 cap0] 25)).heap.size := by simp
  generalize w.alloc (.cells #[.bool b0, .slice a0 len0 cap0] 25) = v1 at *
  refine (G _ cc).mono ?_
  rintro e w20 ⟨rfl, b⟩
  replace p0 := (b.cell (p := ⟨w.heap.size, 0, none⟩) pl).trans p0
  replace p1 := (b.cell (p := ⟨w.heap.size, 1, none⟩) pl).trans p1
  replace pl := Nat.lt_of_lt_of_le pl b.size
  replace cc := cc.trans (b.mono cc.size)
  clear b
  go_wp2_with fail
  refine (alive_any _ (ht.on cc)).mono ?_
  rintro e w2 ⟨rfl, b⟩
  replace p0 := (b.cell (p := ⟨w.heap.size, 0, none⟩) pl).trans p0
  replace p1 := (b.cell (p := ⟨w.heap.size, 1, none⟩) pl).trans p1
  replace pl := Nat.lt_of_lt_of_le pl b.size
  replace cc := cc.trans (b.mono cc.size)
  clear b
  go_wp2_with fail
  go_ret
  exact ⟨rfl, cc⟩

set_option maxRecDepth 100000 in
set_option maxHeartbeats 8000000 in
theorem ZedBack_ok {w : World} {b0 : Bool} {a0 : Option Addr} {len0 cap0 : Nat} (ht : Tab w) {z : Int} (s : ByteArray) (h0 : Zn w b0 a0 len0 cap0 z) (lx : (limbs z.natAbs).length ≤ 10) (hs : s.size ≤ 400) (z' : Int) (lz : (limbs z'.natAbs).length ≤ 300) (HR : Hid (readT s.data.toList = (z', 0, 0))) (HT : Hid (ByteArray.mk (textZ z').toArray = s)) (G : ∀ W : World, Below w.heap.size w W → Calls Tryd.prog 24 #[.agg #[.bool b0, .slice a0 len0 cap0], .int .i64 10] W (GotV W (.bool true))) :
    Calls Tryd.prog 5 #[.agg #[.bool b0, .slice a0 len0 cap0], .string s] w fun e w' => e = .returned (.bool true) ∧ Below w.heap.size w w' := by
  have cc := Below.refl w.heap.size w
  have hi : ¬ (400 : Int) < (s.size : Int) := by omega
  have lx3 : (limbs z.natAbs).length ≤ 300 := by omega
  have ltx : (textZ z).length ≤ 201 := textZ_len (m := 10) (by omega) lx
  go_enter Tryd.func5, Tryd.ntmps5
  go_wp2_with fail
  have bA := below_one w (.cells #[.bool b0, .slice a0 len0 cap0] 25)
  replace h0 := h0.on bA
  replace cc := cc.trans (bA.mono cc.size)
  clear bA
  have p0 : (w.alloc (.cells #[.bool b0, .slice a0 len0 cap0] 25)).cell? ⟨w.heap.size, 0, none⟩ = some (.bool b0) := by simp [go_sem]
  have p1 : (w.alloc (.cells #[.bool b0, .slice a0 len0 cap0] 25)).cell? ⟨w.heap.size, 1, none⟩ = some (.slice a0 len0 cap0) := by simp [go_sem]
  have pl : w.heap.size < (w.alloc (.cells #[.bool b0, .slice a0 len0 cap0] 25)).heap.size := by simp
  generalize w.alloc (.cells #[.bool b0, .slice a0 len0 cap0] 25) = v1 at *
  refine (G _ cc).mono ?_
  rintro e w20 ⟨rfl, b⟩
  replace h0 := h0.on b
  replace p0 := (b.cell (p := ⟨w.heap.size, 0, none⟩) pl).trans p0
  replace p1 := (b.cell (p := ⟨w.heap.size, 1, none⟩) pl).trans p1
  replace pl := Nat.lt_of_lt_of_le pl b.size
  replace cc := cc.trans (b.mono cc.size)
  clear b
  go_wp2_with fail
  refine (zprint_N h0 lx3 (ht.on cc)).mono ?_
  rintro e w21 ⟨t, rfl, ht, b⟩
  rw [str_of ht]
  replace h0 := h0.on b
  replace p0 := (b.cell (p := ⟨w.heap.size, 0, none⟩) pl).trans p0
  replace p1 := (b.cell (p := ⟨w.heap.size, 1, none⟩) pl).trans p1
  replace pl := Nat.lt_of_lt_of_le pl b.size
  replace cc := cc.trans (b.mono cc.size)
  clear b
  have hrd := read_text z (by omega)
  have HRD := Lib.hid hrd
  clear hrd ht
  go_wp2_with fail
  refine (zread_N ⟨(textZ z).toArray⟩ w21 (by rw [str_size]; omega)).mono ?_
  intro e w22 hr
  obtain ⟨b1, A1, n1, k1, rfl, hx, b⟩ := GotR_of hr HRD.out
  clear hr
  replace h0 := h0.on b
  replace p0 := (b.cell (p := ⟨w.heap.size, 0, none⟩) pl).trans p0
  replace p1 := (b.cell (p := ⟨w.heap.size, 1, none⟩) pl).trans p1
  replace pl := Nat.lt_of_lt_of_le pl b.size
  replace cc := cc.trans (b.mono cc.size)
  clear b
  go_wp2_with fail
  have bA := below_one w22 (.cells #[.bool b1, .slice A1 n1 k1] 25)
  replace h0 := h0.on bA
  replace hx := hx.on bA
  replace p0 := (bA.cell (p := ⟨w.heap.size, 0, none⟩) pl).trans p0
  replace p1 := (bA.cell (p := ⟨w.heap.size, 1, none⟩) pl).trans p1
  replace pl := Nat.lt_of_lt_of_le pl bA.size
  replace cc := cc.trans (bA.mono cc.size)
  clear bA
  have x0 : (w22.alloc (.cells #[.bool b1, .slice A1 n1 k1] 25)).cell? ⟨w22.heap.size, 0, none⟩ = some (.bool b1) := by simp [go_sem]
  have x1 : (w22.alloc (.cells #[.bool b1, .slice A1 n1 k1] 25)).cell? ⟨w22.heap.size, 1, none⟩ = some (.slice A1 n1 k1) := by simp [go_sem]
  have xl : w22.heap.size < (w22.alloc (.cells #[.bool b1, .slice A1 n1 k1] 25)).heap.size := by simp
  generalize w22.alloc (.cells #[.bool b1, .slice A1 n1 k1] 25) = v23 at *
  go_wp2_with fail
  refine (zsame_N true hx h0 (by omega) (by omega) (by simp)).mono ?_
  rintro e w24 ⟨rfl, b⟩
  replace h0 := h0.on b
  replace hx := hx.on b
  replace p0 := (b.cell (p := ⟨w.heap.size, 0, none⟩) pl).trans p0
  replace p1 := (b.cell (p := ⟨w.heap.size, 1, none⟩) pl).trans p1
  replace pl := Nat.lt_of_lt_of_le pl b.size
  replace x0 := (b.cell (p := ⟨w22.heap.size, 0, none⟩) xl).trans x0
  replace x1 := (b.cell (p := ⟨w22.heap.size, 1, none⟩) xl).trans x1
  replace xl := Nat.lt_of_lt_of_le xl b.size
  replace cc := cc.trans (b.mono cc.size)
  clear b
  go_wp2_with fail
  refine (zread_N s _ (by omega)).mono ?_
  intro e w40 hr
  obtain ⟨b2, A2, n2, k2, rfl, hy, b⟩ := GotR_of hr HR.out
  clear hr
  replace h0 := h0.on b
  replace hx := hx.on b
  replace p0 := (b.cell (p := ⟨w.heap.size, 0, none⟩) pl).trans p0
  replace p1 := (b.cell (p := ⟨w.heap.size, 1, none⟩) pl).trans p1
  replace pl := Nat.lt_of_lt_of_le pl b.size
  replace x0 := (b.cell (p := ⟨w22.heap.size, 0, none⟩) xl).trans x0
  replace x1 := (b.cell (p := ⟨w22.heap.size, 1, none⟩) xl).trans x1
  replace xl := Nat.lt_of_lt_of_le xl b.size
  replace cc := cc.trans (b.mono cc.size)
  clear b
  go_wp2_with fail
  have bA := below_one w40 (.cells #[.bool b2, .slice A2 n2 k2] 25)
  replace h0 := h0.on bA
  replace hx := hx.on bA
  replace hy := hy.on bA
  replace p0 := (bA.cell (p := ⟨w.heap.size, 0, none⟩) pl).trans p0
  replace p1 := (bA.cell (p := ⟨w.heap.size, 1, none⟩) pl).trans p1
  replace pl := Nat.lt_of_lt_of_le pl bA.size
  replace x0 := (bA.cell (p := ⟨w22.heap.size, 0, none⟩) xl).trans x0
  replace x1 := (bA.cell (p := ⟨w22.heap.size, 1, none⟩) xl).trans x1
  replace xl := Nat.lt_of_lt_of_le xl bA.size
  replace cc := cc.trans (bA.mono cc.size)
  clear bA
  have y0 : (w40.alloc (.cells #[.bool b2, .slice A2 n2 k2] 25)).cell? ⟨w40.heap.size, 0, none⟩ = some (.bool b2) := by simp [go_sem]
  have y1 : (w40.alloc (.cells #[.bool b2, .slice A2 n2 k2] 25)).cell? ⟨w40.heap.size, 1, none⟩ = some (.slice A2 n2 k2) := by simp [go_sem]
  have yl : w40.heap.size < (w40.alloc (.cells #[.bool b2, .slice A2 n2 k2] 25)).heap.size := by simp
  generalize w40.alloc (.cells #[.bool b2, .slice A2 n2 k2] 25) = v41 at *
  go_wp2_with fail
  refine (alive_any _ (ht.on cc)).mono ?_
  rintro e w42 ⟨rfl, b⟩
  replace h0 := h0.on b
  replace hx := hx.on b
  replace hy := hy.on b
  replace p0 := (b.cell (p := ⟨w.heap.size, 0, none⟩) pl).trans p0
  replace p1 := (b.cell (p := ⟨w.heap.size, 1, none⟩) pl).trans p1
  replace pl := Nat.lt_of_lt_of_le pl b.size
  replace x0 := (b.cell (p := ⟨w22.heap.size, 0, none⟩) xl).trans x0
  replace x1 := (b.cell (p := ⟨w22.heap.size, 1, none⟩) xl).trans x1
  replace xl := Nat.lt_of_lt_of_le xl b.size
  replace y0 := (b.cell (p := ⟨w40.heap.size, 0, none⟩) yl).trans y0
  replace y1 := (b.cell (p := ⟨w40.heap.size, 1, none⟩) yl).trans y1
  replace yl := Nat.lt_of_lt_of_le yl b.size
  replace cc := cc.trans (b.mono cc.size)
  clear b
  go_wp2_with fail
  refine (rzright_any true hy.1 (by rw [hy.1.len]; omega) hy.ok).mono ?_
  rintro e w43 ⟨rfl, b⟩
  replace h0 := h0.on b
  replace hx := hx.on b
  replace hy := hy.on b
  replace p0 := (b.cell (p := ⟨w.heap.size, 0, none⟩) pl).trans p0
  replace p1 := (b.cell (p := ⟨w.heap.size, 1, none⟩) pl).trans p1
  replace pl := Nat.lt_of_lt_of_le pl b.size
  replace x0 := (b.cell (p := ⟨w22.heap.size, 0, none⟩) xl).trans x0
  replace x1 := (b.cell (p := ⟨w22.heap.size, 1, none⟩) xl).trans x1
  replace xl := Nat.lt_of_lt_of_le xl b.size
  replace y0 := (b.cell (p := ⟨w40.heap.size, 0, none⟩) yl).trans y0
  replace y1 := (b.cell (p := ⟨w40.heap.size, 1, none⟩) yl).trans y1
  replace yl := Nat.lt_of_lt_of_le yl b.size
  replace cc := cc.trans (b.mono cc.size)
  clear b
  go_wp2_with fail
  refine (zprint_N hy (by omega) (ht.on cc)).mono ?_
  rintro e w44 ⟨t, rfl, ht, b⟩
  have ets : t = s := by rw [str_of ht, HT.out]
  subst ets
  replace h0 := h0.on b
  replace hx := hx.on b
  replace hy := hy.on b
  replace p0 := (b.cell (p := ⟨w.heap.size, 0, none⟩) pl).trans p0
  replace p1 := (b.cell (p := ⟨w.heap.size, 1, none⟩) pl).trans p1
  replace pl := Nat.lt_of_lt_of_le pl b.size
  replace x0 := (b.cell (p := ⟨w22.heap.size, 0, none⟩) xl).trans x0
  replace x1 := (b.cell (p := ⟨w22.heap.size, 1, none⟩) xl).trans x1
  replace xl := Nat.lt_of_lt_of_le xl b.size
  replace y0 := (b.cell (p := ⟨w40.heap.size, 0, none⟩) yl).trans y0
  replace y1 := (b.cell (p := ⟨w40.heap.size, 1, none⟩) yl).trans y1
  replace yl := Nat.lt_of_lt_of_le yl b.size
  replace cc := cc.trans (b.mono cc.size)
  clear b
  go_wp2_with fail
  go_ret
  exact ⟨rfl, cc⟩

set_option maxRecDepth 100000 in
set_option maxHeartbeats 8000000 in
theorem ZedBack_bad {w : World} {b0 : Bool} {a0 : Option Addr} {len0 cap0 : Nat} (ht : Tab w) {z : Int} (s : ByteArray) (h0 : Zn w b0 a0 len0 cap0 z) (lx : (limbs z.natAbs).length ≤ 10) (hs : s.size ≤ 400) (i : Nat) (hi0 : i ≤ s.size) (HR : Hid (readT s.data.toList = (0, i, 3))) (G : ∀ W : World, Below w.heap.size w W → Calls Tryd.prog 24 #[.agg #[.bool b0, .slice a0 len0 cap0], .int .i64 10] W (GotV W (.bool true))) :
    Calls Tryd.prog 5 #[.agg #[.bool b0, .slice a0 len0 cap0], .string s] w fun e w' => e = .returned (.bool true) ∧ Below w.heap.size w w' := by
  have cc := Below.refl w.heap.size w
  have hi : ¬ (400 : Int) < (s.size : Int) := by omega
  have lx3 : (limbs z.natAbs).length ≤ 300 := by omega
  have ltx : (textZ z).length ≤ 201 := textZ_len (m := 10) (by omega) lx
  go_enter Tryd.func5, Tryd.ntmps5
  go_wp2_with fail
  have bA := below_one w (.cells #[.bool b0, .slice a0 len0 cap0] 25)
  replace h0 := h0.on bA
  replace cc := cc.trans (bA.mono cc.size)
  clear bA
  have p0 : (w.alloc (.cells #[.bool b0, .slice a0 len0 cap0] 25)).cell? ⟨w.heap.size, 0, none⟩ = some (.bool b0) := by simp [go_sem]
  have p1 : (w.alloc (.cells #[.bool b0, .slice a0 len0 cap0] 25)).cell? ⟨w.heap.size, 1, none⟩ = some (.slice a0 len0 cap0) := by simp [go_sem]
  have pl : w.heap.size < (w.alloc (.cells #[.bool b0, .slice a0 len0 cap0] 25)).heap.size := by simp
  generalize w.alloc (.cells #[.bool b0, .slice a0 len0 cap0] 25) = v1 at *
  refine (G _ cc).mono ?_
  rintro e w20 ⟨rfl, b⟩
  replace h0 := h0.on b
  replace p0 := (b.cell (p := ⟨w.heap.size, 0, none⟩) pl).trans p0
  replace p1 := (b.cell (p := ⟨w.heap.size, 1, none⟩) pl).trans p1
  replace pl := Nat.lt_of_lt_of_le pl b.size
  replace cc := cc.trans (b.mono cc.size)
  clear b
  go_wp2_with fail
  refine (zprint_N h0 lx3 (ht.on cc)).mono ?_
  rintro e w21 ⟨t, rfl, ht, b⟩
  rw [str_of ht]
  replace h0 := h0.on b
  replace p0 := (b.cell (p := ⟨w.heap.size, 0, none⟩) pl).trans p0
  replace p1 := (b.cell (p := ⟨w.heap.size, 1, none⟩) pl).trans p1
  replace pl := Nat.lt_of_lt_of_le pl b.size
  replace cc := cc.trans (b.mono cc.size)
  clear b
  have hrd := read_text z (by omega)
  have HRD := Lib.hid hrd
  clear hrd ht
  go_wp2_with fail
  refine (zread_N ⟨(textZ z).toArray⟩ w21 (by rw [str_size]; omega)).mono ?_
  intro e w22 hr
  obtain ⟨b1, A1, n1, k1, rfl, hx, b⟩ := GotR_of hr HRD.out
  clear hr
  replace h0 := h0.on b
  replace p0 := (b.cell (p := ⟨w.heap.size, 0, none⟩) pl).trans p0
  replace p1 := (b.cell (p := ⟨w.heap.size, 1, none⟩) pl).trans p1
  replace pl := Nat.lt_of_lt_of_le pl b.size
  replace cc := cc.trans (b.mono cc.size)
  clear b
  go_wp2_with fail
  have bA := below_one w22 (.cells #[.bool b1, .slice A1 n1 k1] 25)
  replace h0 := h0.on bA
  replace hx := hx.on bA
  replace p0 := (bA.cell (p := ⟨w.heap.size, 0, none⟩) pl).trans p0
  replace p1 := (bA.cell (p := ⟨w.heap.size, 1, none⟩) pl).trans p1
  replace pl := Nat.lt_of_lt_of_le pl bA.size
  replace cc := cc.trans (bA.mono cc.size)
  clear bA
  have x0 : (w22.alloc (.cells #[.bool b1, .slice A1 n1 k1] 25)).cell? ⟨w22.heap.size, 0, none⟩ = some (.bool b1) := by simp [go_sem]
  have x1 : (w22.alloc (.cells #[.bool b1, .slice A1 n1 k1] 25)).cell? ⟨w22.heap.size, 1, none⟩ = some (.slice A1 n1 k1) := by simp [go_sem]
  have xl : w22.heap.size < (w22.alloc (.cells #[.bool b1, .slice A1 n1 k1] 25)).heap.size := by simp
  generalize w22.alloc (.cells #[.bool b1, .slice A1 n1 k1] 25) = v23 at *
  go_wp2_with fail
  refine (zsame_N true hx h0 (by omega) (by omega) (by simp)).mono ?_
  rintro e w24 ⟨rfl, b⟩
  replace h0 := h0.on b
  replace hx := hx.on b
  replace p0 := (b.cell (p := ⟨w.heap.size, 0, none⟩) pl).trans p0
  replace p1 := (b.cell (p := ⟨w.heap.size, 1, none⟩) pl).trans p1
  replace pl := Nat.lt_of_lt_of_le pl b.size
  replace x0 := (b.cell (p := ⟨w22.heap.size, 0, none⟩) xl).trans x0
  replace x1 := (b.cell (p := ⟨w22.heap.size, 1, none⟩) xl).trans x1
  replace xl := Nat.lt_of_lt_of_le xl b.size
  replace cc := cc.trans (b.mono cc.size)
  clear b
  go_wp2_with fail
  refine (zread_N s _ (by omega)).mono ?_
  intro e w40 hr
  obtain ⟨b2, A2, n2, k2, rfl, hy, b⟩ := GotR_of hr HR.out
  clear hr
  replace h0 := h0.on b
  replace hx := hx.on b
  replace p0 := (b.cell (p := ⟨w.heap.size, 0, none⟩) pl).trans p0
  replace p1 := (b.cell (p := ⟨w.heap.size, 1, none⟩) pl).trans p1
  replace pl := Nat.lt_of_lt_of_le pl b.size
  replace x0 := (b.cell (p := ⟨w22.heap.size, 0, none⟩) xl).trans x0
  replace x1 := (b.cell (p := ⟨w22.heap.size, 1, none⟩) xl).trans x1
  replace xl := Nat.lt_of_lt_of_le xl b.size
  replace cc := cc.trans (b.mono cc.size)
  clear b
  go_wp2_with fail
  have bA := below_one w40 (.cells #[.bool b2, .slice A2 n2 k2] 25)
  replace h0 := h0.on bA
  replace hx := hx.on bA
  replace hy := hy.on bA
  replace p0 := (bA.cell (p := ⟨w.heap.size, 0, none⟩) pl).trans p0
  replace p1 := (bA.cell (p := ⟨w.heap.size, 1, none⟩) pl).trans p1
  replace pl := Nat.lt_of_lt_of_le pl bA.size
  replace x0 := (bA.cell (p := ⟨w22.heap.size, 0, none⟩) xl).trans x0
  replace x1 := (bA.cell (p := ⟨w22.heap.size, 1, none⟩) xl).trans x1
  replace xl := Nat.lt_of_lt_of_le xl bA.size
  replace cc := cc.trans (bA.mono cc.size)
  clear bA
  have y0 : (w40.alloc (.cells #[.bool b2, .slice A2 n2 k2] 25)).cell? ⟨w40.heap.size, 0, none⟩ = some (.bool b2) := by simp [go_sem]
  have y1 : (w40.alloc (.cells #[.bool b2, .slice A2 n2 k2] 25)).cell? ⟨w40.heap.size, 1, none⟩ = some (.slice A2 n2 k2) := by simp [go_sem]
  have yl : w40.heap.size < (w40.alloc (.cells #[.bool b2, .slice A2 n2 k2] 25)).heap.size := by simp
  generalize w40.alloc (.cells #[.bool b2, .slice A2 n2 k2] 25) = v41 at *
  go_wp2_with fail
  refine (alive_any _ (ht.on cc)).mono ?_
  rintro e w42 ⟨rfl, b⟩
  replace h0 := h0.on b
  replace hx := hx.on b
  replace hy := hy.on b
  replace p0 := (b.cell (p := ⟨w.heap.size, 0, none⟩) pl).trans p0
  replace p1 := (b.cell (p := ⟨w.heap.size, 1, none⟩) pl).trans p1
  replace pl := Nat.lt_of_lt_of_le pl b.size
  replace x0 := (b.cell (p := ⟨w22.heap.size, 0, none⟩) xl).trans x0
  replace x1 := (b.cell (p := ⟨w22.heap.size, 1, none⟩) xl).trans x1
  replace xl := Nat.lt_of_lt_of_le xl b.size
  replace y0 := (b.cell (p := ⟨w40.heap.size, 0, none⟩) yl).trans y0
  replace y1 := (b.cell (p := ⟨w40.heap.size, 1, none⟩) yl).trans y1
  replace yl := Nat.lt_of_lt_of_le yl b.size
  replace cc := cc.trans (b.mono cc.size)
  clear b
  have hi1 : (0 : Int) ≤ (i : Int) := by omega
  have hi2 : i ≤ s.size := hi0
  go_wp2_with fail
  refine (zsame_N true hy (zn_zero _) len_z0 len_z0 (by simp)).mono ?_
  rintro e w43 ⟨rfl, b⟩
  replace h0 := h0.on b
  replace hx := hx.on b
  replace hy := hy.on b
  replace p0 := (b.cell (p := ⟨w.heap.size, 0, none⟩) pl).trans p0
  replace p1 := (b.cell (p := ⟨w.heap.size, 1, none⟩) pl).trans p1
  replace pl := Nat.lt_of_lt_of_le pl b.size
  replace x0 := (b.cell (p := ⟨w22.heap.size, 0, none⟩) xl).trans x0
  replace x1 := (b.cell (p := ⟨w22.heap.size, 1, none⟩) xl).trans x1
  replace xl := Nat.lt_of_lt_of_le xl b.size
  replace y0 := (b.cell (p := ⟨w40.heap.size, 0, none⟩) yl).trans y0
  replace y1 := (b.cell (p := ⟨w40.heap.size, 1, none⟩) yl).trans y1
  replace yl := Nat.lt_of_lt_of_le yl b.size
  replace cc := cc.trans (b.mono cc.size)
  clear b
  go_wp2_with fail
  go_ret
  exact ⟨rfl, cc⟩

theorem ZedBack_walk {w : World} (ht : Tab w) (b0 : Bool) {a0 : Option Addr} {len0 cap0 : Nat} {l0 : List Nat} (hl0 : Lim w.heap.size w a0 len0 cap0 l0) (hs0 : len0 ≤ 9223372036854775807) (s : ByteArray) (hs : s.size ≤ maxLen) :
    Calls Tryd.prog 5 #[.agg #[.bool b0, .slice a0 len0 cap0], .string s] w fun e w' => e = .returned (.bool true) ∧ Below w.heap.size w w' := by
  unfold maxLen at hs
  cases hr : (decide ((len0 : Int) ≤ 10) && okZ b0 len0 l0) with
  | false => exact ZedBack_no ht s (fun W hW => rzfew_any 10 false (hl0.on hW) hs0 hr)
  | true =>
    have G := fun (W : World) (hW : Below w.heap.size w W) => rzfew_any (b := b0) 10 true (hl0.on hW) hs0 hr
    rw [Bool.and_eq_true] at hr
    have h0 := okZ_zn hl0 hr.2
    have lx : (limbs (sgn b0 (val l0)).natAbs).length ≤ 10 := by rw [← h0.1.len]; have := of_decide_eq_true hr.1; omega
    rcases Nat.lt_or_ge 400 s.size with h | h
    · exact ZedBack_long ht s (by omega) h G
    · have hn : ¬ 400 < s.data.toList.length := by rw [str_len]; omega
      rcases text_read hn with ⟨z', h1, h2⟩ | ⟨i, h1, h2⟩
      · have hlz : (limbs z'.natAbs).length ≤ 300 := Nat.le_trans (textZ_limbs (k := 25) (by rw [h2]; omega)) (by omega)
        exact ZedBack_ok ht s h0 lx h z' hlz (Lib.hid h1) (Lib.hid (by rw [h2])) G
      · exact ZedBack_bad ht s h0 lx h i (by rw [str_len] at h2; exact h2) (Lib.hid h1) G

end Go.Proofs.YtdaohhbdhmmihaaDoor
