/-
  Several texts in one: YD, YOrder1, YOrder2, YOrder.
-/
import Derived.Test.YtdaohhbdhmmihaaDoorA6

/-
  More helps for the laws of zed: which is greater, by a letter.
-/
namespace Go.Proofs.YtdaohhbdhmmihaaDoor
open Go.RowKit
set_option linter.unusedVariables false

theorem zcmp_v {w : World} {b b' : Bool} {A B : Option Addr} {n c m d : Nat} {z z' : Int} (r : Int) (ha : Zn w b A n c z) (hb : Zn w b' B m d z') (hx : (limbs z.natAbs).length ≤ 300) (hy : (limbs z'.natAbs).length ≤ 300) (h : cmpZ z z' = r) : Calls Tryd.prog 22 #[.agg #[.bool b, .slice A n c], .agg #[.bool b', .slice B m d]] w (GotV w (.int .i64 r)) := by
  subst h
  exact zcmp_N ha hb hx hy
theorem zbits_v {w : World} {b : Bool} {A : Option Addr} {n c : Nat} {z : Int} (r : Int) (ha : Zn w b A n c z) (hx : (limbs z.natAbs).length ≤ 300) (h : ((blen z.natAbs : Nat) : Int) = r) : Calls Tryd.prog 27 #[.slice A n c] w (GotV w (.int .i64 r)) := by
  subst h
  exact rbits_N ha.1 (by omega)

theorem cmpZ_bd (a b : Int) : -1 ≤ cmpZ a b ∧ cmpZ a b ≤ 1 := by unfold cmpZ; split <;> (try split) <;> omega
theorem cmpZ_swap (a b : Int) : cmpZ b a = -cmpZ a b := by
  unfold cmpZ
  by_cases h1 : a < b
  · have h2 : ¬ b < a := by omega
    simp only [h1, h2, if_true, if_false]
    rfl
  · by_cases h2 : b < a
    · simp only [h1, h2, if_true, if_false]
    · simp only [h1, h2, if_false]
      rfl
theorem cmpZ_negs (a b : Int) : cmpZ (-a) (-b) = -cmpZ a b := by
  rw [← cmpZ_swap]
  unfold cmpZ
  by_cases h1 : b < a
  · rw [if_pos (by omega), if_pos h1]
  · rw [if_neg (by omega), if_neg h1]
    by_cases h2 : a < b
    · rw [if_pos (by omega), if_pos h2]
    · rw [if_neg (by omega), if_neg h2]
theorem cmpZ_plus (a b c : Int) : cmpZ (a + c) (b + c) = cmpZ a b := by
  have e1 : (a + c < b + c) ↔ a < b := by omega
  have e2 : (b + c < a + c) ↔ b < a := by omega
  unfold cmpZ
  simp only [e1, e2]
theorem cmpZ_less (a b : Int) : decide (cmpZ a b < 0) = decide (a < b) := by
  apply decide_eq_decide.2
  unfold cmpZ
  constructor
  · intro h
    split at h
    · assumption
    · split at h <;> omega
  · intro h
    rw [if_pos h]; omega
theorem cmpZ_same (a b : Int) : (cmpZ a b == 0) = decide (a = b) := by
  unfold cmpZ
  by_cases h1 : a < b
  · have : ¬ a = b := by omega
    rw [if_pos h1, decide_eq_false this]; rfl
  · rw [if_neg h1]
    by_cases h2 : b < a
    · have : ¬ a = b := by omega
      rw [if_pos h2, decide_eq_false this]; rfl
    · have : a = b := by omega
      rw [if_neg h2, decide_eq_true this]; rfl
theorem blen_great {z : Int} (h : ¬ I64 z) : 64 ≤ ((blen z.natAbs : Nat) : Int) := by
  rcases Nat.lt_or_ge (blen z.natAbs) 64 with h1 | h1
  · have h2 := lt_blen z.natAbs
    have h3 : 2 ^ blen z.natAbs ≤ 2 ^ 63 := Nat.pow_le_pow_right (by omega) (by omega)
    unfold I64 at h
    omega
  · omega

end Go.Proofs.YtdaohhbdhmmihaaDoor

/-
  The ways through ZedOrder, where the first integer is one of 64 bits.
-/
namespace Go.Proofs.YtdaohhbdhmmihaaDoor
open Go.RowKit
set_option linter.unusedVariables false

set_option maxRecDepth 100000 in
set_option maxHeartbeats 8000000 in
theorem ZedOrder_no0 {w : World} {b0 b1 : Bool} {a0 a1 : Option Addr} {len0 cap0 len1 cap1 : Nat} (ht : Tab w) (x2 y2 : Int) (G0 : ∀ W : World, Below w.heap.size w W → Calls Tryd.prog 24 #[.agg #[.bool b0, .slice a0 len0 cap0], .int .i64 6] W (GotV W (.bool false))) :
    Calls Tryd.prog 6 #[.agg #[.bool b0, .slice a0 len0 cap0], .agg #[.bool b1, .slice a1 len1 cap1], .agg #[.int .i64 x2, .int .i64 y2]] w fun e w' => e = .returned (.bool true) ∧ Below w.heap.size w w' := by
  have cc := Below.refl w.heap.size w
  go_enter Tryd.func6, Tryd.ntmps6
  go_wp2_with fail
  have bA : Below w.heap.size w (((w.alloc (.cells #[.bool b0, .slice a0 len0 cap0] 25)).alloc (.cells #[.bool b1, .slice a1 len1 cap1] 25)).alloc (.cells #[.int .i64 x2, .int .i64 y2] 43)) := ((((Below.refl _ w).alloc (by simp) _).alloc (by simp) _).alloc (by simp <;> omega) _)
  replace cc := cc.trans (bA.mono cc.size)
  clear bA
  have p0 : (((w.alloc (.cells #[.bool b0, .slice a0 len0 cap0] 25)).alloc (.cells #[.bool b1, .slice a1 len1 cap1] 25)).alloc (.cells #[.int .i64 x2, .int .i64 y2] 43)).cell? ⟨w.heap.size, 0, none⟩ = some (.bool b0) := by simp [go_sem]
  have p1 : (((w.alloc (.cells #[.bool b0, .slice a0 len0 cap0] 25)).alloc (.cells #[.bool b1, .slice a1 len1 cap1] 25)).alloc (.cells #[.int .i64 x2, .int .i64 y2] 43)).cell? ⟨w.heap.size, 1, none⟩ = some (.slice a0 len0 cap0) := by simp [go_sem]
  have pl : w.heap.size < (((w.alloc (.cells #[.bool b0, .slice a0 len0 cap0] 25)).alloc (.cells #[.bool b1, .slice a1 len1 cap1] 25)).alloc (.cells #[.int .i64 x2, .int .i64 y2] 43)).heap.size := by simp <;> omega
  have q0 : (((w.alloc (.cells #[.bool b0, .slice a0 len0 cap0] 25)).alloc (.cells #[.bool b1, .slice a1 len1 cap1] 25)).alloc (.cells #[.int .i64 x2, .int .i64 y2] 43)).cell? ⟨w.heap.size + 1, 0, none⟩ = some (.bool b1) := by simp [go_sem]
  have q1 : (((w.alloc (.cells #[.bool b0, .slice a0 len0 cap0] 25)).alloc (.cells #[.bool b1, .slice a1 len1 cap1] 25)).alloc (.cells #[.int .i64 x2, .int .i64 y2] 43)).cell? ⟨w.heap.size + 1, 1, none⟩ = some (.slice a1 len1 cap1) := by simp [go_sem]
  have ql : w.heap.size + 1 < (((w.alloc (.cells #[.bool b0, .slice a0 len0 cap0] 25)).alloc (.cells #[.bool b1, .slice a1 len1 cap1] 25)).alloc (.cells #[.int .i64 x2, .int .i64 y2] 43)).heap.size := by simp <;> omega
  have s0 : (((w.alloc (.cells #[.bool b0, .slice a0 len0 cap0] 25)).alloc (.cells #[.bool b1, .slice a1 len1 cap1] 25)).alloc (.cells #[.int .i64 x2, .int .i64 y2] 43)).cell? ⟨w.heap.size + 1 + 1, 0, none⟩ = some (.int .i64 x2) := by simp [go_sem]
  have s1 : (((w.alloc (.cells #[.bool b0, .slice a0 len0 cap0] 25)).alloc (.cells #[.bool b1, .slice a1 len1 cap1] 25)).alloc (.cells #[.int .i64 x2, .int .i64 y2] 43)).cell? ⟨w.heap.size + 1 + 1, 1, none⟩ = some (.int .i64 y2) := by simp [go_sem]
  have sl : w.heap.size + 1 + 1 < (((w.alloc (.cells #[.bool b0, .slice a0 len0 cap0] 25)).alloc (.cells #[.bool b1, .slice a1 len1 cap1] 25)).alloc (.cells #[.int .i64 x2, .int .i64 y2] 43)).heap.size := by simp <;> omega
  generalize ((w.alloc (.cells #[.bool b0, .slice a0 len0 cap0] 25)).alloc (.cells #[.bool b1, .slice a1 len1 cap1] 25)).alloc (.cells #[.int .i64 x2, .int .i64 y2] 43) = v1 at *
  refine (G0 _ cc).mono ?_
  rintro e w2 ⟨rfl, b⟩
  replace p0 := (b.cell (p := ⟨w.heap.size, 0, none⟩) pl).trans p0
  replace p1 := (b.cell (p := ⟨w.heap.size, 1, none⟩) pl).trans p1
  replace pl := Nat.lt_of_lt_of_le pl b.size
  replace q0 := (b.cell (p := ⟨w.heap.size + 1, 0, none⟩) ql).trans q0
  replace q1 := (b.cell (p := ⟨w.heap.size + 1, 1, none⟩) ql).trans q1
  replace ql := Nat.lt_of_lt_of_le ql b.size
  replace s0 := (b.cell (p := ⟨w.heap.size + 1 + 1, 0, none⟩) sl).trans s0
  replace s1 := (b.cell (p := ⟨w.heap.size + 1 + 1, 1, none⟩) sl).trans s1
  replace sl := Nat.lt_of_lt_of_le sl b.size
  replace cc := cc.trans (b.mono cc.size)
  clear b
  go_wp2_with fail
  refine (alive_any _ (ht.on cc)).mono ?_
  rintro e w3 ⟨rfl, b⟩
  replace p0 := (b.cell (p := ⟨w.heap.size, 0, none⟩) pl).trans p0
  replace p1 := (b.cell (p := ⟨w.heap.size, 1, none⟩) pl).trans p1
  replace pl := Nat.lt_of_lt_of_le pl b.size
  replace q0 := (b.cell (p := ⟨w.heap.size + 1, 0, none⟩) ql).trans q0
  replace q1 := (b.cell (p := ⟨w.heap.size + 1, 1, none⟩) ql).trans q1
  replace ql := Nat.lt_of_lt_of_le ql b.size
  replace s0 := (b.cell (p := ⟨w.heap.size + 1 + 1, 0, none⟩) sl).trans s0
  replace s1 := (b.cell (p := ⟨w.heap.size + 1 + 1, 1, none⟩) sl).trans s1
  replace sl := Nat.lt_of_lt_of_le sl b.size
  replace cc := cc.trans (b.mono cc.size)
  clear b
  go_wp2_with fail
  go_ret
  exact ⟨rfl, cc⟩

set_option maxRecDepth 100000 in
set_option maxHeartbeats 8000000 in
theorem ZedOrder_no1 {w : World} {b0 b1 : Bool} {a0 a1 : Option Addr} {len0 cap0 len1 cap1 : Nat} (ht : Tab w) (x2 y2 : Int) (G0 : ∀ W : World, Below w.heap.size w W → Calls Tryd.prog 24 #[.agg #[.bool b0, .slice a0 len0 cap0], .int .i64 6] W (GotV W (.bool true))) (G1 : ∀ W : World, Below w.heap.size w W → Calls Tryd.prog 24 #[.agg #[.bool b1, .slice a1 len1 cap1], .int .i64 6] W (GotV W (.bool false))) :
    Calls Tryd.prog 6 #[.agg #[.bool b0, .slice a0 len0 cap0], .agg #[.bool b1, .slice a1 len1 cap1], .agg #[.int .i64 x2, .int .i64 y2]] w fun e w' => e = .returned (.bool true) ∧ Below w.heap.size w w' := by
  have cc := Below.refl w.heap.size w
  go_enter Tryd.func6, Tryd.ntmps6
  go_wp2_with fail
  have bA : Below w.heap.size w (((w.alloc (.cells #[.bool b0, .slice a0 len0 cap0] 25)).alloc (.cells #[.bool b1, .slice a1 len1 cap1] 25)).alloc (.cells #[.int .i64 x2, .int .i64 y2] 43)) := ((((Below.refl _ w).alloc (by simp) _).alloc (by simp) _).alloc (by simp <;> omega) _)
  replace cc := cc.trans (bA.mono cc.size)
  clear bA
  have p0 : (((w.alloc (.cells #[.bool b0, .slice a0 len0 cap0] 25)).alloc (.cells #[.bool b1, .slice a1 len1 cap1] 25)).alloc (.cells #[.int .i64 x2, .int .i64 y2] 43)).cell? ⟨w.heap.size, 0, none⟩ = some (.bool b0) := by simp [go_sem]
  have p1 : (((w.alloc (.cells #[.bool b0, .slice a0 len0 cap0] 25)).alloc (.cells #[.bool b1, .slice a1 len1 cap1] 25)).alloc (.cells #[.int .i64 x2, .int .i64 y2] 43)).cell? ⟨w.heap.size, 1, none⟩ = some (.slice a0 len0 cap0) := by simp [go_sem]
  have pl : w.heap.size < (((w.alloc (.cells #[.bool b0, .slice a0 len0 cap0] 25)).alloc (.cells #[.bool b1, .slice a1 len1 cap1] 25)).alloc (.cells #[.int .i64 x2, .int .i64 y2] 43)).heap.size := by simp <;> omega
  have q0 : (((w.alloc (.cells #[.bool b0, .slice a0 len0 cap0] 25)).alloc (.cells #[.bool b1, .slice a1 len1 cap1] 25)).alloc (.cells #[.int .i64 x2, .int .i64 y2] 43)).cell? ⟨w.heap.size + 1, 0, none⟩ = some (.bool b1) := by simp [go_sem]
  have q1 : (((w.alloc (.cells #[.bool b0, .slice a0 len0 cap0] 25)).alloc (.cells #[.bool b1, .slice a1 len1 cap1] 25)).alloc (.cells #[.int .i64 x2, .int .i64 y2] 43)).cell? ⟨w.heap.size + 1, 1, none⟩ = some (.slice a1 len1 cap1) := by simp [go_sem]
  have ql : w.heap.size + 1 < (((w.alloc (.cells #[.bool b0, .slice a0 len0 cap0] 25)).alloc (.cells #[.bool b1, .slice a1 len1 cap1] 25)).alloc (.cells #[.int .i64 x2, .int .i64 y2] 43)).heap.size := by simp <;> omega
  have s0 : (((w.alloc (.cells #[.bool b0, .slice a0 len0 cap0] 25)).alloc (.cells #[.bool b1, .slice a1 len1 cap1] 25)).alloc (.cells #[.int .i64 x2, .int .i64 y2] 43)).cell? ⟨w.heap.size + 1 + 1, 0, none⟩ = some (.int .i64 x2) := by simp [go_sem]
  have s1 : (((w.alloc (.cells #[.bool b0, .slice a0 len0 cap0] 25)).alloc (.cells #[.bool b1, .slice a1 len1 cap1] 25)).alloc (.cells #[.int .i64 x2, .int .i64 y2] 43)).cell? ⟨w.heap.size + 1 + 1, 1, none⟩ = some (.int .i64 y2) := by simp [go_sem]
  have sl : w.heap.size + 1 + 1 < (((w.alloc (.cells #[.bool b0, .slice a0 len0 cap0] 25)).alloc (.cells #[.bool b1, .slice a1 len1 cap1] 25)).alloc (.cells #[.int .i64 x2, .int .i64 y2] 43)).heap.size := by simp <;> omega
  generalize ((w.alloc (.cells #[.bool b0, .slice a0 len0 cap0] 25)).alloc (.cells #[.bool b1, .slice a1 len1 cap1] 25)).alloc (.cells #[.int .i64 x2, .int .i64 y2] 43) = v1 at *
  refine (G0 _ cc).mono ?_
  rintro e w2 ⟨rfl, b⟩
  replace p0 := (b.cell (p := ⟨w.heap.size, 0, none⟩) pl).trans p0
  replace p1 := (b.cell (p := ⟨w.heap.size, 1, none⟩) pl).trans p1
  replace pl := Nat.lt_of_lt_of_le pl b.size
  replace q0 := (b.cell (p := ⟨w.heap.size + 1, 0, none⟩) ql).trans q0
  replace q1 := (b.cell (p := ⟨w.heap.size + 1, 1, none⟩) ql).trans q1
  replace ql := Nat.lt_of_lt_of_le ql b.size
  replace s0 := (b.cell (p := ⟨w.heap.size + 1 + 1, 0, none⟩) sl).trans s0
  replace s1 := (b.cell (p := ⟨w.heap.size + 1 + 1, 1, none⟩) sl).trans s1
  replace sl := Nat.lt_of_lt_of_le sl b.size
  replace cc := cc.trans (b.mono cc.size)
  clear b
  go_wp2_with fail
  refine (G1 _ cc).mono ?_
  rintro e w3 ⟨rfl, b⟩
  replace p0 := (b.cell (p := ⟨w.heap.size, 0, none⟩) pl).trans p0
  replace p1 := (b.cell (p := ⟨w.heap.size, 1, none⟩) pl).trans p1
  replace pl := Nat.lt_of_lt_of_le pl b.size
  replace q0 := (b.cell (p := ⟨w.heap.size + 1, 0, none⟩) ql).trans q0
  replace q1 := (b.cell (p := ⟨w.heap.size + 1, 1, none⟩) ql).trans q1
  replace ql := Nat.lt_of_lt_of_le ql b.size
  replace s0 := (b.cell (p := ⟨w.heap.size + 1 + 1, 0, none⟩) sl).trans s0
  replace s1 := (b.cell (p := ⟨w.heap.size + 1 + 1, 1, none⟩) sl).trans s1
  replace sl := Nat.lt_of_lt_of_le sl b.size
  replace cc := cc.trans (b.mono cc.size)
  clear b
  go_wp2_with fail
  refine (alive_any _ (ht.on cc)).mono ?_
  rintro e w4 ⟨rfl, b⟩
  replace p0 := (b.cell (p := ⟨w.heap.size, 0, none⟩) pl).trans p0
  replace p1 := (b.cell (p := ⟨w.heap.size, 1, none⟩) pl).trans p1
  replace pl := Nat.lt_of_lt_of_le pl b.size
  replace q0 := (b.cell (p := ⟨w.heap.size + 1, 0, none⟩) ql).trans q0
  replace q1 := (b.cell (p := ⟨w.heap.size + 1, 1, none⟩) ql).trans q1
  replace ql := Nat.lt_of_lt_of_le ql b.size
  replace s0 := (b.cell (p := ⟨w.heap.size + 1 + 1, 0, none⟩) sl).trans s0
  replace s1 := (b.cell (p := ⟨w.heap.size + 1 + 1, 1, none⟩) sl).trans s1
  replace sl := Nat.lt_of_lt_of_le sl b.size
  replace cc := cc.trans (b.mono cc.size)
  clear b
  go_wp2_with fail
  go_ret
  exact ⟨rfl, cc⟩

set_option maxRecDepth 100000 in
set_option maxHeartbeats 8000000 in
theorem ZedOrder_yes {w : World} {b0 b1 : Bool} {a0 a1 : Option Addr} {len0 cap0 len1 cap1 : Nat} {z0 : Int} (h0 : Zn w b0 a0 len0 cap0 z0) {z1 : Int} (h1 : Zn w b1 a1 len1 cap1 z1) (ht : Tab w) (x2 y2 : Int) (ix : I64 x2) (iy : I64 y2) (l0 : (limbs z0.natAbs).length ≤ 6) (l1 : (limbs z1.natAbs).length ≤ 6) (hz : I64 z0) (G0 : ∀ W : World, Below w.heap.size w W → Calls Tryd.prog 24 #[.agg #[.bool b0, .slice a0 len0 cap0], .int .i64 6] W (GotV W (.bool true))) (G1 : ∀ W : World, Below w.heap.size w W → Calls Tryd.prog 24 #[.agg #[.bool b1, .slice a1 len1 cap1], .int .i64 6] W (GotV W (.bool true))) :
    Calls Tryd.prog 6 #[.agg #[.bool b0, .slice a0 len0 cap0], .agg #[.bool b1, .slice a1 len1 cap1], .agg #[.int .i64 x2, .int .i64 y2]] w fun e w' => e = .returned (.bool true) ∧ Below w.heap.size w w' := by
  have cc := Below.refl w.heap.size w
  have k0 : (limbs z0.natAbs).length ≤ 300 := by omega
  have k1 : (limbs z1.natAbs).length ≤ 300 := by omega
  have mx := len_z ix.abs
  have my := len_z iy.abs
  have g0 := zlen_neg k0
  have g1 := zlen_neg k1
  have u0 : (limbs (z0 + x2).natAbs).length ≤ 300 := Nat.le_trans (zlen_add (k := 6) l0 (Nat.le_trans (len_one ix.abs) (by omega))) (by omega)
  have u1 : (limbs (z1 + x2).natAbs).length ≤ 300 := Nat.le_trans (zlen_add (k := 6) l1 (Nat.le_trans (len_one ix.abs) (by omega))) (by omega)
  obtain ⟨cx, hcx⟩ : ∃ cx, cmpZ z0 z1 = cx := ⟨_, rfl⟩
  obtain ⟨cl, hcl⟩ : ∃ cl, cmpZ x2 y2 = cl := ⟨_, rfl⟩
  obtain ⟨r, hr⟩ : ∃ r : Bool, decide (z0 = z1) = r := ⟨_, rfl⟩
  obtain ⟨dl, hdl⟩ : ∃ dl : Bool, decide (x2 < y2) = dl := ⟨_, rfl⟩
  obtain ⟨bl, hbl⟩ : ∃ bl : Int, ((blen z0.natAbs : Nat) : Int) = bl := ⟨_, rfl⟩
  have hbd := cmpZ_bd z0 z1
  rw [hcx] at hbd
  obtain ⟨d1, d2⟩ := hbd
  have t1 : decide (cx < -1) = false := decide_eq_false (by omega)
  have t2 : decide (1 < cx) = false := decide_eq_false (by omega)
  have HC0 := Lib.hid hcx
  have HC1 : Hid (cmpZ z1 z0 = -cx) := Lib.hid (by rw [cmpZ_swap, hcx])
  have HC2 : Hid (cmpZ (-z0) (-z1) = -cx) := Lib.hid (by rw [cmpZ_negs, hcx])
  have HC3 : Hid (cmpZ (z0 + x2) (z1 + x2) = cx) := Lib.hid (by rw [cmpZ_plus, hcx])
  have HCL := Lib.hid hcl
  have HR := Lib.hid hr
  have HBL := Lib.hid hbl
  have hl : decide (cl < 0) = dl := by rw [← hcl, cmpZ_less, hdl]
  have hq : (cx == 0) = r := by rw [← hcx, cmpZ_same, hr]
  have e0 : IntKind.i64.wrap (-cx) = -cx := IntWalk.i64_in _ (by omega)
  clear hcx hcl hr hbl
  go_enter Tryd.func6, Tryd.ntmps6
  go_wp2_with fail
  have bA : Below w.heap.size w (((w.alloc (.cells #[.bool b0, .slice a0 len0 cap0] 25)).alloc (.cells #[.bool b1, .slice a1 len1 cap1] 25)).alloc (.cells #[.int .i64 x2, .int .i64 y2] 43)) := ((((Below.refl _ w).alloc (by simp) _).alloc (by simp) _).alloc (by simp <;> omega) _)
  replace h0 := h0.on bA
  replace h1 := h1.on bA
  replace cc := cc.trans (bA.mono cc.size)
  clear bA
  have p0 : (((w.alloc (.cells #[.bool b0, .slice a0 len0 cap0] 25)).alloc (.cells #[.bool b1, .slice a1 len1 cap1] 25)).alloc (.cells #[.int .i64 x2, .int .i64 y2] 43)).cell? ⟨w.heap.size, 0, none⟩ = some (.bool b0) := by simp [go_sem]
  have p1 : (((w.alloc (.cells #[.bool b0, .slice a0 len0 cap0] 25)).alloc (.cells #[.bool b1, .slice a1 len1 cap1] 25)).alloc (.cells #[.int .i64 x2, .int .i64 y2] 43)).cell? ⟨w.heap.size, 1, none⟩ = some (.slice a0 len0 cap0) := by simp [go_sem]
  have pl : w.heap.size < (((w.alloc (.cells #[.bool b0, .slice a0 len0 cap0] 25)).alloc (.cells #[.bool b1, .slice a1 len1 cap1] 25)).alloc (.cells #[.int .i64 x2, .int .i64 y2] 43)).heap.size := by simp <;> omega
  have q0 : (((w.alloc (.cells #[.bool b0, .slice a0 len0 cap0] 25)).alloc (.cells #[.bool b1, .slice a1 len1 cap1] 25)).alloc (.cells #[.int .i64 x2, .int .i64 y2] 43)).cell? ⟨w.heap.size + 1, 0, none⟩ = some (.bool b1) := by simp [go_sem]
  have q1 : (((w.alloc (.cells #[.bool b0, .slice a0 len0 cap0] 25)).alloc (.cells #[.bool b1, .slice a1 len1 cap1] 25)).alloc (.cells #[.int .i64 x2, .int .i64 y2] 43)).cell? ⟨w.heap.size + 1, 1, none⟩ = some (.slice a1 len1 cap1) := by simp [go_sem]
  have ql : w.heap.size + 1 < (((w.alloc (.cells #[.bool b0, .slice a0 len0 cap0] 25)).alloc (.cells #[.bool b1, .slice a1 len1 cap1] 25)).alloc (.cells #[.int .i64 x2, .int .i64 y2] 43)).heap.size := by simp <;> omega
  have s0 : (((w.alloc (.cells #[.bool b0, .slice a0 len0 cap0] 25)).alloc (.cells #[.bool b1, .slice a1 len1 cap1] 25)).alloc (.cells #[.int .i64 x2, .int .i64 y2] 43)).cell? ⟨w.heap.size + 1 + 1, 0, none⟩ = some (.int .i64 x2) := by simp [go_sem]
  have s1 : (((w.alloc (.cells #[.bool b0, .slice a0 len0 cap0] 25)).alloc (.cells #[.bool b1, .slice a1 len1 cap1] 25)).alloc (.cells #[.int .i64 x2, .int .i64 y2] 43)).cell? ⟨w.heap.size + 1 + 1, 1, none⟩ = some (.int .i64 y2) := by simp [go_sem]
  have sl : w.heap.size + 1 + 1 < (((w.alloc (.cells #[.bool b0, .slice a0 len0 cap0] 25)).alloc (.cells #[.bool b1, .slice a1 len1 cap1] 25)).alloc (.cells #[.int .i64 x2, .int .i64 y2] 43)).heap.size := by simp <;> omega
  generalize ((w.alloc (.cells #[.bool b0, .slice a0 len0 cap0] 25)).alloc (.cells #[.bool b1, .slice a1 len1 cap1] 25)).alloc (.cells #[.int .i64 x2, .int .i64 y2] 43) = v1 at *
  refine (G0 _ cc).mono ?_
  rintro e w2 ⟨rfl, b⟩
  replace h0 := h0.on b
  replace h1 := h1.on b
  replace p0 := (b.cell (p := ⟨w.heap.size, 0, none⟩) pl).trans p0
  replace p1 := (b.cell (p := ⟨w.heap.size, 1, none⟩) pl).trans p1
  replace pl := Nat.lt_of_lt_of_le pl b.size
  replace q0 := (b.cell (p := ⟨w.heap.size + 1, 0, none⟩) ql).trans q0
  replace q1 := (b.cell (p := ⟨w.heap.size + 1, 1, none⟩) ql).trans q1
  replace ql := Nat.lt_of_lt_of_le ql b.size
  replace s0 := (b.cell (p := ⟨w.heap.size + 1 + 1, 0, none⟩) sl).trans s0
  replace s1 := (b.cell (p := ⟨w.heap.size + 1 + 1, 1, none⟩) sl).trans s1
  replace sl := Nat.lt_of_lt_of_le sl b.size
  replace cc := cc.trans (b.mono cc.size)
  clear b
  go_wp2_with fail
  refine (G1 _ cc).mono ?_
  rintro e w3 ⟨rfl, b⟩
  replace h0 := h0.on b
  replace h1 := h1.on b
  replace p0 := (b.cell (p := ⟨w.heap.size, 0, none⟩) pl).trans p0
  replace p1 := (b.cell (p := ⟨w.heap.size, 1, none⟩) pl).trans p1
  replace pl := Nat.lt_of_lt_of_le pl b.size
  replace q0 := (b.cell (p := ⟨w.heap.size + 1, 0, none⟩) ql).trans q0
  replace q1 := (b.cell (p := ⟨w.heap.size + 1, 1, none⟩) ql).trans q1
  replace ql := Nat.lt_of_lt_of_le ql b.size
  replace s0 := (b.cell (p := ⟨w.heap.size + 1 + 1, 0, none⟩) sl).trans s0
  replace s1 := (b.cell (p := ⟨w.heap.size + 1 + 1, 1, none⟩) sl).trans s1
  replace sl := Nat.lt_of_lt_of_le sl b.size
  replace cc := cc.trans (b.mono cc.size)
  clear b
  go_wp2_with fail
  refine (zcmp_v cx h0 h1 k0 k1 HC0.out).mono ?_
  rintro e w4 ⟨rfl, b⟩
  replace h0 := h0.on b
  replace h1 := h1.on b
  replace p0 := (b.cell (p := ⟨w.heap.size, 0, none⟩) pl).trans p0
  replace p1 := (b.cell (p := ⟨w.heap.size, 1, none⟩) pl).trans p1
  replace pl := Nat.lt_of_lt_of_le pl b.size
  replace q0 := (b.cell (p := ⟨w.heap.size + 1, 0, none⟩) ql).trans q0
  replace q1 := (b.cell (p := ⟨w.heap.size + 1, 1, none⟩) ql).trans q1
  replace ql := Nat.lt_of_lt_of_le ql b.size
  replace s0 := (b.cell (p := ⟨w.heap.size + 1 + 1, 0, none⟩) sl).trans s0
  replace s1 := (b.cell (p := ⟨w.heap.size + 1 + 1, 1, none⟩) sl).trans s1
  replace sl := Nat.lt_of_lt_of_le sl b.size
  replace cc := cc.trans (b.mono cc.size)
  clear b
  go_upto_region 4 with fail
  go_cut [8, 9] (fun ux uy wx => ∃ (gx gy : Nat) (bx : Bool) (Ax : Option Addr) (nx kx : Nat) (bY : Bool) (Ay : Option Addr) (ny ky : Nat), ux = .pointer (some ⟨gx, 0, none⟩) ∧ uy = .pointer (some ⟨gy, 0, none⟩) ∧ Both w4 wx gx gy bx Ax nx kx bY Ay ny ky (x2) (y2))
  case first =>
    have B0 : Below w4.heap.size w4 w4.drew := below_drewN (Below.refl _ w4) 1
    have B1 : Below w4.heap.size w4 (w4.alloc (.cells #[.bool false, .slice none 0 0] 25)).drew := below_drewN (below_one _ _) 1
    have B2 : Below w4.heap.size w4 ((w4.alloc (.cells #[.bool false, .slice none 0 0] 25)).alloc (.cells #[.bool false, .slice none 0 0] 25)).drew := below_drewN (below_two _ _ _) 1
    go_region_held3 (fun w' => w'.cell? ⟨w.heap.size, 0, none⟩ = some (.bool b0) ∧ w'.cell? ⟨w.heap.size, 1, none⟩ = some (.slice a0 len0 cap0) ∧ w'.cell? ⟨w.heap.size + 1, 0, none⟩ = some (.bool b1) ∧ w'.cell? ⟨w.heap.size + 1, 1, none⟩ = some (.slice a1 len1 cap1) ∧ w'.cell? ⟨w.heap.size + 1 + 1, 0, none⟩ = some (.int .i64 x2) ∧ w'.cell? ⟨w.heap.size + 1 + 1, 1, none⟩ = some (.int .i64 y2))
      (first | with_reducible exact ⟨p0, p1, q0, q1, s0, s1⟩ | with_reducible exact ⟨keep_alloc (p0), keep_alloc (p1), keep_alloc (q0), keep_alloc (q1), keep_alloc (s0), keep_alloc (s1)⟩ | with_reducible exact ⟨keep_alloc (keep_alloc (p0)), keep_alloc (keep_alloc (p1)), keep_alloc (keep_alloc (q0)), keep_alloc (keep_alloc (q1)), keep_alloc (keep_alloc (s0)), keep_alloc (keep_alloc (s1))⟩ | with_reducible exact ⟨(qq.cell (p := ⟨w.heap.size, 0, none⟩) pl).trans p0, (qq.cell (p := ⟨w.heap.size, 1, none⟩) pl).trans p1, (qq.cell (p := ⟨w.heap.size + 1, 0, none⟩) ql).trans q0, (qq.cell (p := ⟨w.heap.size + 1, 1, none⟩) ql).trans q1, (qq.cell (p := ⟨w.heap.size + 1 + 1, 0, none⟩) sl).trans s0, (qq.cell (p := ⟨w.heap.size + 1 + 1, 1, none⟩) sl).trans s1⟩ | with_reducible exact ⟨keep_alloc ((qq.cell (p := ⟨w.heap.size, 0, none⟩) pl).trans p0), keep_alloc ((qq.cell (p := ⟨w.heap.size, 1, none⟩) pl).trans p1), keep_alloc ((qq.cell (p := ⟨w.heap.size + 1, 0, none⟩) ql).trans q0), keep_alloc ((qq.cell (p := ⟨w.heap.size + 1, 1, none⟩) ql).trans q1), keep_alloc ((qq.cell (p := ⟨w.heap.size + 1 + 1, 0, none⟩) sl).trans s0), keep_alloc ((qq.cell (p := ⟨w.heap.size + 1 + 1, 1, none⟩) sl).trans s1)⟩ | with_reducible exact ⟨keep_alloc (keep_alloc ((qq.cell (p := ⟨w.heap.size, 0, none⟩) pl).trans p0)), keep_alloc (keep_alloc ((qq.cell (p := ⟨w.heap.size, 1, none⟩) pl).trans p1)), keep_alloc (keep_alloc ((qq.cell (p := ⟨w.heap.size + 1, 0, none⟩) ql).trans q0)), keep_alloc (keep_alloc ((qq.cell (p := ⟨w.heap.size + 1, 1, none⟩) ql).trans q1)), keep_alloc (keep_alloc ((qq.cell (p := ⟨w.heap.size + 1 + 1, 0, none⟩) sl).trans s0)), keep_alloc (keep_alloc ((qq.cell (p := ⟨w.heap.size + 1 + 1, 1, none⟩) sl).trans s1))⟩ | with_reducible exact ⟨(cell_store (by omega)).trans ((qq.cell (p := ⟨w.heap.size, 0, none⟩) pl).trans p0), (cell_store (by omega)).trans ((qq.cell (p := ⟨w.heap.size, 1, none⟩) pl).trans p1), (cell_store (by omega)).trans ((qq.cell (p := ⟨w.heap.size + 1, 0, none⟩) ql).trans q0), (cell_store (by omega)).trans ((qq.cell (p := ⟨w.heap.size + 1, 1, none⟩) ql).trans q1), (cell_store (by omega)).trans ((qq.cell (p := ⟨w.heap.size + 1 + 1, 0, none⟩) sl).trans s0), (cell_store (by omega)).trans ((qq.cell (p := ⟨w.heap.size + 1 + 1, 1, none⟩) sl).trans s1)⟩ | with_reducible exact ⟨keep_alloc ((cell_store (by omega)).trans ((qq.cell (p := ⟨w.heap.size, 0, none⟩) pl).trans p0)), keep_alloc ((cell_store (by omega)).trans ((qq.cell (p := ⟨w.heap.size, 1, none⟩) pl).trans p1)), keep_alloc ((cell_store (by omega)).trans ((qq.cell (p := ⟨w.heap.size + 1, 0, none⟩) ql).trans q0)), keep_alloc ((cell_store (by omega)).trans ((qq.cell (p := ⟨w.heap.size + 1, 1, none⟩) ql).trans q1)), keep_alloc ((cell_store (by omega)).trans ((qq.cell (p := ⟨w.heap.size + 1 + 1, 0, none⟩) sl).trans s0)), keep_alloc ((cell_store (by omega)).trans ((qq.cell (p := ⟨w.heap.size + 1 + 1, 1, none⟩) sl).trans s1))⟩ | with_reducible exact ⟨keep_alloc (keep_alloc ((cell_store (by omega)).trans ((qq.cell (p := ⟨w.heap.size, 0, none⟩) pl).trans p0))), keep_alloc (keep_alloc ((cell_store (by omega)).trans ((qq.cell (p := ⟨w.heap.size, 1, none⟩) pl).trans p1))), keep_alloc (keep_alloc ((cell_store (by omega)).trans ((qq.cell (p := ⟨w.heap.size + 1, 0, none⟩) ql).trans q0))), keep_alloc (keep_alloc ((cell_store (by omega)).trans ((qq.cell (p := ⟨w.heap.size + 1, 1, none⟩) ql).trans q1))), keep_alloc (keep_alloc ((cell_store (by omega)).trans ((qq.cell (p := ⟨w.heap.size + 1 + 1, 0, none⟩) sl).trans s0))), keep_alloc (keep_alloc ((cell_store (by omega)).trans ((qq.cell (p := ⟨w.heap.size + 1 + 1, 1, none⟩) sl).trans s1)))⟩ | with_reducible exact ⟨(cell_store (by omega)).trans ((cell_store (by omega)).trans ((qq.cell (p := ⟨w.heap.size, 0, none⟩) pl).trans p0)), (cell_store (by omega)).trans ((cell_store (by omega)).trans ((qq.cell (p := ⟨w.heap.size, 1, none⟩) pl).trans p1)), (cell_store (by omega)).trans ((cell_store (by omega)).trans ((qq.cell (p := ⟨w.heap.size + 1, 0, none⟩) ql).trans q0)), (cell_store (by omega)).trans ((cell_store (by omega)).trans ((qq.cell (p := ⟨w.heap.size + 1, 1, none⟩) ql).trans q1)), (cell_store (by omega)).trans ((cell_store (by omega)).trans ((qq.cell (p := ⟨w.heap.size + 1 + 1, 0, none⟩) sl).trans s0)), (cell_store (by omega)).trans ((cell_store (by omega)).trans ((qq.cell (p := ⟨w.heap.size + 1 + 1, 1, none⟩) sl).trans s1))⟩ | with_reducible exact ⟨keep_alloc ((cell_store (by omega)).trans ((cell_store (by omega)).trans ((qq.cell (p := ⟨w.heap.size, 0, none⟩) pl).trans p0))), keep_alloc ((cell_store (by omega)).trans ((cell_store (by omega)).trans ((qq.cell (p := ⟨w.heap.size, 1, none⟩) pl).trans p1))), keep_alloc ((cell_store (by omega)).trans ((cell_store (by omega)).trans ((qq.cell (p := ⟨w.heap.size + 1, 0, none⟩) ql).trans q0))), keep_alloc ((cell_store (by omega)).trans ((cell_store (by omega)).trans ((qq.cell (p := ⟨w.heap.size + 1, 1, none⟩) ql).trans q1))), keep_alloc ((cell_store (by omega)).trans ((cell_store (by omega)).trans ((qq.cell (p := ⟨w.heap.size + 1 + 1, 0, none⟩) sl).trans s0))), keep_alloc ((cell_store (by omega)).trans ((cell_store (by omega)).trans ((qq.cell (p := ⟨w.heap.size + 1 + 1, 1, none⟩) sl).trans s1)))⟩ | with_reducible exact ⟨keep_alloc (keep_alloc ((cell_store (by omega)).trans ((cell_store (by omega)).trans ((qq.cell (p := ⟨w.heap.size, 0, none⟩) pl).trans p0)))), keep_alloc (keep_alloc ((cell_store (by omega)).trans ((cell_store (by omega)).trans ((qq.cell (p := ⟨w.heap.size, 1, none⟩) pl).trans p1)))), keep_alloc (keep_alloc ((cell_store (by omega)).trans ((cell_store (by omega)).trans ((qq.cell (p := ⟨w.heap.size + 1, 0, none⟩) ql).trans q0)))), keep_alloc (keep_alloc ((cell_store (by omega)).trans ((cell_store (by omega)).trans ((qq.cell (p := ⟨w.heap.size + 1, 1, none⟩) ql).trans q1)))), keep_alloc (keep_alloc ((cell_store (by omega)).trans ((cell_store (by omega)).trans ((qq.cell (p := ⟨w.heap.size + 1 + 1, 0, none⟩) sl).trans s0)))), keep_alloc (keep_alloc ((cell_store (by omega)).trans ((cell_store (by omega)).trans ((qq.cell (p := ⟨w.heap.size + 1 + 1, 1, none⟩) sl).trans s1))))⟩ | go_keep)
      (first
        | (go_at_call 12; (with_reducible refine (zof_N _ x2 ix).mono ?_); rintro e wy ⟨bx, Ax, nx, kx, rfl, hx, q⟩; have qq := B0.trans (q.mono B0.size); have qs := qq.size; clear q)
        | (go_at_call 12; (with_reducible refine (zof_N _ x2 ix).mono ?_); rintro e wy ⟨bx, Ax, nx, kx, rfl, hx, q⟩; have qq := B1.trans (q.mono B1.size); have qs := qq.size; have c00 := (q.cell (p := ⟨w4.heap.size, 0, none⟩) (by simp <;> omega)).trans (show _ = some (.bool false) by simp [go_sem]); have c01 := (q.cell (p := ⟨w4.heap.size, 1, none⟩) (by simp <;> omega)).trans (show _ = some (.slice none 0 0) by simp [go_sem]); have d00 := (q.frozen (p := ⟨w4.heap.size, 0, none⟩) (by simp <;> omega)).trans (show _ = false by simp [go_sem]); have d01 := (q.frozen (p := ⟨w4.heap.size, 1, none⟩) (by simp <;> omega)).trans (show _ = false by simp [go_sem]); have l0 : w4.heap.size < wy.heap.size := Nat.lt_of_lt_of_le (by simp <;> omega) q.size; clear q)
        | (go_at_call 12; (with_reducible refine (zof_N _ x2 ix).mono ?_); rintro e wy ⟨bx, Ax, nx, kx, rfl, hx, q⟩; have qq := B2.trans (q.mono B2.size); have qs := qq.size; have c00 := (q.cell (p := ⟨w4.heap.size, 0, none⟩) (by simp <;> omega)).trans (show _ = some (.bool false) by simp [go_sem]); have c01 := (q.cell (p := ⟨w4.heap.size, 1, none⟩) (by simp <;> omega)).trans (show _ = some (.slice none 0 0) by simp [go_sem]); have d00 := (q.frozen (p := ⟨w4.heap.size, 0, none⟩) (by simp <;> omega)).trans (show _ = false by simp [go_sem]); have d01 := (q.frozen (p := ⟨w4.heap.size, 1, none⟩) (by simp <;> omega)).trans (show _ = false by simp [go_sem]); have l0 : w4.heap.size < wy.heap.size := Nat.lt_of_lt_of_le (by simp <;> omega) q.size; have c10 := (q.cell (p := ⟨w4.heap.size + 1, 0, none⟩) (by simp <;> omega)).trans (show _ = some (.bool false) by simp [go_sem]); have c11 := (q.cell (p := ⟨w4.heap.size + 1, 1, none⟩) (by simp <;> omega)).trans (show _ = some (.slice none 0 0) by simp [go_sem]); have d10 := (q.frozen (p := ⟨w4.heap.size + 1, 0, none⟩) (by simp <;> omega)).trans (show _ = false by simp [go_sem]); have d11 := (q.frozen (p := ⟨w4.heap.size + 1, 1, none⟩) (by simp <;> omega)).trans (show _ = false by simp [go_sem]); have l1 : w4.heap.size + 1 < wy.heap.size := Nat.lt_of_lt_of_le (by simp <;> omega) q.size; clear q)
        | (go_at_call 12; have up := Below.refl wy.heap.size wy; (with_reducible refine (zof_N _ y2 iy).mono ?_); rintro e wz ⟨bY, Ay, ny, ky, rfl, hy, q⟩; (try have c00' := (q.cell (Nat.lt_of_lt_of_le l0 up.size)).trans ((up.cell l0).trans c00)); (try have d00' := (q.frozen (Nat.lt_of_lt_of_le l0 up.size)).trans ((up.frozen l0).trans d00)); (try have c01' := (q.cell (Nat.lt_of_lt_of_le l0 up.size)).trans ((up.cell l0).trans c01)); (try have d01' := (q.frozen (Nat.lt_of_lt_of_le l0 up.size)).trans ((up.frozen l0).trans d01)); (try have l0' := Nat.lt_of_lt_of_le l0 (Nat.le_trans up.size q.size)); (try have c10' := (q.cell (Nat.lt_of_lt_of_le l1 up.size)).trans ((up.cell l1).trans c10)); (try have d10' := (q.frozen (Nat.lt_of_lt_of_le l1 up.size)).trans ((up.frozen l1).trans d10)); (try have c11' := (q.cell (Nat.lt_of_lt_of_le l1 up.size)).trans ((up.cell l1).trans c11)); (try have d11' := (q.frozen (Nat.lt_of_lt_of_le l1 up.size)).trans ((up.frozen l1).trans d11)); (try have l1' := Nat.lt_of_lt_of_le l1 (Nat.le_trans up.size q.size)); replace hx := (hx.on up).on q; replace qq := (qq.trans (up.mono qq.size)).trans (q.mono (Nat.le_trans qq.size up.size)); have qs2 := qq.size; clear q up)
        | (go_at_call 12; have up := below_one wy (.cells #[.bool false, .slice none 0 0] 25); (with_reducible refine (zof_N _ y2 iy).mono ?_); rintro e wz ⟨bY, Ay, ny, ky, rfl, hy, q⟩; (try have c00' := (q.cell (Nat.lt_of_lt_of_le l0 up.size)).trans ((up.cell l0).trans c00)); (try have d00' := (q.frozen (Nat.lt_of_lt_of_le l0 up.size)).trans ((up.frozen l0).trans d00)); (try have c01' := (q.cell (Nat.lt_of_lt_of_le l0 up.size)).trans ((up.cell l0).trans c01)); (try have d01' := (q.frozen (Nat.lt_of_lt_of_le l0 up.size)).trans ((up.frozen l0).trans d01)); (try have l0' := Nat.lt_of_lt_of_le l0 (Nat.le_trans up.size q.size)); (try have c10' := (q.cell (Nat.lt_of_lt_of_le l1 up.size)).trans ((up.cell l1).trans c10)); (try have d10' := (q.frozen (Nat.lt_of_lt_of_le l1 up.size)).trans ((up.frozen l1).trans d10)); (try have c11' := (q.cell (Nat.lt_of_lt_of_le l1 up.size)).trans ((up.cell l1).trans c11)); (try have d11' := (q.frozen (Nat.lt_of_lt_of_le l1 up.size)).trans ((up.frozen l1).trans d11)); (try have l1' := Nat.lt_of_lt_of_le l1 (Nat.le_trans up.size q.size)); have e00 := (q.cell (p := ⟨wy.heap.size, 0, none⟩) (by simp <;> omega)).trans (show _ = some (.bool false) by simp [go_sem]); have e01 := (q.cell (p := ⟨wy.heap.size, 1, none⟩) (by simp <;> omega)).trans (show _ = some (.slice none 0 0) by simp [go_sem]); have f00 := (q.frozen (p := ⟨wy.heap.size, 0, none⟩) (by simp <;> omega)).trans (show _ = false by simp [go_sem]); have f01 := (q.frozen (p := ⟨wy.heap.size, 1, none⟩) (by simp <;> omega)).trans (show _ = false by simp [go_sem]); have n0 : wy.heap.size < wz.heap.size := Nat.lt_of_lt_of_le (by simp <;> omega) q.size; replace hx := (hx.on up).on q; replace qq := (qq.trans (up.mono qq.size)).trans (q.mono (Nat.le_trans qq.size up.size)); have qs2 := qq.size; clear q up)
        | (go_at_call 12; have up := below_two wy (.cells #[.bool false, .slice none 0 0] 25) (.cells #[.bool false, .slice none 0 0] 25); (with_reducible refine (zof_N _ y2 iy).mono ?_); rintro e wz ⟨bY, Ay, ny, ky, rfl, hy, q⟩; (try have c00' := (q.cell (Nat.lt_of_lt_of_le l0 up.size)).trans ((up.cell l0).trans c00)); (try have d00' := (q.frozen (Nat.lt_of_lt_of_le l0 up.size)).trans ((up.frozen l0).trans d00)); (try have c01' := (q.cell (Nat.lt_of_lt_of_le l0 up.size)).trans ((up.cell l0).trans c01)); (try have d01' := (q.frozen (Nat.lt_of_lt_of_le l0 up.size)).trans ((up.frozen l0).trans d01)); (try have l0' := Nat.lt_of_lt_of_le l0 (Nat.le_trans up.size q.size)); (try have c10' := (q.cell (Nat.lt_of_lt_of_le l1 up.size)).trans ((up.cell l1).trans c10)); (try have d10' := (q.frozen (Nat.lt_of_lt_of_le l1 up.size)).trans ((up.frozen l1).trans d10)); (try have c11' := (q.cell (Nat.lt_of_lt_of_le l1 up.size)).trans ((up.cell l1).trans c11)); (try have d11' := (q.frozen (Nat.lt_of_lt_of_le l1 up.size)).trans ((up.frozen l1).trans d11)); (try have l1' := Nat.lt_of_lt_of_le l1 (Nat.le_trans up.size q.size)); have e00 := (q.cell (p := ⟨wy.heap.size, 0, none⟩) (by simp <;> omega)).trans (show _ = some (.bool false) by simp [go_sem]); have e01 := (q.cell (p := ⟨wy.heap.size, 1, none⟩) (by simp <;> omega)).trans (show _ = some (.slice none 0 0) by simp [go_sem]); have f00 := (q.frozen (p := ⟨wy.heap.size, 0, none⟩) (by simp <;> omega)).trans (show _ = false by simp [go_sem]); have f01 := (q.frozen (p := ⟨wy.heap.size, 1, none⟩) (by simp <;> omega)).trans (show _ = false by simp [go_sem]); have n0 : wy.heap.size < wz.heap.size := Nat.lt_of_lt_of_le (by simp <;> omega) q.size; have e10 := (q.cell (p := ⟨wy.heap.size + 1, 0, none⟩) (by simp <;> omega)).trans (show _ = some (.bool false) by simp [go_sem]); have e11 := (q.cell (p := ⟨wy.heap.size + 1, 1, none⟩) (by simp <;> omega)).trans (show _ = some (.slice none 0 0) by simp [go_sem]); have f10 := (q.frozen (p := ⟨wy.heap.size + 1, 0, none⟩) (by simp <;> omega)).trans (show _ = false by simp [go_sem]); have f11 := (q.frozen (p := ⟨wy.heap.size + 1, 1, none⟩) (by simp <;> omega)).trans (show _ = false by simp [go_sem]); have n1 : wy.heap.size + 1 < wz.heap.size := Nat.lt_of_lt_of_le (by simp <;> omega) q.size; replace hx := (hx.on up).on q; replace qq := (qq.trans (up.mono qq.size)).trans (q.mono (Nat.le_trans qq.size up.size)); have qs2 := qq.size; clear q up))
    all_goals (go_wp2_with fail; go_meet)
    all_goals refine ⟨_, _, bx, Ax, nx, kx, bY, Ay, ny, ky, rfl, rfl, ?_⟩
    all_goals first
      | with_reducible exact pairA hx hy qq _
      | with_reducible exact pairA' hx hy qq _
      | with_reducible exact pairB (by assumption) (by assumption) hx hy qq (by omega) _
      | with_reducible exact pairB' (by assumption) (by assumption) hx hy qq (by omega) _
      | with_reducible exact pairC (by assumption) (by assumption) (by assumption) (by assumption) hx hy qq (by omega) (by omega) (by omega)
  case rest =>
    obtain ⟨gx, gy, bx, Ax, nx, kx, bY, Ay, ny, ky, rfl, rfl, ⟨x0, x1⟩, ⟨y0, y1⟩, hx, hy, b⟩ := hcut
    have xl := cell_lt x0
    have yl := cell_lt y0
    simp only at xl yl
    replace h0 := h0.on b
    replace h1 := h1.on b
    replace p0 := (b.cell (p := ⟨w.heap.size, 0, none⟩) pl).trans p0
    replace p1 := (b.cell (p := ⟨w.heap.size, 1, none⟩) pl).trans p1
    replace pl := Nat.lt_of_lt_of_le pl b.size
    replace q0 := (b.cell (p := ⟨w.heap.size + 1, 0, none⟩) ql).trans q0
    replace q1 := (b.cell (p := ⟨w.heap.size + 1, 1, none⟩) ql).trans q1
    replace ql := Nat.lt_of_lt_of_le ql b.size
    replace s0 := (b.cell (p := ⟨w.heap.size + 1 + 1, 0, none⟩) sl).trans s0
    replace s1 := (b.cell (p := ⟨w.heap.size + 1 + 1, 1, none⟩) sl).trans s1
    replace sl := Nat.lt_of_lt_of_le sl b.size
    replace cc := cc.trans (b.mono cc.size)
    clear b
    go_wp2_with fail
    refine (zint_yes hx ix).mono ?_
    rintro e w5 ⟨rfl, b⟩
    replace h0 := h0.on b
    replace h1 := h1.on b
    replace hx := hx.on b
    replace hy := hy.on b
    replace p0 := (b.cell (p := ⟨w.heap.size, 0, none⟩) pl).trans p0
    replace p1 := (b.cell (p := ⟨w.heap.size, 1, none⟩) pl).trans p1
    replace pl := Nat.lt_of_lt_of_le pl b.size
    replace q0 := (b.cell (p := ⟨w.heap.size + 1, 0, none⟩) ql).trans q0
    replace q1 := (b.cell (p := ⟨w.heap.size + 1, 1, none⟩) ql).trans q1
    replace ql := Nat.lt_of_lt_of_le ql b.size
    replace s0 := (b.cell (p := ⟨w.heap.size + 1 + 1, 0, none⟩) sl).trans s0
    replace s1 := (b.cell (p := ⟨w.heap.size + 1 + 1, 1, none⟩) sl).trans s1
    replace sl := Nat.lt_of_lt_of_le sl b.size
    replace x0 := (b.cell (p := ⟨gx, 0, none⟩) xl).trans x0
    replace x1 := (b.cell (p := ⟨gx, 1, none⟩) xl).trans x1
    replace xl := Nat.lt_of_lt_of_le xl b.size
    replace y0 := (b.cell (p := ⟨gy, 0, none⟩) yl).trans y0
    replace y1 := (b.cell (p := ⟨gy, 1, none⟩) yl).trans y1
    replace yl := Nat.lt_of_lt_of_le yl b.size
    replace cc := cc.trans (b.mono cc.size)
    clear b
    go_wp2_with fail
    have qq : Below w5.heap.size w5 w5.drew := below_drewN (Below.refl _ w5) 1
    have h0' := h0.on qq
    have h1' := h1.on qq
    have hx' := hx.on qq
    have hy' := hy.on qq
    go_region_held3 (fun w' => w'.cell? ⟨w.heap.size, 0, none⟩ = some (.bool b0) ∧ w'.cell? ⟨w.heap.size, 1, none⟩ = some (.slice a0 len0 cap0) ∧ w'.cell? ⟨w.heap.size + 1, 0, none⟩ = some (.bool b1) ∧ w'.cell? ⟨w.heap.size + 1, 1, none⟩ = some (.slice a1 len1 cap1) ∧ w'.cell? ⟨w.heap.size + 1 + 1, 0, none⟩ = some (.int .i64 x2) ∧ w'.cell? ⟨w.heap.size + 1 + 1, 1, none⟩ = some (.int .i64 y2) ∧ w'.cell? ⟨gx, 0, none⟩ = some (.bool bx) ∧ w'.cell? ⟨gx, 1, none⟩ = some (.slice Ax nx kx) ∧ w'.cell? ⟨gy, 0, none⟩ = some (.bool bY) ∧ w'.cell? ⟨gy, 1, none⟩ = some (.slice Ay ny ky))
      (first | with_reducible exact ⟨(qq.cell (p := ⟨w.heap.size, 0, none⟩) pl).trans p0, (qq.cell (p := ⟨w.heap.size, 1, none⟩) pl).trans p1, (qq.cell (p := ⟨w.heap.size + 1, 0, none⟩) ql).trans q0, (qq.cell (p := ⟨w.heap.size + 1, 1, none⟩) ql).trans q1, (qq.cell (p := ⟨w.heap.size + 1 + 1, 0, none⟩) sl).trans s0, (qq.cell (p := ⟨w.heap.size + 1 + 1, 1, none⟩) sl).trans s1, (qq.cell (p := ⟨gx, 0, none⟩) xl).trans x0, (qq.cell (p := ⟨gx, 1, none⟩) xl).trans x1, (qq.cell (p := ⟨gy, 0, none⟩) yl).trans y0, (qq.cell (p := ⟨gy, 1, none⟩) yl).trans y1⟩ | go_keep)
      (first
        | (go_at_call 22; (with_reducible refine (zcmp_v (-cx) h1' h0' k1 k0 HC1.out).mono ?_); rintro e wz ⟨rfl, q⟩; replace qq := qq.trans (q.mono qq.size); (try replace h0' := h0'.on q); (try replace h1' := h1'.on q); (try replace hx' := hx'.on q); (try replace hy' := hy'.on q); (try replace na := na.on q); (try replace nb := nb.on q); (try replace sa := sa.on q); (try replace sb := sb.on q); clear q)
        | (go_at_call 20; (with_reducible refine (zneg_N h0' k0).mono ?_); rintro e wz ⟨bna, Ana, nna, cna, rfl, na, q⟩; replace qq := qq.trans (q.mono qq.size); (try replace h0' := h0'.on q); (try replace h1' := h1'.on q); (try replace hx' := hx'.on q); (try replace hy' := hy'.on q); (try replace nb := nb.on q); (try replace sa := sa.on q); (try replace sb := sb.on q); clear q)
        | (go_at_call 20; (with_reducible refine (zneg_N h1' k1).mono ?_); rintro e wz ⟨bnb, Anb, nnb, cnb, rfl, nb, q⟩; replace qq := qq.trans (q.mono qq.size); (try replace h0' := h0'.on q); (try replace h1' := h1'.on q); (try replace hx' := hx'.on q); (try replace hy' := hy'.on q); (try replace na := na.on q); (try replace sa := sa.on q); (try replace sb := sb.on q); clear q)
        | (go_at_call 22; (with_reducible refine (zcmp_v (-cx) na nb g0 g1 HC2.out).mono ?_); rintro e wz ⟨rfl, q⟩; replace qq := qq.trans (q.mono qq.size); (try replace h0' := h0'.on q); (try replace h1' := h1'.on q); (try replace hx' := hx'.on q); (try replace hy' := hy'.on q); (try replace na := na.on q); (try replace nb := nb.on q); (try replace sa := sa.on q); (try replace sb := sb.on q); clear q)
        | (go_at_call 16; (with_reducible refine (zadd_N h0' hx' k0 mx).mono ?_); rintro e wz ⟨bsa, Asa, nsa, csa, rfl, sa, q⟩; replace qq := qq.trans (q.mono qq.size); (try replace h0' := h0'.on q); (try replace h1' := h1'.on q); (try replace hx' := hx'.on q); (try replace hy' := hy'.on q); (try replace na := na.on q); (try replace nb := nb.on q); (try replace sb := sb.on q); clear q)
        | (go_at_call 16; (with_reducible refine (zadd_N h1' hx' k1 mx).mono ?_); rintro e wz ⟨bsb, Asb, nsb, csb, rfl, sb, q⟩; replace qq := qq.trans (q.mono qq.size); (try replace h0' := h0'.on q); (try replace h1' := h1'.on q); (try replace hx' := hx'.on q); (try replace hy' := hy'.on q); (try replace na := na.on q); (try replace nb := nb.on q); (try replace sa := sa.on q); clear q)
        | (go_at_call 22; (with_reducible refine (zcmp_v cx sa sb u0 u1 HC3.out).mono ?_); rintro e wz ⟨rfl, q⟩; replace qq := qq.trans (q.mono qq.size); (try replace h0' := h0'.on q); (try replace h1' := h1'.on q); (try replace hx' := hx'.on q); (try replace hy' := hy'.on q); (try replace na := na.on q); (try replace nb := nb.on q); (try replace sa := sa.on q); (try replace sb := sb.on q); clear q))
    clear h0
    have h0 := h0'
    clear h0'
    clear h1
    have h1 := h1'
    clear h1'
    clear hx
    have hx := hx'
    clear hx'
    clear hy
    have hy := hy'
    clear hy'
    replace p0 := (qq.cell (p := ⟨w.heap.size, 0, none⟩) pl).trans p0
    replace p1 := (qq.cell (p := ⟨w.heap.size, 1, none⟩) pl).trans p1
    replace pl := Nat.lt_of_lt_of_le pl qq.size
    replace q0 := (qq.cell (p := ⟨w.heap.size + 1, 0, none⟩) ql).trans q0
    replace q1 := (qq.cell (p := ⟨w.heap.size + 1, 1, none⟩) ql).trans q1
    replace ql := Nat.lt_of_lt_of_le ql qq.size
    replace s0 := (qq.cell (p := ⟨w.heap.size + 1 + 1, 0, none⟩) sl).trans s0
    replace s1 := (qq.cell (p := ⟨w.heap.size + 1 + 1, 1, none⟩) sl).trans s1
    replace sl := Nat.lt_of_lt_of_le sl qq.size
    replace x0 := (qq.cell (p := ⟨gx, 0, none⟩) xl).trans x0
    replace x1 := (qq.cell (p := ⟨gx, 1, none⟩) xl).trans x1
    replace xl := Nat.lt_of_lt_of_le xl qq.size
    replace y0 := (qq.cell (p := ⟨gy, 0, none⟩) yl).trans y0
    replace y1 := (qq.cell (p := ⟨gy, 1, none⟩) yl).trans y1
    replace yl := Nat.lt_of_lt_of_le yl qq.size
    replace cc := cc.trans (qq.mono cc.size)
    clear qq
    go_wp2_with fail
    refine (zcmp_v cl hx hy mx my HCL.out).mono ?_
    rintro e w13 ⟨rfl, b⟩
    replace h0 := h0.on b
    replace h1 := h1.on b
    replace hx := hx.on b
    replace hy := hy.on b
    replace p0 := (b.cell (p := ⟨w.heap.size, 0, none⟩) pl).trans p0
    replace p1 := (b.cell (p := ⟨w.heap.size, 1, none⟩) pl).trans p1
    replace pl := Nat.lt_of_lt_of_le pl b.size
    replace q0 := (b.cell (p := ⟨w.heap.size + 1, 0, none⟩) ql).trans q0
    replace q1 := (b.cell (p := ⟨w.heap.size + 1, 1, none⟩) ql).trans q1
    replace ql := Nat.lt_of_lt_of_le ql b.size
    replace s0 := (b.cell (p := ⟨w.heap.size + 1 + 1, 0, none⟩) sl).trans s0
    replace s1 := (b.cell (p := ⟨w.heap.size + 1 + 1, 1, none⟩) sl).trans s1
    replace sl := Nat.lt_of_lt_of_le sl b.size
    replace x0 := (b.cell (p := ⟨gx, 0, none⟩) xl).trans x0
    replace x1 := (b.cell (p := ⟨gx, 1, none⟩) xl).trans x1
    replace xl := Nat.lt_of_lt_of_le xl b.size
    replace y0 := (b.cell (p := ⟨gy, 0, none⟩) yl).trans y0
    replace y1 := (b.cell (p := ⟨gy, 1, none⟩) yl).trans y1
    replace yl := Nat.lt_of_lt_of_le yl b.size
    replace cc := cc.trans (b.mono cc.size)
    clear b
    go_wp2_with fail
    refine (zint_yes h0 hz).mono ?_
    rintro e w14 ⟨rfl, b⟩
    replace h0 := h0.on b
    replace h1 := h1.on b
    replace hx := hx.on b
    replace hy := hy.on b
    replace p0 := (b.cell (p := ⟨w.heap.size, 0, none⟩) pl).trans p0
    replace p1 := (b.cell (p := ⟨w.heap.size, 1, none⟩) pl).trans p1
    replace pl := Nat.lt_of_lt_of_le pl b.size
    replace q0 := (b.cell (p := ⟨w.heap.size + 1, 0, none⟩) ql).trans q0
    replace q1 := (b.cell (p := ⟨w.heap.size + 1, 1, none⟩) ql).trans q1
    replace ql := Nat.lt_of_lt_of_le ql b.size
    replace s0 := (b.cell (p := ⟨w.heap.size + 1 + 1, 0, none⟩) sl).trans s0
    replace s1 := (b.cell (p := ⟨w.heap.size + 1 + 1, 1, none⟩) sl).trans s1
    replace sl := Nat.lt_of_lt_of_le sl b.size
    replace x0 := (b.cell (p := ⟨gx, 0, none⟩) xl).trans x0
    replace x1 := (b.cell (p := ⟨gx, 1, none⟩) xl).trans x1
    replace xl := Nat.lt_of_lt_of_le xl b.size
    replace y0 := (b.cell (p := ⟨gy, 0, none⟩) yl).trans y0
    replace y1 := (b.cell (p := ⟨gy, 1, none⟩) yl).trans y1
    replace yl := Nat.lt_of_lt_of_le yl b.size
    replace cc := cc.trans (b.mono cc.size)
    clear b
    go_wp2_with fail
    refine (alive_any _ (ht.on cc)).mono ?_
    rintro e w15 ⟨rfl, b⟩
    replace h0 := h0.on b
    replace h1 := h1.on b
    replace hx := hx.on b
    replace hy := hy.on b
    replace p0 := (b.cell (p := ⟨w.heap.size, 0, none⟩) pl).trans p0
    replace p1 := (b.cell (p := ⟨w.heap.size, 1, none⟩) pl).trans p1
    replace pl := Nat.lt_of_lt_of_le pl b.size
    replace q0 := (b.cell (p := ⟨w.heap.size + 1, 0, none⟩) ql).trans q0
    replace q1 := (b.cell (p := ⟨w.heap.size + 1, 1, none⟩) ql).trans q1
    replace ql := Nat.lt_of_lt_of_le ql b.size
    replace s0 := (b.cell (p := ⟨w.heap.size + 1 + 1, 0, none⟩) sl).trans s0
    replace s1 := (b.cell (p := ⟨w.heap.size + 1 + 1, 1, none⟩) sl).trans s1
    replace sl := Nat.lt_of_lt_of_le sl b.size
    replace x0 := (b.cell (p := ⟨gx, 0, none⟩) xl).trans x0
    replace x1 := (b.cell (p := ⟨gx, 1, none⟩) xl).trans x1
    replace xl := Nat.lt_of_lt_of_le xl b.size
    replace y0 := (b.cell (p := ⟨gy, 0, none⟩) yl).trans y0
    replace y1 := (b.cell (p := ⟨gy, 1, none⟩) yl).trans y1
    replace yl := Nat.lt_of_lt_of_le yl b.size
    replace cc := cc.trans (b.mono cc.size)
    clear b
    go_wp2_with fail
    refine (zsame_N r h0 h1 (Nat.le_trans k0 (by omega)) (Nat.le_trans k1 (by omega)) HR.out).mono ?_
    rintro e w16 ⟨rfl, b⟩
    replace h0 := h0.on b
    replace h1 := h1.on b
    replace hx := hx.on b
    replace hy := hy.on b
    replace p0 := (b.cell (p := ⟨w.heap.size, 0, none⟩) pl).trans p0
    replace p1 := (b.cell (p := ⟨w.heap.size, 1, none⟩) pl).trans p1
    replace pl := Nat.lt_of_lt_of_le pl b.size
    replace q0 := (b.cell (p := ⟨w.heap.size + 1, 0, none⟩) ql).trans q0
    replace q1 := (b.cell (p := ⟨w.heap.size + 1, 1, none⟩) ql).trans q1
    replace ql := Nat.lt_of_lt_of_le ql b.size
    replace s0 := (b.cell (p := ⟨w.heap.size + 1 + 1, 0, none⟩) sl).trans s0
    replace s1 := (b.cell (p := ⟨w.heap.size + 1 + 1, 1, none⟩) sl).trans s1
    replace sl := Nat.lt_of_lt_of_le sl b.size
    replace x0 := (b.cell (p := ⟨gx, 0, none⟩) xl).trans x0
    replace x1 := (b.cell (p := ⟨gx, 1, none⟩) xl).trans x1
    replace xl := Nat.lt_of_lt_of_le xl b.size
    replace y0 := (b.cell (p := ⟨gy, 0, none⟩) yl).trans y0
    replace y1 := (b.cell (p := ⟨gy, 1, none⟩) yl).trans y1
    replace yl := Nat.lt_of_lt_of_le yl b.size
    replace cc := cc.trans (b.mono cc.size)
    clear b
    go_wp2_with fail
    go_ret
    exact ⟨rfl, cc⟩

end Go.Proofs.YtdaohhbdhmmihaaDoor

/-
  The way through ZedOrder, where the first integer is none of 64 bits.
-/
namespace Go.Proofs.YtdaohhbdhmmihaaDoor
open Go.RowKit
set_option linter.unusedVariables false

set_option maxRecDepth 100000 in
set_option maxHeartbeats 8000000 in
theorem ZedOrder_great {w : World} {b0 b1 : Bool} {a0 a1 : Option Addr} {len0 cap0 len1 cap1 : Nat} {z0 : Int} (h0 : Zn w b0 a0 len0 cap0 z0) {z1 : Int} (h1 : Zn w b1 a1 len1 cap1 z1) (ht : Tab w) (x2 y2 : Int) (ix : I64 x2) (iy : I64 y2) (l0 : (limbs z0.natAbs).length ≤ 6) (l1 : (limbs z1.natAbs).length ≤ 6) (hz : ¬ I64 z0) (G0 : ∀ W : World, Below w.heap.size w W → Calls Tryd.prog 24 #[.agg #[.bool b0, .slice a0 len0 cap0], .int .i64 6] W (GotV W (.bool true))) (G1 : ∀ W : World, Below w.heap.size w W → Calls Tryd.prog 24 #[.agg #[.bool b1, .slice a1 len1 cap1], .int .i64 6] W (GotV W (.bool true))) :
    Calls Tryd.prog 6 #[.agg #[.bool b0, .slice a0 len0 cap0], .agg #[.bool b1, .slice a1 len1 cap1], .agg #[.int .i64 x2, .int .i64 y2]] w fun e w' => e = .returned (.bool true) ∧ Below w.heap.size w w' := by
  have cc := Below.refl w.heap.size w
  have k0 : (limbs z0.natAbs).length ≤ 300 := by omega
  have k1 : (limbs z1.natAbs).length ≤ 300 := by omega
  have mx := len_z ix.abs
  have my := len_z iy.abs
  have g0 := zlen_neg k0
  have g1 := zlen_neg k1
  have u0 : (limbs (z0 + x2).natAbs).length ≤ 300 := Nat.le_trans (zlen_add (k := 6) l0 (Nat.le_trans (len_one ix.abs) (by omega))) (by omega)
  have u1 : (limbs (z1 + x2).natAbs).length ≤ 300 := Nat.le_trans (zlen_add (k := 6) l1 (Nat.le_trans (len_one ix.abs) (by omega))) (by omega)
  obtain ⟨cx, hcx⟩ : ∃ cx, cmpZ z0 z1 = cx := ⟨_, rfl⟩
  obtain ⟨cl, hcl⟩ : ∃ cl, cmpZ x2 y2 = cl := ⟨_, rfl⟩
  obtain ⟨r, hr⟩ : ∃ r : Bool, decide (z0 = z1) = r := ⟨_, rfl⟩
  obtain ⟨dl, hdl⟩ : ∃ dl : Bool, decide (x2 < y2) = dl := ⟨_, rfl⟩
  obtain ⟨bl, hbl⟩ : ∃ bl : Int, ((blen z0.natAbs : Nat) : Int) = bl := ⟨_, rfl⟩
  have hb64 : (64 : Int) ≤ bl := by rw [← hbl]; exact blen_great hz
  have hbd := cmpZ_bd z0 z1
  rw [hcx] at hbd
  obtain ⟨d1, d2⟩ := hbd
  have t1 : decide (cx < -1) = false := decide_eq_false (by omega)
  have t2 : decide (1 < cx) = false := decide_eq_false (by omega)
  have HC0 := Lib.hid hcx
  have HC1 : Hid (cmpZ z1 z0 = -cx) := Lib.hid (by rw [cmpZ_swap, hcx])
  have HC2 : Hid (cmpZ (-z0) (-z1) = -cx) := Lib.hid (by rw [cmpZ_negs, hcx])
  have HC3 : Hid (cmpZ (z0 + x2) (z1 + x2) = cx) := Lib.hid (by rw [cmpZ_plus, hcx])
  have HCL := Lib.hid hcl
  have HR := Lib.hid hr
  have HBL := Lib.hid hbl
  have hl : decide (cl < 0) = dl := by rw [← hcl, cmpZ_less, hdl]
  have hq : (cx == 0) = r := by rw [← hcx, cmpZ_same, hr]
  have e0 : IntKind.i64.wrap (-cx) = -cx := IntWalk.i64_in _ (by omega)
  clear hcx hcl hr hbl
  go_enter Tryd.func6, Tryd.ntmps6
  go_wp2_with fail
  have bA : Below w.heap.size w (((w.alloc (.cells #[.bool b0, .slice a0 len0 cap0] 25)).alloc (.cells #[.bool b1, .slice a1 len1 cap1] 25)).alloc (.cells #[.int .i64 x2, .int .i64 y2] 43)) := ((((Below.refl _ w).alloc (by simp) _).alloc (by simp) _).alloc (by simp <;> omega) _)
  replace h0 := h0.on bA
  replace h1 := h1.on bA
  replace cc := cc.trans (bA.mono cc.size)
  clear bA
  have p0 : (((w.alloc (.cells #[.bool b0, .slice a0 len0 cap0] 25)).alloc (.cells #[.bool b1, .slice a1 len1 cap1] 25)).alloc (.cells #[.int .i64 x2, .int .i64 y2] 43)).cell? ⟨w.heap.size, 0, none⟩ = some (.bool b0) := by simp [go_sem]
  have p1 : (((w.alloc (.cells #[.bool b0, .slice a0 len0 cap0] 25)).alloc (.cells #[.bool b1, .slice a1 len1 cap1] 25)).alloc (.cells #[.int .i64 x2, .int .i64 y2] 43)).cell? ⟨w.heap.size, 1, none⟩ = some (.slice a0 len0 cap0) := by simp [go_sem]
  have pl : w.heap.size < (((w.alloc (.cells #[.bool b0, .slice a0 len0 cap0] 25)).alloc (.cells #[.bool b1, .slice a1 len1 cap1] 25)).alloc (.cells #[.int .i64 x2, .int .i64 y2] 43)).heap.size := by simp <;> omega
  have q0 : (((w.alloc (.cells #[.bool b0, .slice a0 len0 cap0] 25)).alloc (.cells #[.bool b1, .slice a1 len1 cap1] 25)).alloc (.cells #[.int .i64 x2, .int .i64 y2] 43)).cell? ⟨w.heap.size + 1, 0, none⟩ = some (.bool b1) := by simp [go_sem]
  have q1 : (((w.alloc (.cells #[.bool b0, .slice a0 len0 cap0] 25)).alloc (.cells #[.bool b1, .slice a1 len1 cap1] 25)).alloc (.cells #[.int .i64 x2, .int .i64 y2] 43)).cell? ⟨w.heap.size + 1, 1, none⟩ = some (.slice a1 len1 cap1) := by simp [go_sem]
  have ql : w.heap.size + 1 < (((w.alloc (.cells #[.bool b0, .slice a0 len0 cap0] 25)).alloc (.cells #[.bool b1, .slice a1 len1 cap1] 25)).alloc (.cells #[.int .i64 x2, .int .i64 y2] 43)).heap.size := by simp <;> omega
  have s0 : (((w.alloc (.cells #[.bool b0, .slice a0 len0 cap0] 25)).alloc (.cells #[.bool b1, .slice a1 len1 cap1] 25)).alloc (.cells #[.int .i64 x2, .int .i64 y2] 43)).cell? ⟨w.heap.size + 1 + 1, 0, none⟩ = some (.int .i64 x2) := by simp [go_sem]
  have s1 : (((w.alloc (.cells #[.bool b0, .slice a0 len0 cap0] 25)).alloc (.cells #[.bool b1, .slice a1 len1 cap1] 25)).alloc (.cells #[.int .i64 x2, .int .i64 y2] 43)).cell? ⟨w.heap.size + 1 + 1, 1, none⟩ = some (.int .i64 y2) := by simp [go_sem]
  have sl : w.heap.size + 1 + 1 < (((w.alloc (.cells #[.bool b0, .slice a0 len0 cap0] 25)).alloc (.cells #[.bool b1, .slice a1 len1 cap1] 25)).alloc (.cells #[.int .i64 x2, .int .i64 y2] 43)).heap.size := by simp <;> omega
  generalize ((w.alloc (.cells #[.bool b0, .slice a0 len0 cap0] 25)).alloc (.cells #[.bool b1, .slice a1 len1 cap1] 25)).alloc (.cells #[.int .i64 x2, .int .i64 y2] 43) = v1 at *
  refine (G0 _ cc).mono ?_
  rintro e w2 ⟨rfl, b⟩
  replace h0 := h0.on b
  replace h1 := h1.on b
  replace p0 := (b.cell (p := ⟨w.heap.size, 0, none⟩) pl).trans p0
  replace p1 := (b.cell (p := ⟨w.heap.size, 1, none⟩) pl).trans p1
  replace pl := Nat.lt_of_lt_of_le pl b.size
  replace q0 := (b.cell (p := ⟨w.heap.size + 1, 0, none⟩) ql).trans q0
  replace q1 := (b.cell (p := ⟨w.heap.size + 1, 1, none⟩) ql).trans q1
  replace ql := Nat.lt_of_lt_of_le ql b.size
  replace s0 := (b.cell (p := ⟨w.heap.size + 1 + 1, 0, none⟩) sl).trans s0
  replace s1 := (b.cell (p := ⟨w.heap.size + 1 + 1, 1, none⟩) sl).trans s1
  replace sl := Nat.lt_of_lt_of_le sl b.size
  replace cc := cc.trans (b.mono cc.size)
  clear b
  go_wp2_with fail
  refine (G1 _ cc).mono ?_
  rintro e w3 ⟨rfl, b⟩
  replace h0 := h0.on b
  replace h1 := h1.on b
  replace p0 := (b.cell (p := ⟨w.heap.size, 0, none⟩) pl).trans p0
  replace p1 := (b.cell (p := ⟨w.heap.size, 1, none⟩) pl).trans p1
  replace pl := Nat.lt_of_lt_of_le pl b.size
  replace q0 := (b.cell (p := ⟨w.heap.size + 1, 0, none⟩) ql).trans q0
  replace q1 := (b.cell (p := ⟨w.heap.size + 1, 1, none⟩) ql).trans q1
  replace ql := Nat.lt_of_lt_of_le ql b.size
  replace s0 := (b.cell (p := ⟨w.heap.size + 1 + 1, 0, none⟩) sl).trans s0
  replace s1 := (b.cell (p := ⟨w.heap.size + 1 + 1, 1, none⟩) sl).trans s1
  replace sl := Nat.lt_of_lt_of_le sl b.size
  replace cc := cc.trans (b.mono cc.size)
  clear b
  go_wp2_with fail
  refine (zcmp_v cx h0 h1 k0 k1 HC0.out).mono ?_
  rintro e w4 ⟨rfl, b⟩
  replace h0 := h0.on b
  replace h1 := h1.on b
  replace p0 := (b.cell (p := ⟨w.heap.size, 0, none⟩) pl).trans p0
  replace p1 := (b.cell (p := ⟨w.heap.size, 1, none⟩) pl).trans p1
  replace pl := Nat.lt_of_lt_of_le pl b.size
  replace q0 := (b.cell (p := ⟨w.heap.size + 1, 0, none⟩) ql).trans q0
  replace q1 := (b.cell (p := ⟨w.heap.size + 1, 1, none⟩) ql).trans q1
  replace ql := Nat.lt_of_lt_of_le ql b.size
  replace s0 := (b.cell (p := ⟨w.heap.size + 1 + 1, 0, none⟩) sl).trans s0
  replace s1 := (b.cell (p := ⟨w.heap.size + 1 + 1, 1, none⟩) sl).trans s1
  replace sl := Nat.lt_of_lt_of_le sl b.size
  replace cc := cc.trans (b.mono cc.size)
  clear b
  go_upto_region 4 with fail
  go_cut [8, 9] (fun ux uy wx => ∃ (gx gy : Nat) (bx : Bool) (Ax : Option Addr) (nx kx : Nat) (bY : Bool) (Ay : Option Addr) (ny ky : Nat), ux = .pointer (some ⟨gx, 0, none⟩) ∧ uy = .pointer (some ⟨gy, 0, none⟩) ∧ Both w4 wx gx gy bx Ax nx kx bY Ay ny ky (x2) (y2))
  case first =>
    have B0 : Below w4.heap.size w4 w4.drew := below_drewN (Below.refl _ w4) 1
    have B1 : Below w4.heap.size w4 (w4.alloc (.cells #[.bool false, .slice none 0 0] 25)).drew := below_drewN (below_one _ _) 1
    have B2 : Below w4.heap.size w4 ((w4.alloc (.cells #[.bool false, .slice none 0 0] 25)).alloc (.cells #[.bool false, .slice none 0 0] 25)).drew := below_drewN (below_two _ _ _) 1
    go_region_held3 (fun w' => w'.cell? ⟨w.heap.size, 0, none⟩ = some (.bool b0) ∧ w'.cell? ⟨w.heap.size, 1, none⟩ = some (.slice a0 len0 cap0) ∧ w'.cell? ⟨w.heap.size + 1, 0, none⟩ = some (.bool b1) ∧ w'.cell? ⟨w.heap.size + 1, 1, none⟩ = some (.slice a1 len1 cap1) ∧ w'.cell? ⟨w.heap.size + 1 + 1, 0, none⟩ = some (.int .i64 x2) ∧ w'.cell? ⟨w.heap.size + 1 + 1, 1, none⟩ = some (.int .i64 y2))
      (first | with_reducible exact ⟨p0, p1, q0, q1, s0, s1⟩ | with_reducible exact ⟨keep_alloc (p0), keep_alloc (p1), keep_alloc (q0), keep_alloc (q1), keep_alloc (s0), keep_alloc (s1)⟩ | with_reducible exact ⟨keep_alloc (keep_alloc (p0)), keep_alloc (keep_alloc (p1)), keep_alloc (keep_alloc (q0)), keep_alloc (keep_alloc (q1)), keep_alloc (keep_alloc (s0)), keep_alloc (keep_alloc (s1))⟩ | with_reducible exact ⟨(qq.cell (p := ⟨w.heap.size, 0, none⟩) pl).trans p0, (qq.cell (p := ⟨w.heap.size, 1, none⟩) pl).trans p1, (qq.cell (p := ⟨w.heap.size + 1, 0, none⟩) ql).trans q0, (qq.cell (p := ⟨w.heap.size + 1, 1, none⟩) ql).trans q1, (qq.cell (p := ⟨w.heap.size + 1 + 1, 0, none⟩) sl).trans s0, (qq.cell (p := ⟨w.heap.size + 1 + 1, 1, none⟩) sl).trans s1⟩ | with_reducible exact ⟨keep_alloc ((qq.cell (p := ⟨w.heap.size, 0, none⟩) pl).trans p0), keep_alloc ((qq.cell (p := ⟨w.heap.size, 1, none⟩) pl).trans p1), keep_alloc ((qq.cell (p := ⟨w.heap.size + 1, 0, none⟩) ql).trans q0), keep_alloc ((qq.cell (p := ⟨w.heap.size + 1, 1, none⟩) ql).trans q1), keep_alloc ((qq.cell (p := ⟨w.heap.size + 1 + 1, 0, none⟩) sl).trans s0), keep_alloc ((qq.cell (p := ⟨w.heap.size + 1 + 1, 1, none⟩) sl).trans s1)⟩ | with_reducible exact ⟨keep_alloc (keep_alloc ((qq.cell (p := ⟨w.heap.size, 0, none⟩) pl).trans p0)), keep_alloc (keep_alloc ((qq.cell (p := ⟨w.heap.size, 1, none⟩) pl).trans p1)), keep_alloc (keep_alloc ((qq.cell (p := ⟨w.heap.size + 1, 0, none⟩) ql).trans q0)), keep_alloc (keep_alloc ((qq.cell (p := ⟨w.heap.size + 1, 1, none⟩) ql).trans q1)), keep_alloc (keep_alloc ((qq.cell (p := ⟨w.heap.size + 1 + 1, 0, none⟩) sl).trans s0)), keep_alloc (keep_alloc ((qq.cell (p := ⟨w.heap.size + 1 + 1, 1, none⟩) sl).trans s1))⟩ | with_reducible exact ⟨(cell_store (by omega)).trans ((qq.cell (p := ⟨w.heap.size, 0, none⟩) pl).trans p0), (cell_store (by omega)).trans ((qq.cell (p := ⟨w.heap.size, 1, none⟩) pl).trans p1), (cell_store (by omega)).trans ((qq.cell (p := ⟨w.heap.size + 1, 0, none⟩) ql).trans q0), (cell_store (by omega)).trans ((qq.cell (p := ⟨w.heap.size + 1, 1, none⟩) ql).trans q1), (cell_store (by omega)).trans ((qq.cell (p := ⟨w.heap.size + 1 + 1, 0, none⟩) sl).trans s0), (cell_store (by omega)).trans ((qq.cell (p := ⟨w.heap.size + 1 + 1, 1, none⟩) sl).trans s1)⟩ | with_reducible exact ⟨keep_alloc ((cell_store (by omega)).trans ((qq.cell (p := ⟨w.heap.size, 0, none⟩) pl).trans p0)), keep_alloc ((cell_store (by omega)).trans ((qq.cell (p := ⟨w.heap.size, 1, none⟩) pl).trans p1)), keep_alloc ((cell_store (by omega)).trans ((qq.cell (p := ⟨w.heap.size + 1, 0, none⟩) ql).trans q0)), keep_alloc ((cell_store (by omega)).trans ((qq.cell (p := ⟨w.heap.size + 1, 1, none⟩) ql).trans q1)), keep_alloc ((cell_store (by omega)).trans ((qq.cell (p := ⟨w.heap.size + 1 + 1, 0, none⟩) sl).trans s0)), keep_alloc ((cell_store (by omega)).trans ((qq.cell (p := ⟨w.heap.size + 1 + 1, 1, none⟩) sl).trans s1))⟩ | with_reducible exact ⟨keep_alloc (keep_alloc ((cell_store (by omega)).trans ((qq.cell (p := ⟨w.heap.size, 0, none⟩) pl).trans p0))), keep_alloc (keep_alloc ((cell_store (by omega)).trans ((qq.cell (p := ⟨w.heap.size, 1, none⟩) pl).trans p1))), keep_alloc (keep_alloc ((cell_store (by omega)).trans ((qq.cell (p := ⟨w.heap.size + 1, 0, none⟩) ql).trans q0))), keep_alloc (keep_alloc ((cell_store (by omega)).trans ((qq.cell (p := ⟨w.heap.size + 1, 1, none⟩) ql).trans q1))), keep_alloc (keep_alloc ((cell_store (by omega)).trans ((qq.cell (p := ⟨w.heap.size + 1 + 1, 0, none⟩) sl).trans s0))), keep_alloc (keep_alloc ((cell_store (by omega)).trans ((qq.cell (p := ⟨w.heap.size + 1 + 1, 1, none⟩) sl).trans s1)))⟩ | with_reducible exact ⟨(cell_store (by omega)).trans ((cell_store (by omega)).trans ((qq.cell (p := ⟨w.heap.size, 0, none⟩) pl).trans p0)), (cell_store (by omega)).trans ((cell_store (by omega)).trans ((qq.cell (p := ⟨w.heap.size, 1, none⟩) pl).trans p1)), (cell_store (by omega)).trans ((cell_store (by omega)).trans ((qq.cell (p := ⟨w.heap.size + 1, 0, none⟩) ql).trans q0)), (cell_store (by omega)).trans ((cell_store (by omega)).trans ((qq.cell (p := ⟨w.heap.size + 1, 1, none⟩) ql).trans q1)), (cell_store (by omega)).trans ((cell_store (by omega)).trans ((qq.cell (p := ⟨w.heap.size + 1 + 1, 0, none⟩) sl).trans s0)), (cell_store (by omega)).trans ((cell_store (by omega)).trans ((qq.cell (p := ⟨w.heap.size + 1 + 1, 1, none⟩) sl).trans s1))⟩ | with_reducible exact ⟨keep_alloc ((cell_store (by omega)).trans ((cell_store (by omega)).trans ((qq.cell (p := ⟨w.heap.size, 0, none⟩) pl).trans p0))), keep_alloc ((cell_store (by omega)).trans ((cell_store (by omega)).trans ((qq.cell (p := ⟨w.heap.size, 1, none⟩) pl).trans p1))), keep_alloc ((cell_store (by omega)).trans ((cell_store (by omega)).trans ((qq.cell (p := ⟨w.heap.size + 1, 0, none⟩) ql).trans q0))), keep_alloc ((cell_store (by omega)).trans ((cell_store (by omega)).trans ((qq.cell (p := ⟨w.heap.size + 1, 1, none⟩) ql).trans q1))), keep_alloc ((cell_store (by omega)).trans ((cell_store (by omega)).trans ((qq.cell (p := ⟨w.heap.size + 1 + 1, 0, none⟩) sl).trans s0))), keep_alloc ((cell_store (by omega)).trans ((cell_store (by omega)).trans ((qq.cell (p := ⟨w.heap.size + 1 + 1, 1, none⟩) sl).trans s1)))⟩ | with_reducible exact ⟨keep_alloc (keep_alloc ((cell_store (by omega)).trans ((cell_store (by omega)).trans ((qq.cell (p := ⟨w.heap.size, 0, none⟩) pl).trans p0)))), keep_alloc (keep_alloc ((cell_store (by omega)).trans ((cell_store (by omega)).trans ((qq.cell (p := ⟨w.heap.size, 1, none⟩) pl).trans p1)))), keep_alloc (keep_alloc ((cell_store (by omega)).trans ((cell_store (by omega)).trans ((qq.cell (p := ⟨w.heap.size + 1, 0, none⟩) ql).trans q0)))), keep_alloc (keep_alloc ((cell_store (by omega)).trans ((cell_store (by omega)).trans ((qq.cell (p := ⟨w.heap.size + 1, 1, none⟩) ql).trans q1)))), keep_alloc (keep_alloc ((cell_store (by omega)).trans ((cell_store (by omega)).trans ((qq.cell (p := ⟨w.heap.size + 1 + 1, 0, none⟩) sl).trans s0)))), keep_alloc (keep_alloc ((cell_store (by omega)).trans ((cell_store (by omega)).trans ((qq.cell (p := ⟨w.heap.size + 1 + 1, 1, none⟩) sl).trans s1))))⟩ | go_keep)
      (first
        | (go_at_call 12; (with_reducible refine (zof_N _ x2 ix).mono ?_); rintro e wy ⟨bx, Ax, nx, kx, rfl, hx, q⟩; have qq := B0.trans (q.mono B0.size); have qs := qq.size; clear q)
        | (go_at_call 12; (with_reducible refine (zof_N _ x2 ix).mono ?_); rintro e wy ⟨bx, Ax, nx, kx, rfl, hx, q⟩; have qq := B1.trans (q.mono B1.size); have qs := qq.size; have c00 := (q.cell (p := ⟨w4.heap.size, 0, none⟩) (by simp <;> omega)).trans (show _ = some (.bool false) by simp [go_sem]); have c01 := (q.cell (p := ⟨w4.heap.size, 1, none⟩) (by simp <;> omega)).trans (show _ = some (.slice none 0 0) by simp [go_sem]); have d00 := (q.frozen (p := ⟨w4.heap.size, 0, none⟩) (by simp <;> omega)).trans (show _ = false by simp [go_sem]); have d01 := (q.frozen (p := ⟨w4.heap.size, 1, none⟩) (by simp <;> omega)).trans (show _ = false by simp [go_sem]); have l0 : w4.heap.size < wy.heap.size := Nat.lt_of_lt_of_le (by simp <;> omega) q.size; clear q)
        | (go_at_call 12; (with_reducible refine (zof_N _ x2 ix).mono ?_); rintro e wy ⟨bx, Ax, nx, kx, rfl, hx, q⟩; have qq := B2.trans (q.mono B2.size); have qs := qq.size; have c00 := (q.cell (p := ⟨w4.heap.size, 0, none⟩) (by simp <;> omega)).trans (show _ = some (.bool false) by simp [go_sem]); have c01 := (q.cell (p := ⟨w4.heap.size, 1, none⟩) (by simp <;> omega)).trans (show _ = some (.slice none 0 0) by simp [go_sem]); have d00 := (q.frozen (p := ⟨w4.heap.size, 0, none⟩) (by simp <;> omega)).trans (show _ = false by simp [go_sem]); have d01 := (q.frozen (p := ⟨w4.heap.size, 1, none⟩) (by simp <;> omega)).trans (show _ = false by simp [go_sem]); have l0 : w4.heap.size < wy.heap.size := Nat.lt_of_lt_of_le (by simp <;> omega) q.size; have c10 := (q.cell (p := ⟨w4.heap.size + 1, 0, none⟩) (by simp <;> omega)).trans (show _ = some (.bool false) by simp [go_sem]); have c11 := (q.cell (p := ⟨w4.heap.size + 1, 1, none⟩) (by simp <;> omega)).trans (show _ = some (.slice none 0 0) by simp [go_sem]); have d10 := (q.frozen (p := ⟨w4.heap.size + 1, 0, none⟩) (by simp <;> omega)).trans (show _ = false by simp [go_sem]); have d11 := (q.frozen (p := ⟨w4.heap.size + 1, 1, none⟩) (by simp <;> omega)).trans (show _ = false by simp [go_sem]); have l1 : w4.heap.size + 1 < wy.heap.size := Nat.lt_of_lt_of_le (by simp <;> omega) q.size; clear q)
        | (go_at_call 12; have up := Below.refl wy.heap.size wy; (with_reducible refine (zof_N _ y2 iy).mono ?_); rintro e wz ⟨bY, Ay, ny, ky, rfl, hy, q⟩; (try have c00' := (q.cell (Nat.lt_of_lt_of_le l0 up.size)).trans ((up.cell l0).trans c00)); (try have d00' := (q.frozen (Nat.lt_of_lt_of_le l0 up.size)).trans ((up.frozen l0).trans d00)); (try have c01' := (q.cell (Nat.lt_of_lt_of_le l0 up.size)).trans ((up.cell l0).trans c01)); (try have d01' := (q.frozen (Nat.lt_of_lt_of_le l0 up.size)).trans ((up.frozen l0).trans d01)); (try have l0' := Nat.lt_of_lt_of_le l0 (Nat.le_trans up.size q.size)); (try have c10' := (q.cell (Nat.lt_of_lt_of_le l1 up.size)).trans ((up.cell l1).trans c10)); (try have d10' := (q.frozen (Nat.lt_of_lt_of_le l1 up.size)).trans ((up.frozen l1).trans d10)); (try have c11' := (q.cell (Nat.lt_of_lt_of_le l1 up.size)).trans ((up.cell l1).trans c11)); (try have d11' := (q.frozen (Nat.lt_of_lt_of_le l1 up.size)).trans ((up.frozen l1).trans d11)); (try have l1' := Nat.lt_of_lt_of_le l1 (Nat.le_trans up.size q.size)); replace hx := (hx.on up).on q; replace qq := (qq.trans (up.mono qq.size)).trans (q.mono (Nat.le_trans qq.size up.size)); have qs2 := qq.size; clear q up)
        | (go_at_call 12; have up := below_one wy (.cells #[.bool false, .slice none 0 0] 25); (with_reducible refine (zof_N _ y2 iy).mono ?_); rintro e wz ⟨bY, Ay, ny, ky, rfl, hy, q⟩; (try have c00' := (q.cell (Nat.lt_of_lt_of_le l0 up.size)).trans ((up.cell l0).trans c00)); (try have d00' := (q.frozen (Nat.lt_of_lt_of_le l0 up.size)).trans ((up.frozen l0).trans d00)); (try have c01' := (q.cell (Nat.lt_of_lt_of_le l0 up.size)).trans ((up.cell l0).trans c01)); (try have d01' := (q.frozen (Nat.lt_of_lt_of_le l0 up.size)).trans ((up.frozen l0).trans d01)); (try have l0' := Nat.lt_of_lt_of_le l0 (Nat.le_trans up.size q.size)); (try have c10' := (q.cell (Nat.lt_of_lt_of_le l1 up.size)).trans ((up.cell l1).trans c10)); (try have d10' := (q.frozen (Nat.lt_of_lt_of_le l1 up.size)).trans ((up.frozen l1).trans d10)); (try have c11' := (q.cell (Nat.lt_of_lt_of_le l1 up.size)).trans ((up.cell l1).trans c11)); (try have d11' := (q.frozen (Nat.lt_of_lt_of_le l1 up.size)).trans ((up.frozen l1).trans d11)); (try have l1' := Nat.lt_of_lt_of_le l1 (Nat.le_trans up.size q.size)); have e00 := (q.cell (p := ⟨wy.heap.size, 0, none⟩) (by simp <;> omega)).trans (show _ = some (.bool false) by simp [go_sem]); have e01 := (q.cell (p := ⟨wy.heap.size, 1, none⟩) (by simp <;> omega)).trans (show _ = some (.slice none 0 0) by simp [go_sem]); have f00 := (q.frozen (p := ⟨wy.heap.size, 0, none⟩) (by simp <;> omega)).trans (show _ = false by simp [go_sem]); have f01 := (q.frozen (p := ⟨wy.heap.size, 1, none⟩) (by simp <;> omega)).trans (show _ = false by simp [go_sem]); have n0 : wy.heap.size < wz.heap.size := Nat.lt_of_lt_of_le (by simp <;> omega) q.size; replace hx := (hx.on up).on q; replace qq := (qq.trans (up.mono qq.size)).trans (q.mono (Nat.le_trans qq.size up.size)); have qs2 := qq.size; clear q up)
        | (go_at_call 12; have up := below_two wy (.cells #[.bool false, .slice none 0 0] 25) (.cells #[.bool false, .slice none 0 0] 25); (with_reducible refine (zof_N _ y2 iy).mono ?_); rintro e wz ⟨bY, Ay, ny, ky, rfl, hy, q⟩; (try have c00' := (q.cell (Nat.lt_of_lt_of_le l0 up.size)).trans ((up.cell l0).trans c00)); (try have d00' := (q.frozen (Nat.lt_of_lt_of_le l0 up.size)).trans ((up.frozen l0).trans d00)); (try have c01' := (q.cell (Nat.lt_of_lt_of_le l0 up.size)).trans ((up.cell l0).trans c01)); (try have d01' := (q.frozen (Nat.lt_of_lt_of_le l0 up.size)).trans ((up.frozen l0).trans d01)); (try have l0' := Nat.lt_of_lt_of_le l0 (Nat.le_trans up.size q.size)); (try have c10' := (q.cell (Nat.lt_of_lt_of_le l1 up.size)).trans ((up.cell l1).trans c10)); (try have d10' := (q.frozen (Nat.lt_of_lt_of_le l1 up.size)).trans ((up.frozen l1).trans d10)); (try have c11' := (q.cell (Nat.lt_of_lt_of_le l1 up.size)).trans ((up.cell l1).trans c11)); (try have d11' := (q.frozen (Nat.lt_of_lt_of_le l1 up.size)).trans ((up.frozen l1).trans d11)); (try have l1' := Nat.lt_of_lt_of_le l1 (Nat.le_trans up.size q.size)); have e00 := (q.cell (p := ⟨wy.heap.size, 0, none⟩) (by simp <;> omega)).trans (show _ = some (.bool false) by simp [go_sem]); have e01 := (q.cell (p := ⟨wy.heap.size, 1, none⟩) (by simp <;> omega)).trans (show _ = some (.slice none 0 0) by simp [go_sem]); have f00 := (q.frozen (p := ⟨wy.heap.size, 0, none⟩) (by simp <;> omega)).trans (show _ = false by simp [go_sem]); have f01 := (q.frozen (p := ⟨wy.heap.size, 1, none⟩) (by simp <;> omega)).trans (show _ = false by simp [go_sem]); have n0 : wy.heap.size < wz.heap.size := Nat.lt_of_lt_of_le (by simp <;> omega) q.size; have e10 := (q.cell (p := ⟨wy.heap.size + 1, 0, none⟩) (by simp <;> omega)).trans (show _ = some (.bool false) by simp [go_sem]); have e11 := (q.cell (p := ⟨wy.heap.size + 1, 1, none⟩) (by simp <;> omega)).trans (show _ = some (.slice none 0 0) by simp [go_sem]); have f10 := (q.frozen (p := ⟨wy.heap.size + 1, 0, none⟩) (by simp <;> omega)).trans (show _ = false by simp [go_sem]); have f11 := (q.frozen (p := ⟨wy.heap.size + 1, 1, none⟩) (by simp <;> omega)).trans (show _ = false by simp [go_sem]); have n1 : wy.heap.size + 1 < wz.heap.size := Nat.lt_of_lt_of_le (by simp <;> omega) q.size; replace hx := (hx.on up).on q; replace qq := (qq.trans (up.mono qq.size)).trans (q.mono (Nat.le_trans qq.size up.size)); have qs2 := qq.size; clear q up))
    all_goals (go_wp2_with fail; go_meet)
    all_goals refine ⟨_, _, bx, Ax, nx, kx, bY, Ay, ny, ky, rfl, rfl, ?_⟩
    all_goals first
      | with_reducible exact pairA hx hy qq _
      | with_reducible exact pairA' hx hy qq _
      | with_reducible exact pairB (by assumption) (by assumption) hx hy qq (by omega) _
      | with_reducible exact pairB' (by assumption) (by assumption) hx hy qq (by omega) _
      | with_reducible exact pairC (by assumption) (by assumption) (by assumption) (by assumption) hx hy qq (by omega) (by omega) (by omega)
  case rest =>
    obtain ⟨gx, gy, bx, Ax, nx, kx, bY, Ay, ny, ky, rfl, rfl, ⟨x0, x1⟩, ⟨y0, y1⟩, hx, hy, b⟩ := hcut
    have xl := cell_lt x0
    have yl := cell_lt y0
    simp only at xl yl
    replace h0 := h0.on b
    replace h1 := h1.on b
    replace p0 := (b.cell (p := ⟨w.heap.size, 0, none⟩) pl).trans p0
    replace p1 := (b.cell (p := ⟨w.heap.size, 1, none⟩) pl).trans p1
    replace pl := Nat.lt_of_lt_of_le pl b.size
    replace q0 := (b.cell (p := ⟨w.heap.size + 1, 0, none⟩) ql).trans q0
    replace q1 := (b.cell (p := ⟨w.heap.size + 1, 1, none⟩) ql).trans q1
    replace ql := Nat.lt_of_lt_of_le ql b.size
    replace s0 := (b.cell (p := ⟨w.heap.size + 1 + 1, 0, none⟩) sl).trans s0
    replace s1 := (b.cell (p := ⟨w.heap.size + 1 + 1, 1, none⟩) sl).trans s1
    replace sl := Nat.lt_of_lt_of_le sl b.size
    replace cc := cc.trans (b.mono cc.size)
    clear b
    go_wp2_with fail
    refine (zint_yes hx ix).mono ?_
    rintro e w5 ⟨rfl, b⟩
    replace h0 := h0.on b
    replace h1 := h1.on b
    replace hx := hx.on b
    replace hy := hy.on b
    replace p0 := (b.cell (p := ⟨w.heap.size, 0, none⟩) pl).trans p0
    replace p1 := (b.cell (p := ⟨w.heap.size, 1, none⟩) pl).trans p1
    replace pl := Nat.lt_of_lt_of_le pl b.size
    replace q0 := (b.cell (p := ⟨w.heap.size + 1, 0, none⟩) ql).trans q0
    replace q1 := (b.cell (p := ⟨w.heap.size + 1, 1, none⟩) ql).trans q1
    replace ql := Nat.lt_of_lt_of_le ql b.size
    replace s0 := (b.cell (p := ⟨w.heap.size + 1 + 1, 0, none⟩) sl).trans s0
    replace s1 := (b.cell (p := ⟨w.heap.size + 1 + 1, 1, none⟩) sl).trans s1
    replace sl := Nat.lt_of_lt_of_le sl b.size
    replace x0 := (b.cell (p := ⟨gx, 0, none⟩) xl).trans x0
    replace x1 := (b.cell (p := ⟨gx, 1, none⟩) xl).trans x1
    replace xl := Nat.lt_of_lt_of_le xl b.size
    replace y0 := (b.cell (p := ⟨gy, 0, none⟩) yl).trans y0
    replace y1 := (b.cell (p := ⟨gy, 1, none⟩) yl).trans y1
    replace yl := Nat.lt_of_lt_of_le yl b.size
    replace cc := cc.trans (b.mono cc.size)
    clear b
    go_wp2_with fail
    have qq : Below w5.heap.size w5 w5.drew := below_drewN (Below.refl _ w5) 1
    have h0' := h0.on qq
    have h1' := h1.on qq
    have hx' := hx.on qq
    have hy' := hy.on qq
    go_region_held3 (fun w' => w'.cell? ⟨w.heap.size, 0, none⟩ = some (.bool b0) ∧ w'.cell? ⟨w.heap.size, 1, none⟩ = some (.slice a0 len0 cap0) ∧ w'.cell? ⟨w.heap.size + 1, 0, none⟩ = some (.bool b1) ∧ w'.cell? ⟨w.heap.size + 1, 1, none⟩ = some (.slice a1 len1 cap1) ∧ w'.cell? ⟨w.heap.size + 1 + 1, 0, none⟩ = some (.int .i64 x2) ∧ w'.cell? ⟨w.heap.size + 1 + 1, 1, none⟩ = some (.int .i64 y2) ∧ w'.cell? ⟨gx, 0, none⟩ = some (.bool bx) ∧ w'.cell? ⟨gx, 1, none⟩ = some (.slice Ax nx kx) ∧ w'.cell? ⟨gy, 0, none⟩ = some (.bool bY) ∧ w'.cell? ⟨gy, 1, none⟩ = some (.slice Ay ny ky))
      (first | with_reducible exact ⟨(qq.cell (p := ⟨w.heap.size, 0, none⟩) pl).trans p0, (qq.cell (p := ⟨w.heap.size, 1, none⟩) pl).trans p1, (qq.cell (p := ⟨w.heap.size + 1, 0, none⟩) ql).trans q0, (qq.cell (p := ⟨w.heap.size + 1, 1, none⟩) ql).trans q1, (qq.cell (p := ⟨w.heap.size + 1 + 1, 0, none⟩) sl).trans s0, (qq.cell (p := ⟨w.heap.size + 1 + 1, 1, none⟩) sl).trans s1, (qq.cell (p := ⟨gx, 0, none⟩) xl).trans x0, (qq.cell (p := ⟨gx, 1, none⟩) xl).trans x1, (qq.cell (p := ⟨gy, 0, none⟩) yl).trans y0, (qq.cell (p := ⟨gy, 1, none⟩) yl).trans y1⟩ | go_keep)
      (first
        | (go_at_call 22; (with_reducible refine (zcmp_v (-cx) h1' h0' k1 k0 HC1.out).mono ?_); rintro e wz ⟨rfl, q⟩; replace qq := qq.trans (q.mono qq.size); (try replace h0' := h0'.on q); (try replace h1' := h1'.on q); (try replace hx' := hx'.on q); (try replace hy' := hy'.on q); (try replace na := na.on q); (try replace nb := nb.on q); (try replace sa := sa.on q); (try replace sb := sb.on q); clear q)
        | (go_at_call 20; (with_reducible refine (zneg_N h0' k0).mono ?_); rintro e wz ⟨bna, Ana, nna, cna, rfl, na, q⟩; replace qq := qq.trans (q.mono qq.size); (try replace h0' := h0'.on q); (try replace h1' := h1'.on q); (try replace hx' := hx'.on q); (try replace hy' := hy'.on q); (try replace nb := nb.on q); (try replace sa := sa.on q); (try replace sb := sb.on q); clear q)
        | (go_at_call 20; (with_reducible refine (zneg_N h1' k1).mono ?_); rintro e wz ⟨bnb, Anb, nnb, cnb, rfl, nb, q⟩; replace qq := qq.trans (q.mono qq.size); (try replace h0' := h0'.on q); (try replace h1' := h1'.on q); (try replace hx' := hx'.on q); (try replace hy' := hy'.on q); (try replace na := na.on q); (try replace sa := sa.on q); (try replace sb := sb.on q); clear q)
        | (go_at_call 22; (with_reducible refine (zcmp_v (-cx) na nb g0 g1 HC2.out).mono ?_); rintro e wz ⟨rfl, q⟩; replace qq := qq.trans (q.mono qq.size); (try replace h0' := h0'.on q); (try replace h1' := h1'.on q); (try replace hx' := hx'.on q); (try replace hy' := hy'.on q); (try replace na := na.on q); (try replace nb := nb.on q); (try replace sa := sa.on q); (try replace sb := sb.on q); clear q)
        | (go_at_call 16; (with_reducible refine (zadd_N h0' hx' k0 mx).mono ?_); rintro e wz ⟨bsa, Asa, nsa, csa, rfl, sa, q⟩; replace qq := qq.trans (q.mono qq.size); (try replace h0' := h0'.on q); (try replace h1' := h1'.on q); (try replace hx' := hx'.on q); (try replace hy' := hy'.on q); (try replace na := na.on q); (try replace nb := nb.on q); (try replace sb := sb.on q); clear q)
        | (go_at_call 16; (with_reducible refine (zadd_N h1' hx' k1 mx).mono ?_); rintro e wz ⟨bsb, Asb, nsb, csb, rfl, sb, q⟩; replace qq := qq.trans (q.mono qq.size); (try replace h0' := h0'.on q); (try replace h1' := h1'.on q); (try replace hx' := hx'.on q); (try replace hy' := hy'.on q); (try replace na := na.on q); (try replace nb := nb.on q); (try replace sa := sa.on q); clear q)
        | (go_at_call 22; (with_reducible refine (zcmp_v cx sa sb u0 u1 HC3.out).mono ?_); rintro e wz ⟨rfl, q⟩; replace qq := qq.trans (q.mono qq.size); (try replace h0' := h0'.on q); (try replace h1' := h1'.on q); (try replace hx' := hx'.on q); (try replace hy' := hy'.on q); (try replace na := na.on q); (try replace nb := nb.on q); (try replace sa := sa.on q); (try replace sb := sb.on q); clear q))
    clear h0
    have h0 := h0'
    clear h0'
    clear h1
    have h1 := h1'
    clear h1'
    clear hx
    have hx := hx'
    clear hx'
    clear hy
    have hy := hy'
    clear hy'
    replace p0 := (qq.cell (p := ⟨w.heap.size, 0, none⟩) pl).trans p0
    replace p1 := (qq.cell (p := ⟨w.heap.size, 1, none⟩) pl).trans p1
    replace pl := Nat.lt_of_lt_of_le pl qq.size
    replace q0 := (qq.cell (p := ⟨w.heap.size + 1, 0, none⟩) ql).trans q0
    replace q1 := (qq.cell (p := ⟨w.heap.size + 1, 1, none⟩) ql).trans q1
    replace ql := Nat.lt_of_lt_of_le ql qq.size
    replace s0 := (qq.cell (p := ⟨w.heap.size + 1 + 1, 0, none⟩) sl).trans s0
    replace s1 := (qq.cell (p := ⟨w.heap.size + 1 + 1, 1, none⟩) sl).trans s1
    replace sl := Nat.lt_of_lt_of_le sl qq.size
    replace x0 := (qq.cell (p := ⟨gx, 0, none⟩) xl).trans x0
    replace x1 := (qq.cell (p := ⟨gx, 1, none⟩) xl).trans x1
    replace xl := Nat.lt_of_lt_of_le xl qq.size
    replace y0 := (qq.cell (p := ⟨gy, 0, none⟩) yl).trans y0
    replace y1 := (qq.cell (p := ⟨gy, 1, none⟩) yl).trans y1
    replace yl := Nat.lt_of_lt_of_le yl qq.size
    replace cc := cc.trans (qq.mono cc.size)
    clear qq
    go_wp2_with fail
    refine (zcmp_v cl hx hy mx my HCL.out).mono ?_
    rintro e w13 ⟨rfl, b⟩
    replace h0 := h0.on b
    replace h1 := h1.on b
    replace hx := hx.on b
    replace hy := hy.on b
    replace p0 := (b.cell (p := ⟨w.heap.size, 0, none⟩) pl).trans p0
    replace p1 := (b.cell (p := ⟨w.heap.size, 1, none⟩) pl).trans p1
    replace pl := Nat.lt_of_lt_of_le pl b.size
    replace q0 := (b.cell (p := ⟨w.heap.size + 1, 0, none⟩) ql).trans q0
    replace q1 := (b.cell (p := ⟨w.heap.size + 1, 1, none⟩) ql).trans q1
    replace ql := Nat.lt_of_lt_of_le ql b.size
    replace s0 := (b.cell (p := ⟨w.heap.size + 1 + 1, 0, none⟩) sl).trans s0
    replace s1 := (b.cell (p := ⟨w.heap.size + 1 + 1, 1, none⟩) sl).trans s1
    replace sl := Nat.lt_of_lt_of_le sl b.size
    replace x0 := (b.cell (p := ⟨gx, 0, none⟩) xl).trans x0
    replace x1 := (b.cell (p := ⟨gx, 1, none⟩) xl).trans x1
    replace xl := Nat.lt_of_lt_of_le xl b.size
    replace y0 := (b.cell (p := ⟨gy, 0, none⟩) yl).trans y0
    replace y1 := (b.cell (p := ⟨gy, 1, none⟩) yl).trans y1
    replace yl := Nat.lt_of_lt_of_le yl b.size
    replace cc := cc.trans (b.mono cc.size)
    clear b
    go_wp2_with fail
    refine (zint_no h0 k0 hz).mono ?_
    rintro e w14 ⟨rfl, b⟩
    replace h0 := h0.on b
    replace h1 := h1.on b
    replace hx := hx.on b
    replace hy := hy.on b
    replace p0 := (b.cell (p := ⟨w.heap.size, 0, none⟩) pl).trans p0
    replace p1 := (b.cell (p := ⟨w.heap.size, 1, none⟩) pl).trans p1
    replace pl := Nat.lt_of_lt_of_le pl b.size
    replace q0 := (b.cell (p := ⟨w.heap.size + 1, 0, none⟩) ql).trans q0
    replace q1 := (b.cell (p := ⟨w.heap.size + 1, 1, none⟩) ql).trans q1
    replace ql := Nat.lt_of_lt_of_le ql b.size
    replace s0 := (b.cell (p := ⟨w.heap.size + 1 + 1, 0, none⟩) sl).trans s0
    replace s1 := (b.cell (p := ⟨w.heap.size + 1 + 1, 1, none⟩) sl).trans s1
    replace sl := Nat.lt_of_lt_of_le sl b.size
    replace x0 := (b.cell (p := ⟨gx, 0, none⟩) xl).trans x0
    replace x1 := (b.cell (p := ⟨gx, 1, none⟩) xl).trans x1
    replace xl := Nat.lt_of_lt_of_le xl b.size
    replace y0 := (b.cell (p := ⟨gy, 0, none⟩) yl).trans y0
    replace y1 := (b.cell (p := ⟨gy, 1, none⟩) yl).trans y1
    replace yl := Nat.lt_of_lt_of_le yl b.size
    replace cc := cc.trans (b.mono cc.size)
    clear b
    go_wp2_with fail
    refine (alive_any _ (ht.on cc)).mono ?_
    rintro e w15 ⟨rfl, b⟩
    replace h0 := h0.on b
    replace h1 := h1.on b
    replace hx := hx.on b
    replace hy := hy.on b
    replace p0 := (b.cell (p := ⟨w.heap.size, 0, none⟩) pl).trans p0
    replace p1 := (b.cell (p := ⟨w.heap.size, 1, none⟩) pl).trans p1
    replace pl := Nat.lt_of_lt_of_le pl b.size
    replace q0 := (b.cell (p := ⟨w.heap.size + 1, 0, none⟩) ql).trans q0
    replace q1 := (b.cell (p := ⟨w.heap.size + 1, 1, none⟩) ql).trans q1
    replace ql := Nat.lt_of_lt_of_le ql b.size
    replace s0 := (b.cell (p := ⟨w.heap.size + 1 + 1, 0, none⟩) sl).trans s0
    replace s1 := (b.cell (p := ⟨w.heap.size + 1 + 1, 1, none⟩) sl).trans s1
    replace sl := Nat.lt_of_lt_of_le sl b.size
    replace x0 := (b.cell (p := ⟨gx, 0, none⟩) xl).trans x0
    replace x1 := (b.cell (p := ⟨gx, 1, none⟩) xl).trans x1
    replace xl := Nat.lt_of_lt_of_le xl b.size
    replace y0 := (b.cell (p := ⟨gy, 0, none⟩) yl).trans y0
    replace y1 := (b.cell (p := ⟨gy, 1, none⟩) yl).trans y1
    replace yl := Nat.lt_of_lt_of_le yl b.size
    replace cc := cc.trans (b.mono cc.size)
    clear b
    go_wp2_with fail
    refine (zbits_v bl h0 k0 HBL.out).mono ?_
    rintro e w16 ⟨rfl, b⟩
    replace h0 := h0.on b
    replace h1 := h1.on b
    replace hx := hx.on b
    replace hy := hy.on b
    replace p0 := (b.cell (p := ⟨w.heap.size, 0, none⟩) pl).trans p0
    replace p1 := (b.cell (p := ⟨w.heap.size, 1, none⟩) pl).trans p1
    replace pl := Nat.lt_of_lt_of_le pl b.size
    replace q0 := (b.cell (p := ⟨w.heap.size + 1, 0, none⟩) ql).trans q0
    replace q1 := (b.cell (p := ⟨w.heap.size + 1, 1, none⟩) ql).trans q1
    replace ql := Nat.lt_of_lt_of_le ql b.size
    replace s0 := (b.cell (p := ⟨w.heap.size + 1 + 1, 0, none⟩) sl).trans s0
    replace s1 := (b.cell (p := ⟨w.heap.size + 1 + 1, 1, none⟩) sl).trans s1
    replace sl := Nat.lt_of_lt_of_le sl b.size
    replace x0 := (b.cell (p := ⟨gx, 0, none⟩) xl).trans x0
    replace x1 := (b.cell (p := ⟨gx, 1, none⟩) xl).trans x1
    replace xl := Nat.lt_of_lt_of_le xl b.size
    replace y0 := (b.cell (p := ⟨gy, 0, none⟩) yl).trans y0
    replace y1 := (b.cell (p := ⟨gy, 1, none⟩) yl).trans y1
    replace yl := Nat.lt_of_lt_of_le yl b.size
    replace cc := cc.trans (b.mono cc.size)
    clear b
    go_wp2_with fail
    refine (zsame_N r h0 h1 (Nat.le_trans k0 (by omega)) (Nat.le_trans k1 (by omega)) HR.out).mono ?_
    rintro e w17 ⟨rfl, b⟩
    replace h0 := h0.on b
    replace h1 := h1.on b
    replace hx := hx.on b
    replace hy := hy.on b
    replace p0 := (b.cell (p := ⟨w.heap.size, 0, none⟩) pl).trans p0
    replace p1 := (b.cell (p := ⟨w.heap.size, 1, none⟩) pl).trans p1
    replace pl := Nat.lt_of_lt_of_le pl b.size
    replace q0 := (b.cell (p := ⟨w.heap.size + 1, 0, none⟩) ql).trans q0
    replace q1 := (b.cell (p := ⟨w.heap.size + 1, 1, none⟩) ql).trans q1
    replace ql := Nat.lt_of_lt_of_le ql b.size
    replace s0 := (b.cell (p := ⟨w.heap.size + 1 + 1, 0, none⟩) sl).trans s0
    replace s1 := (b.cell (p := ⟨w.heap.size + 1 + 1, 1, none⟩) sl).trans s1
    replace sl := Nat.lt_of_lt_of_le sl b.size
    replace x0 := (b.cell (p := ⟨gx, 0, none⟩) xl).trans x0
    replace x1 := (b.cell (p := ⟨gx, 1, none⟩) xl).trans x1
    replace xl := Nat.lt_of_lt_of_le xl b.size
    replace y0 := (b.cell (p := ⟨gy, 0, none⟩) yl).trans y0
    replace y1 := (b.cell (p := ⟨gy, 1, none⟩) yl).trans y1
    replace yl := Nat.lt_of_lt_of_le yl b.size
    replace cc := cc.trans (b.mono cc.size)
    clear b
    go_wp2_with fail
    go_ret
    exact ⟨rfl, cc⟩

end Go.Proofs.YtdaohhbdhmmihaaDoor

/-
  The walk of ZedOrder.
-/
namespace Go.Proofs.YtdaohhbdhmmihaaDoor
open Go.RowKit
set_option linter.unusedVariables false

theorem ZedOrder_walk {w : World} (ht : Tab w) (b0 : Bool) {a0 : Option Addr} {len0 cap0 : Nat} {l0 : List Nat} (hl0 : Lim w.heap.size w a0 len0 cap0 l0) (hs0 : len0 ≤ 9223372036854775807) (b1 : Bool) {a1 : Option Addr} {len1 cap1 : Nat} {l1 : List Nat} (hl1 : Lim w.heap.size w a1 len1 cap1 l1) (hs1 : len1 ≤ 9223372036854775807) (x2 y2 : Int) (hx : (Lit.int .i64 x2).wf = true) (hy : (Lit.int .i64 y2).wf = true) :
    Calls Tryd.prog 6 #[.agg #[.bool b0, .slice a0 len0 cap0], .agg #[.bool b1, .slice a1 len1 cap1], .agg #[.int .i64 x2, .int .i64 y2]] w fun e w' => e = .returned (.bool true) ∧ Below w.heap.size w w' := by
  have G : ∀ {b : Bool} {a : Option Addr} {len cap : Nat} {l : List Nat} (r : Bool), Lim w.heap.size w a len cap l → len ≤ 9223372036854775807 → (decide ((len : Int) ≤ 6) && okZ b len l) = r → ∀ W : World, Below w.heap.size w W → Calls Tryd.prog 24 #[.agg #[.bool b, .slice a len cap], .int .i64 6] W (GotV W (.bool r)) := fun r hl hs hr W hW => rzfew_any 6 r (hl.on hW) hs hr
  have ix : I64 x2 := i64_wf hx
  have iy : I64 y2 := i64_wf hy
  cases h0 : (decide ((len0 : Int) ≤ 6) && okZ b0 len0 l0) with
  | false => exact ZedOrder_no0 ht x2 y2 (G false hl0 hs0 h0)
  | true =>
    cases h1 : (decide ((len1 : Int) ≤ 6) && okZ b1 len1 l1) with
    | false => exact ZedOrder_no1 ht x2 y2 (G true hl0 hs0 h0) (G false hl1 hs1 h1)
    | true =>
      obtain ⟨n0, t0⟩ := few_zn 6 hl0 h0
      obtain ⟨n1, t1⟩ := few_zn 6 hl1 h1
      by_cases hz : I64 (sgn b0 (val l0))
      · exact ZedOrder_yes n0 n1 ht x2 y2 ix iy t0 t1 hz (G true hl0 hs0 h0) (G true hl1 hs1 h1)
      · exact ZedOrder_great n0 n1 ht x2 y2 ix iy t0 t1 hz (G true hl0 hs0 h0) (G true hl1 hs1 h1)

end Go.Proofs.YtdaohhbdhmmihaaDoor
