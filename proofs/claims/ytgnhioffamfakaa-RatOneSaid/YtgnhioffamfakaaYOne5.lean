/-
  The walk of RatOne.
-/
import Derived.Test.YtgnhioffamfakaaYOne1
namespace Go.Proofs.Ytgnhioffamfakaa
open Go.RowKit
set_option linter.unusedVariables false

set_option maxRecDepth 100000 in
set_option maxHeartbeats 8000000 in
theorem RatOne_ok {w : World} {b0 b1 : Bool} {A0 A1 B0 B1 D : Option Addr} {n0 c0 n1 c1 m0 d0 m1 d1 kk gg : Nat} (F0 : ∀ W : World, Below w.heap.size w W → Calls Try.prog 10 #[.agg #[.bool b0, .slice A0 n0 c0], .int .i64 4] W (GotV W (.bool true))) (t0 : decide ((4 : Int) < (m0 : Int)) = false) (z0 : ((m0 : Int) == 0) = false) (R0 : ∀ W : World, Below w.heap.size w W → Calls Try.prog 11 #[.slice B0 m0 d0] W (GotV W (.bool true))) (F1 : ∀ W : World, Below w.heap.size w W → Calls Try.prog 10 #[.agg #[.bool b1, .slice A1 n1 c1], .int .i64 4] W (GotV W (.bool true))) (t1 : decide ((4 : Int) < (m1 : Int)) = false) (z1 : ((m1 : Int) == 0) = false) (R1 : ∀ W : World, Below w.heap.size w W → Calls Try.prog 11 #[.slice B1 m1 d1] W (GotV W (.bool true))) (t2 : decide ((4 : Int) < (kk : Int)) = false) (z2 : ((kk : Int) == 0) = false) (R2 : ∀ W : World, Below w.heap.size w W → Calls Try.prog 11 #[.slice D kk gg] W (GotV W (.bool true))) {z0_ z1_ : Int} {y0 y1 c : Nat} (h0 : Zn w b0 A0 n0 c0 z0_) (l0 : (limbs z0_.natAbs).length ≤ 4) (h1 : Zn w b1 A1 n1 c1 z1_) (l1 : (limbs z1_.natAbs).length ≤ 4) (g0 : Num w B0 m0 d0 y0) (j0 : (limbs y0).length ≤ 4) (g1 : Num w B1 m1 d1 y1) (j1 : (limbs y1).length ≤ 4) (hc : Num w D kk gg c) (lc : (limbs c).length ≤ 4) (y0n : y0 ≠ 0) (y1n : y1 ≠ 0) (hcn : c ≠ 0) :
    Calls Try.prog 8 #[.agg #[.bool b0, .slice A0 n0 c0, .bool b1, .slice A1 n1 c1], .agg #[.slice B0 m0 d0, .slice B1 m1 d1], .slice D kk gg] w fun e w' => e = .returned (.bool true) ∧ Below w.heap.size w w' := by
  have hcz := zn_nat hc
  have q0z := zn_nat g0
  have q1z := zn_nat g1
  have k0 : (limbs z0_.natAbs).length ≤ 40 := by omega
  have k1 : (limbs z1_.natAbs).length ≤ 40 := by omega
  have k2 : (limbs y0).length ≤ 40 := by simpa using (show (limbs y0).length ≤ 40 by omega)
  have k3 : (limbs y1).length ≤ 40 := by omega
  have kc : (limbs ((c : Nat) : Int).natAbs).length ≤ 4 := by rw [Int.natAbs_natCast]; exact lc
  have ky0 : (limbs ((y0 : Nat) : Int).natAbs).length ≤ 4 := by rw [Int.natAbs_natCast]; exact j0
  have ky1 : (limbs ((y1 : Nat) : Int).natAbs).length ≤ 4 := by rw [Int.natAbs_natCast]; exact j1
  have w1_ := zlen_mul l0 kc
  have w2_ := limbs_length_mul j0 lc
  have w3_ := zlen_mul l0 ky1
  have w4_ := zlen_mul l1 ky0
  have hyc : y0 * c ≠ 0 := Nat.mul_ne_zero y0n hcn
  have v1_ : (limbs (z0_ * (c : Int)).natAbs).length ≤ 40 := by omega
  have v2_ : (limbs (y0 * c)).length ≤ 40 := by omega
  have v3_ : (limbs (z0_ * (y1 : Int)).natAbs).length ≤ 1000 := by omega
  have v4_ : (limbs (z1_ * (y0 : Int)).natAbs).length ≤ 1000 := by omega
  have sa : Sz (mkRat z0_ y0) 4 := sz_mk y0n l0 j0
  have sb : Sz (mkRat z1_ y1) 4 := sz_mk y1n l1 j1
  have sm : Sz (mkRat (z0_ * (c : Int)) (y0 * c)) 40 := sz_mk hyc v1_ v2_
  have e1 : Hid (mkRat z0_ y0 = mkRat (z0_ * (c : Int)) (y0 * c)) := Lib.hid (mk_more z0_ y0 c hcn)
  obtain ⟨r, hr⟩ : ∃ r : Bool, decide (z0_ * (y1 : Int) = z1_ * (y0 : Int)) = r := ⟨_, rfl⟩
  have E2 := Lib.hid hr
  have E3 : Hid (decide (mkRat z0_ y0 = mkRat z1_ y1) = r) := Lib.hid (by rw [mk_cross _ _ _ _ y0n y1n, hr])
  clear hr
  have cc := Below.refl w.heap.size w
  go_enter Try.func8, Try.ntmps8
  go_wp2_with fail
  have bA : Below w.heap.size w ((w.alloc (.cells #[.bool b0, .slice A0 n0 c0, .bool b1, .slice A1 n1 c1] 45)).alloc (.cells #[.slice B0 m0 d0, .slice B1 m1 d1] 46)) := (((Below.refl _ w).alloc (by simp) _).alloc (by simp) _)
  replace h0 := h0.on bA
  replace h1 := h1.on bA
  replace g0 := g0.on bA
  replace g1 := g1.on bA
  replace hc := hc.on bA
  replace hcz := hcz.on bA
  replace q0z := q0z.on bA
  replace q1z := q1z.on bA
  replace cc := cc.trans (bA.mono cc.size)
  clear bA
  have p0 : ((w.alloc (.cells #[.bool b0, .slice A0 n0 c0, .bool b1, .slice A1 n1 c1] 45)).alloc (.cells #[.slice B0 m0 d0, .slice B1 m1 d1] 46)).cell? ⟨w.heap.size, 0, none⟩ = some (.bool b0) := by simp [go_sem]
  have p1 : ((w.alloc (.cells #[.bool b0, .slice A0 n0 c0, .bool b1, .slice A1 n1 c1] 45)).alloc (.cells #[.slice B0 m0 d0, .slice B1 m1 d1] 46)).cell? ⟨w.heap.size, 1, none⟩ = some (.slice A0 n0 c0) := by simp [go_sem]
  have p2 : ((w.alloc (.cells #[.bool b0, .slice A0 n0 c0, .bool b1, .slice A1 n1 c1] 45)).alloc (.cells #[.slice B0 m0 d0, .slice B1 m1 d1] 46)).cell? ⟨w.heap.size, 2, none⟩ = some (.bool b1) := by simp [go_sem]
  have p3 : ((w.alloc (.cells #[.bool b0, .slice A0 n0 c0, .bool b1, .slice A1 n1 c1] 45)).alloc (.cells #[.slice B0 m0 d0, .slice B1 m1 d1] 46)).cell? ⟨w.heap.size, 3, none⟩ = some (.slice A1 n1 c1) := by simp [go_sem]
  have pl : w.heap.size < ((w.alloc (.cells #[.bool b0, .slice A0 n0 c0, .bool b1, .slice A1 n1 c1] 45)).alloc (.cells #[.slice B0 m0 d0, .slice B1 m1 d1] 46)).heap.size := by simp <;> omega
  have q0 : ((w.alloc (.cells #[.bool b0, .slice A0 n0 c0, .bool b1, .slice A1 n1 c1] 45)).alloc (.cells #[.slice B0 m0 d0, .slice B1 m1 d1] 46)).cell? ⟨w.heap.size + 1, 0, none⟩ = some (.slice B0 m0 d0) := by simp [go_sem]
  have q1 : ((w.alloc (.cells #[.bool b0, .slice A0 n0 c0, .bool b1, .slice A1 n1 c1] 45)).alloc (.cells #[.slice B0 m0 d0, .slice B1 m1 d1] 46)).cell? ⟨w.heap.size + 1, 1, none⟩ = some (.slice B1 m1 d1) := by simp [go_sem]
  have ql : w.heap.size + 1 < ((w.alloc (.cells #[.bool b0, .slice A0 n0 c0, .bool b1, .slice A1 n1 c1] 45)).alloc (.cells #[.slice B0 m0 d0, .slice B1 m1 d1] 46)).heap.size := by simp <;> omega
  generalize (w.alloc (.cells #[.bool b0, .slice A0 n0 c0, .bool b1, .slice A1 n1 c1] 45)).alloc (.cells #[.slice B0 m0 d0, .slice B1 m1 d1] 46) = v1 at *
  refine wp_loop_rounds 3 ?_
  rw [rounds_succ]
  go_wp2_with fail
  refine (F0 _ cc).mono ?_
  rintro e w2 ⟨rfl, b⟩
  replace h0 := h0.on b
  replace h1 := h1.on b
  replace g0 := g0.on b
  replace g1 := g1.on b
  replace hc := hc.on b
  replace hcz := hcz.on b
  replace q0z := q0z.on b
  replace q1z := q1z.on b
  replace p0 := (b.cell (p := ⟨w.heap.size, 0, none⟩) pl).trans p0
  replace p1 := (b.cell (p := ⟨w.heap.size, 1, none⟩) pl).trans p1
  replace p2 := (b.cell (p := ⟨w.heap.size, 2, none⟩) pl).trans p2
  replace p3 := (b.cell (p := ⟨w.heap.size, 3, none⟩) pl).trans p3
  replace pl := Nat.lt_of_lt_of_le pl b.size
  replace q0 := (b.cell (p := ⟨w.heap.size + 1, 0, none⟩) ql).trans q0
  replace q1 := (b.cell (p := ⟨w.heap.size + 1, 1, none⟩) ql).trans q1
  replace ql := Nat.lt_of_lt_of_le ql b.size
  replace cc := cc.trans (b.mono cc.size)
  clear b
  go_wp2_with fail
  refine (R0 _ cc).mono ?_
  rintro e w3 ⟨rfl, b⟩
  replace h0 := h0.on b
  replace h1 := h1.on b
  replace g0 := g0.on b
  replace g1 := g1.on b
  replace hc := hc.on b
  replace hcz := hcz.on b
  replace q0z := q0z.on b
  replace q1z := q1z.on b
  replace p0 := (b.cell (p := ⟨w.heap.size, 0, none⟩) pl).trans p0
  replace p1 := (b.cell (p := ⟨w.heap.size, 1, none⟩) pl).trans p1
  replace p2 := (b.cell (p := ⟨w.heap.size, 2, none⟩) pl).trans p2
  replace p3 := (b.cell (p := ⟨w.heap.size, 3, none⟩) pl).trans p3
  replace pl := Nat.lt_of_lt_of_le pl b.size
  replace q0 := (b.cell (p := ⟨w.heap.size + 1, 0, none⟩) ql).trans q0
  replace q1 := (b.cell (p := ⟨w.heap.size + 1, 1, none⟩) ql).trans q1
  replace ql := Nat.lt_of_lt_of_le ql b.size
  replace cc := cc.trans (b.mono cc.size)
  clear b
  go_wp2_with fail
  rw [rounds_succ]
  go_wp2_with fail
  refine (F1 _ cc).mono ?_
  rintro e w4 ⟨rfl, b⟩
  replace h0 := h0.on b
  replace h1 := h1.on b
  replace g0 := g0.on b
  replace g1 := g1.on b
  replace hc := hc.on b
  replace hcz := hcz.on b
  replace q0z := q0z.on b
  replace q1z := q1z.on b
  replace p0 := (b.cell (p := ⟨w.heap.size, 0, none⟩) pl).trans p0
  replace p1 := (b.cell (p := ⟨w.heap.size, 1, none⟩) pl).trans p1
  replace p2 := (b.cell (p := ⟨w.heap.size, 2, none⟩) pl).trans p2
  replace p3 := (b.cell (p := ⟨w.heap.size, 3, none⟩) pl).trans p3
  replace pl := Nat.lt_of_lt_of_le pl b.size
  replace q0 := (b.cell (p := ⟨w.heap.size + 1, 0, none⟩) ql).trans q0
  replace q1 := (b.cell (p := ⟨w.heap.size + 1, 1, none⟩) ql).trans q1
  replace ql := Nat.lt_of_lt_of_le ql b.size
  replace cc := cc.trans (b.mono cc.size)
  clear b
  go_wp2_with fail
  refine (R1 _ cc).mono ?_
  rintro e w5 ⟨rfl, b⟩
  replace h0 := h0.on b
  replace h1 := h1.on b
  replace g0 := g0.on b
  replace g1 := g1.on b
  replace hc := hc.on b
  replace hcz := hcz.on b
  replace q0z := q0z.on b
  replace q1z := q1z.on b
  replace p0 := (b.cell (p := ⟨w.heap.size, 0, none⟩) pl).trans p0
  replace p1 := (b.cell (p := ⟨w.heap.size, 1, none⟩) pl).trans p1
  replace p2 := (b.cell (p := ⟨w.heap.size, 2, none⟩) pl).trans p2
  replace p3 := (b.cell (p := ⟨w.heap.size, 3, none⟩) pl).trans p3
  replace pl := Nat.lt_of_lt_of_le pl b.size
  replace q0 := (b.cell (p := ⟨w.heap.size + 1, 0, none⟩) ql).trans q0
  replace q1 := (b.cell (p := ⟨w.heap.size + 1, 1, none⟩) ql).trans q1
  replace ql := Nat.lt_of_lt_of_le ql b.size
  replace cc := cc.trans (b.mono cc.size)
  clear b
  go_wp2_with fail
  rw [rounds_succ]
  go_wp2_with fail
  refine (R2 _ cc).mono ?_
  rintro e w6 ⟨rfl, b⟩
  replace h0 := h0.on b
  replace h1 := h1.on b
  replace g0 := g0.on b
  replace g1 := g1.on b
  replace hc := hc.on b
  replace hcz := hcz.on b
  replace q0z := q0z.on b
  replace q1z := q1z.on b
  replace p0 := (b.cell (p := ⟨w.heap.size, 0, none⟩) pl).trans p0
  replace p1 := (b.cell (p := ⟨w.heap.size, 1, none⟩) pl).trans p1
  replace p2 := (b.cell (p := ⟨w.heap.size, 2, none⟩) pl).trans p2
  replace p3 := (b.cell (p := ⟨w.heap.size, 3, none⟩) pl).trans p3
  replace pl := Nat.lt_of_lt_of_le pl b.size
  replace q0 := (b.cell (p := ⟨w.heap.size + 1, 0, none⟩) ql).trans q0
  replace q1 := (b.cell (p := ⟨w.heap.size + 1, 1, none⟩) ql).trans q1
  replace ql := Nat.lt_of_lt_of_le ql b.size
  replace cc := cc.trans (b.mono cc.size)
  clear b
  go_wp2_with fail
  refine (qmake_N h0 g0 y0n k0 k2).mono ?_
  rintro e w7 ⟨bx, Ax, nx, cx, Bx, mx, dx, rfl, hx, b⟩
  replace h0 := h0.on b
  replace h1 := h1.on b
  replace g0 := g0.on b
  replace g1 := g1.on b
  replace hc := hc.on b
  replace hcz := hcz.on b
  replace q0z := q0z.on b
  replace q1z := q1z.on b
  replace p0 := (b.cell (p := ⟨w.heap.size, 0, none⟩) pl).trans p0
  replace p1 := (b.cell (p := ⟨w.heap.size, 1, none⟩) pl).trans p1
  replace p2 := (b.cell (p := ⟨w.heap.size, 2, none⟩) pl).trans p2
  replace p3 := (b.cell (p := ⟨w.heap.size, 3, none⟩) pl).trans p3
  replace pl := Nat.lt_of_lt_of_le pl b.size
  replace q0 := (b.cell (p := ⟨w.heap.size + 1, 0, none⟩) ql).trans q0
  replace q1 := (b.cell (p := ⟨w.heap.size + 1, 1, none⟩) ql).trans q1
  replace ql := Nat.lt_of_lt_of_le ql b.size
  replace cc := cc.trans (b.mono cc.size)
  clear b
  go_wp2_with fail
  have bA := below_one w7 (.cells #[.bool bx, .slice Ax nx cx, .slice Bx mx dx] 27)
  replace h0 := h0.on bA
  replace h1 := h1.on bA
  replace g0 := g0.on bA
  replace g1 := g1.on bA
  replace hc := hc.on bA
  replace hcz := hcz.on bA
  replace q0z := q0z.on bA
  replace q1z := q1z.on bA
  replace hx := hx.on bA
  replace p0 := (bA.cell (p := ⟨w.heap.size, 0, none⟩) pl).trans p0
  replace p1 := (bA.cell (p := ⟨w.heap.size, 1, none⟩) pl).trans p1
  replace p2 := (bA.cell (p := ⟨w.heap.size, 2, none⟩) pl).trans p2
  replace p3 := (bA.cell (p := ⟨w.heap.size, 3, none⟩) pl).trans p3
  replace pl := Nat.lt_of_lt_of_le pl bA.size
  replace q0 := (bA.cell (p := ⟨w.heap.size + 1, 0, none⟩) ql).trans q0
  replace q1 := (bA.cell (p := ⟨w.heap.size + 1, 1, none⟩) ql).trans q1
  replace ql := Nat.lt_of_lt_of_le ql bA.size
  replace cc := cc.trans (bA.mono cc.size)
  clear bA
  have x0 : (w7.alloc (.cells #[.bool bx, .slice Ax nx cx, .slice Bx mx dx] 27)).cell? ⟨w7.heap.size, 0, none⟩ = some (.bool bx) := by simp [go_sem]
  have x1 : (w7.alloc (.cells #[.bool bx, .slice Ax nx cx, .slice Bx mx dx] 27)).cell? ⟨w7.heap.size, 1, none⟩ = some (.slice Ax nx cx) := by simp [go_sem]
  have x2 : (w7.alloc (.cells #[.bool bx, .slice Ax nx cx, .slice Bx mx dx] 27)).cell? ⟨w7.heap.size, 2, none⟩ = some (.slice Bx mx dx) := by simp [go_sem]
  have xl : w7.heap.size < (w7.alloc (.cells #[.bool bx, .slice Ax nx cx, .slice Bx mx dx] 27)).heap.size := by simp
  generalize w7.alloc (.cells #[.bool bx, .slice Ax nx cx, .slice Bx mx dx] 27) = v8 at *
  refine (qmake_N h1 g1 y1n k1 k3).mono ?_
  rintro e w9 ⟨bs, As, ns, cs, Bs, ms, ds, rfl, hs, b⟩
  replace h0 := h0.on b
  replace h1 := h1.on b
  replace g0 := g0.on b
  replace g1 := g1.on b
  replace hc := hc.on b
  replace hcz := hcz.on b
  replace q0z := q0z.on b
  replace q1z := q1z.on b
  replace hx := hx.on b
  replace p0 := (b.cell (p := ⟨w.heap.size, 0, none⟩) pl).trans p0
  replace p1 := (b.cell (p := ⟨w.heap.size, 1, none⟩) pl).trans p1
  replace p2 := (b.cell (p := ⟨w.heap.size, 2, none⟩) pl).trans p2
  replace p3 := (b.cell (p := ⟨w.heap.size, 3, none⟩) pl).trans p3
  replace pl := Nat.lt_of_lt_of_le pl b.size
  replace q0 := (b.cell (p := ⟨w.heap.size + 1, 0, none⟩) ql).trans q0
  replace q1 := (b.cell (p := ⟨w.heap.size + 1, 1, none⟩) ql).trans q1
  replace ql := Nat.lt_of_lt_of_le ql b.size
  replace x0 := (b.cell (p := ⟨w7.heap.size, 0, none⟩) xl).trans x0
  replace x1 := (b.cell (p := ⟨w7.heap.size, 1, none⟩) xl).trans x1
  replace x2 := (b.cell (p := ⟨w7.heap.size, 2, none⟩) xl).trans x2
  replace xl := Nat.lt_of_lt_of_le xl b.size
  replace cc := cc.trans (b.mono cc.size)
  clear b
  go_wp2_with fail
  have bA := below_one w9 (.cells #[.bool bs, .slice As ns cs, .slice Bs ms ds] 27)
  replace h0 := h0.on bA
  replace h1 := h1.on bA
  replace g0 := g0.on bA
  replace g1 := g1.on bA
  replace hc := hc.on bA
  replace hcz := hcz.on bA
  replace q0z := q0z.on bA
  replace q1z := q1z.on bA
  replace hx := hx.on bA
  replace hs := hs.on bA
  replace p0 := (bA.cell (p := ⟨w.heap.size, 0, none⟩) pl).trans p0
  replace p1 := (bA.cell (p := ⟨w.heap.size, 1, none⟩) pl).trans p1
  replace p2 := (bA.cell (p := ⟨w.heap.size, 2, none⟩) pl).trans p2
  replace p3 := (bA.cell (p := ⟨w.heap.size, 3, none⟩) pl).trans p3
  replace pl := Nat.lt_of_lt_of_le pl bA.size
  replace q0 := (bA.cell (p := ⟨w.heap.size + 1, 0, none⟩) ql).trans q0
  replace q1 := (bA.cell (p := ⟨w.heap.size + 1, 1, none⟩) ql).trans q1
  replace ql := Nat.lt_of_lt_of_le ql bA.size
  replace x0 := (bA.cell (p := ⟨w7.heap.size, 0, none⟩) xl).trans x0
  replace x1 := (bA.cell (p := ⟨w7.heap.size, 1, none⟩) xl).trans x1
  replace x2 := (bA.cell (p := ⟨w7.heap.size, 2, none⟩) xl).trans x2
  replace xl := Nat.lt_of_lt_of_le xl bA.size
  replace cc := cc.trans (bA.mono cc.size)
  clear bA
  have s0 : (w9.alloc (.cells #[.bool bs, .slice As ns cs, .slice Bs ms ds] 27)).cell? ⟨w9.heap.size, 0, none⟩ = some (.bool bs) := by simp [go_sem]
  have s1 : (w9.alloc (.cells #[.bool bs, .slice As ns cs, .slice Bs ms ds] 27)).cell? ⟨w9.heap.size, 1, none⟩ = some (.slice As ns cs) := by simp [go_sem]
  have s2 : (w9.alloc (.cells #[.bool bs, .slice As ns cs, .slice Bs ms ds] 27)).cell? ⟨w9.heap.size, 2, none⟩ = some (.slice Bs ms ds) := by simp [go_sem]
  have sl : w9.heap.size < (w9.alloc (.cells #[.bool bs, .slice As ns cs, .slice Bs ms ds] 27)).heap.size := by simp
  generalize w9.alloc (.cells #[.bool bs, .slice As ns cs, .slice Bs ms ds] 27) = v10 at *
  go_upto_region 10 with fail
  go_cut [12, 13] (fun u ue wx => ∃ (g_ : Nat) (b_ : Bool) (A_ : Option Addr) (n_ c_ : Nat) (B_ : Option Addr) (m_ d_ : Nat), u = .pointer (some ⟨g_, 0, none⟩) ∧ ue = .int .i64 0 ∧ LoneR v10 wx g_ b_ A_ n_ c_ B_ m_ d_ (mkRat (z0_ * (c : Int)) (y0 * c)))
  case first =>
    have BB0 : Below v10.heap.size v10 v10.drew := below_drewN (Below.refl _ v10) 1
    have BB1 : Below v10.heap.size v10 (v10.alloc (.cells #[.bool false, .slice none 0 0, .slice none 0 0] 27)).drew := below_drewN (below_one _ _) 1
    go_region_held3 (fun w' => w'.cell? ⟨w.heap.size, 0, none⟩ = some (.bool b0) ∧ w'.cell? ⟨w.heap.size, 1, none⟩ = some (.slice A0 n0 c0) ∧ w'.cell? ⟨w.heap.size, 2, none⟩ = some (.bool b1) ∧ w'.cell? ⟨w.heap.size, 3, none⟩ = some (.slice A1 n1 c1) ∧ w'.cell? ⟨w.heap.size + 1, 0, none⟩ = some (.slice B0 m0 d0) ∧ w'.cell? ⟨w.heap.size + 1, 1, none⟩ = some (.slice B1 m1 d1) ∧ w'.cell? ⟨w7.heap.size, 0, none⟩ = some (.bool bx) ∧ w'.cell? ⟨w7.heap.size, 1, none⟩ = some (.slice Ax nx cx) ∧ w'.cell? ⟨w7.heap.size, 2, none⟩ = some (.slice Bx mx dx) ∧ w'.cell? ⟨w9.heap.size, 0, none⟩ = some (.bool bs) ∧ w'.cell? ⟨w9.heap.size, 1, none⟩ = some (.slice As ns cs) ∧ w'.cell? ⟨w9.heap.size, 2, none⟩ = some (.slice Bs ms ds))
      (first | with_reducible exact ⟨p0, p1, p2, p3, q0, q1, x0, x1, x2, s0, s1, s2⟩ | with_reducible exact ⟨keep_alloc (p0), keep_alloc (p1), keep_alloc (p2), keep_alloc (p3), keep_alloc (q0), keep_alloc (q1), keep_alloc (x0), keep_alloc (x1), keep_alloc (x2), keep_alloc (s0), keep_alloc (s1), keep_alloc (s2)⟩ | with_reducible exact ⟨keep_alloc (keep_alloc (p0)), keep_alloc (keep_alloc (p1)), keep_alloc (keep_alloc (p2)), keep_alloc (keep_alloc (p3)), keep_alloc (keep_alloc (q0)), keep_alloc (keep_alloc (q1)), keep_alloc (keep_alloc (x0)), keep_alloc (keep_alloc (x1)), keep_alloc (keep_alloc (x2)), keep_alloc (keep_alloc (s0)), keep_alloc (keep_alloc (s1)), keep_alloc (keep_alloc (s2))⟩ | with_reducible exact ⟨((qq.cell (p := ⟨w.heap.size, 0, none⟩) pl).trans p0), ((qq.cell (p := ⟨w.heap.size, 1, none⟩) pl).trans p1), ((qq.cell (p := ⟨w.heap.size, 2, none⟩) pl).trans p2), ((qq.cell (p := ⟨w.heap.size, 3, none⟩) pl).trans p3), ((qq.cell (p := ⟨w.heap.size + 1, 0, none⟩) ql).trans q0), ((qq.cell (p := ⟨w.heap.size + 1, 1, none⟩) ql).trans q1), ((qq.cell (p := ⟨w7.heap.size, 0, none⟩) xl).trans x0), ((qq.cell (p := ⟨w7.heap.size, 1, none⟩) xl).trans x1), ((qq.cell (p := ⟨w7.heap.size, 2, none⟩) xl).trans x2), ((qq.cell (p := ⟨w9.heap.size, 0, none⟩) sl).trans s0), ((qq.cell (p := ⟨w9.heap.size, 1, none⟩) sl).trans s1), ((qq.cell (p := ⟨w9.heap.size, 2, none⟩) sl).trans s2)⟩ | with_reducible exact ⟨keep_alloc (((qq.cell (p := ⟨w.heap.size, 0, none⟩) pl).trans p0)), keep_alloc (((qq.cell (p := ⟨w.heap.size, 1, none⟩) pl).trans p1)), keep_alloc (((qq.cell (p := ⟨w.heap.size, 2, none⟩) pl).trans p2)), keep_alloc (((qq.cell (p := ⟨w.heap.size, 3, none⟩) pl).trans p3)), keep_alloc (((qq.cell (p := ⟨w.heap.size + 1, 0, none⟩) ql).trans q0)), keep_alloc (((qq.cell (p := ⟨w.heap.size + 1, 1, none⟩) ql).trans q1)), keep_alloc (((qq.cell (p := ⟨w7.heap.size, 0, none⟩) xl).trans x0)), keep_alloc (((qq.cell (p := ⟨w7.heap.size, 1, none⟩) xl).trans x1)), keep_alloc (((qq.cell (p := ⟨w7.heap.size, 2, none⟩) xl).trans x2)), keep_alloc (((qq.cell (p := ⟨w9.heap.size, 0, none⟩) sl).trans s0)), keep_alloc (((qq.cell (p := ⟨w9.heap.size, 1, none⟩) sl).trans s1)), keep_alloc (((qq.cell (p := ⟨w9.heap.size, 2, none⟩) sl).trans s2))⟩ | with_reducible exact ⟨keep_alloc (keep_alloc (((qq.cell (p := ⟨w.heap.size, 0, none⟩) pl).trans p0))), keep_alloc (keep_alloc (((qq.cell (p := ⟨w.heap.size, 1, none⟩) pl).trans p1))), keep_alloc (keep_alloc (((qq.cell (p := ⟨w.heap.size, 2, none⟩) pl).trans p2))), keep_alloc (keep_alloc (((qq.cell (p := ⟨w.heap.size, 3, none⟩) pl).trans p3))), keep_alloc (keep_alloc (((qq.cell (p := ⟨w.heap.size + 1, 0, none⟩) ql).trans q0))), keep_alloc (keep_alloc (((qq.cell (p := ⟨w.heap.size + 1, 1, none⟩) ql).trans q1))), keep_alloc (keep_alloc (((qq.cell (p := ⟨w7.heap.size, 0, none⟩) xl).trans x0))), keep_alloc (keep_alloc (((qq.cell (p := ⟨w7.heap.size, 1, none⟩) xl).trans x1))), keep_alloc (keep_alloc (((qq.cell (p := ⟨w7.heap.size, 2, none⟩) xl).trans x2))), keep_alloc (keep_alloc (((qq.cell (p := ⟨w9.heap.size, 0, none⟩) sl).trans s0))), keep_alloc (keep_alloc (((qq.cell (p := ⟨w9.heap.size, 1, none⟩) sl).trans s1))), keep_alloc (keep_alloc (((qq.cell (p := ⟨w9.heap.size, 2, none⟩) sl).trans s2)))⟩ | with_reducible exact ⟨((cell_putR (by omega)).trans ((qq.cell (p := ⟨w.heap.size, 0, none⟩) pl).trans p0)), ((cell_putR (by omega)).trans ((qq.cell (p := ⟨w.heap.size, 1, none⟩) pl).trans p1)), ((cell_putR (by omega)).trans ((qq.cell (p := ⟨w.heap.size, 2, none⟩) pl).trans p2)), ((cell_putR (by omega)).trans ((qq.cell (p := ⟨w.heap.size, 3, none⟩) pl).trans p3)), ((cell_putR (by omega)).trans ((qq.cell (p := ⟨w.heap.size + 1, 0, none⟩) ql).trans q0)), ((cell_putR (by omega)).trans ((qq.cell (p := ⟨w.heap.size + 1, 1, none⟩) ql).trans q1)), ((cell_putR (by omega)).trans ((qq.cell (p := ⟨w7.heap.size, 0, none⟩) xl).trans x0)), ((cell_putR (by omega)).trans ((qq.cell (p := ⟨w7.heap.size, 1, none⟩) xl).trans x1)), ((cell_putR (by omega)).trans ((qq.cell (p := ⟨w7.heap.size, 2, none⟩) xl).trans x2)), ((cell_putR (by omega)).trans ((qq.cell (p := ⟨w9.heap.size, 0, none⟩) sl).trans s0)), ((cell_putR (by omega)).trans ((qq.cell (p := ⟨w9.heap.size, 1, none⟩) sl).trans s1)), ((cell_putR (by omega)).trans ((qq.cell (p := ⟨w9.heap.size, 2, none⟩) sl).trans s2))⟩ | with_reducible exact ⟨((cell_store (by omega)).trans ((qq.cell (p := ⟨w.heap.size, 0, none⟩) pl).trans p0)), ((cell_store (by omega)).trans ((qq.cell (p := ⟨w.heap.size, 1, none⟩) pl).trans p1)), ((cell_store (by omega)).trans ((qq.cell (p := ⟨w.heap.size, 2, none⟩) pl).trans p2)), ((cell_store (by omega)).trans ((qq.cell (p := ⟨w.heap.size, 3, none⟩) pl).trans p3)), ((cell_store (by omega)).trans ((qq.cell (p := ⟨w.heap.size + 1, 0, none⟩) ql).trans q0)), ((cell_store (by omega)).trans ((qq.cell (p := ⟨w.heap.size + 1, 1, none⟩) ql).trans q1)), ((cell_store (by omega)).trans ((qq.cell (p := ⟨w7.heap.size, 0, none⟩) xl).trans x0)), ((cell_store (by omega)).trans ((qq.cell (p := ⟨w7.heap.size, 1, none⟩) xl).trans x1)), ((cell_store (by omega)).trans ((qq.cell (p := ⟨w7.heap.size, 2, none⟩) xl).trans x2)), ((cell_store (by omega)).trans ((qq.cell (p := ⟨w9.heap.size, 0, none⟩) sl).trans s0)), ((cell_store (by omega)).trans ((qq.cell (p := ⟨w9.heap.size, 1, none⟩) sl).trans s1)), ((cell_store (by omega)).trans ((qq.cell (p := ⟨w9.heap.size, 2, none⟩) sl).trans s2))⟩ | with_reducible exact ⟨keep_alloc (((cell_putR (by omega)).trans ((qq.cell (p := ⟨w.heap.size, 0, none⟩) pl).trans p0))), keep_alloc (((cell_putR (by omega)).trans ((qq.cell (p := ⟨w.heap.size, 1, none⟩) pl).trans p1))), keep_alloc (((cell_putR (by omega)).trans ((qq.cell (p := ⟨w.heap.size, 2, none⟩) pl).trans p2))), keep_alloc (((cell_putR (by omega)).trans ((qq.cell (p := ⟨w.heap.size, 3, none⟩) pl).trans p3))), keep_alloc (((cell_putR (by omega)).trans ((qq.cell (p := ⟨w.heap.size + 1, 0, none⟩) ql).trans q0))), keep_alloc (((cell_putR (by omega)).trans ((qq.cell (p := ⟨w.heap.size + 1, 1, none⟩) ql).trans q1))), keep_alloc (((cell_putR (by omega)).trans ((qq.cell (p := ⟨w7.heap.size, 0, none⟩) xl).trans x0))), keep_alloc (((cell_putR (by omega)).trans ((qq.cell (p := ⟨w7.heap.size, 1, none⟩) xl).trans x1))), keep_alloc (((cell_putR (by omega)).trans ((qq.cell (p := ⟨w7.heap.size, 2, none⟩) xl).trans x2))), keep_alloc (((cell_putR (by omega)).trans ((qq.cell (p := ⟨w9.heap.size, 0, none⟩) sl).trans s0))), keep_alloc (((cell_putR (by omega)).trans ((qq.cell (p := ⟨w9.heap.size, 1, none⟩) sl).trans s1))), keep_alloc (((cell_putR (by omega)).trans ((qq.cell (p := ⟨w9.heap.size, 2, none⟩) sl).trans s2)))⟩ | with_reducible exact ⟨keep_alloc (((cell_store (by omega)).trans ((qq.cell (p := ⟨w.heap.size, 0, none⟩) pl).trans p0))), keep_alloc (((cell_store (by omega)).trans ((qq.cell (p := ⟨w.heap.size, 1, none⟩) pl).trans p1))), keep_alloc (((cell_store (by omega)).trans ((qq.cell (p := ⟨w.heap.size, 2, none⟩) pl).trans p2))), keep_alloc (((cell_store (by omega)).trans ((qq.cell (p := ⟨w.heap.size, 3, none⟩) pl).trans p3))), keep_alloc (((cell_store (by omega)).trans ((qq.cell (p := ⟨w.heap.size + 1, 0, none⟩) ql).trans q0))), keep_alloc (((cell_store (by omega)).trans ((qq.cell (p := ⟨w.heap.size + 1, 1, none⟩) ql).trans q1))), keep_alloc (((cell_store (by omega)).trans ((qq.cell (p := ⟨w7.heap.size, 0, none⟩) xl).trans x0))), keep_alloc (((cell_store (by omega)).trans ((qq.cell (p := ⟨w7.heap.size, 1, none⟩) xl).trans x1))), keep_alloc (((cell_store (by omega)).trans ((qq.cell (p := ⟨w7.heap.size, 2, none⟩) xl).trans x2))), keep_alloc (((cell_store (by omega)).trans ((qq.cell (p := ⟨w9.heap.size, 0, none⟩) sl).trans s0))), keep_alloc (((cell_store (by omega)).trans ((qq.cell (p := ⟨w9.heap.size, 1, none⟩) sl).trans s1))), keep_alloc (((cell_store (by omega)).trans ((qq.cell (p := ⟨w9.heap.size, 2, none⟩) sl).trans s2)))⟩ | with_reducible exact ⟨keep_alloc (keep_alloc (((cell_putR (by omega)).trans ((qq.cell (p := ⟨w.heap.size, 0, none⟩) pl).trans p0)))), keep_alloc (keep_alloc (((cell_putR (by omega)).trans ((qq.cell (p := ⟨w.heap.size, 1, none⟩) pl).trans p1)))), keep_alloc (keep_alloc (((cell_putR (by omega)).trans ((qq.cell (p := ⟨w.heap.size, 2, none⟩) pl).trans p2)))), keep_alloc (keep_alloc (((cell_putR (by omega)).trans ((qq.cell (p := ⟨w.heap.size, 3, none⟩) pl).trans p3)))), keep_alloc (keep_alloc (((cell_putR (by omega)).trans ((qq.cell (p := ⟨w.heap.size + 1, 0, none⟩) ql).trans q0)))), keep_alloc (keep_alloc (((cell_putR (by omega)).trans ((qq.cell (p := ⟨w.heap.size + 1, 1, none⟩) ql).trans q1)))), keep_alloc (keep_alloc (((cell_putR (by omega)).trans ((qq.cell (p := ⟨w7.heap.size, 0, none⟩) xl).trans x0)))), keep_alloc (keep_alloc (((cell_putR (by omega)).trans ((qq.cell (p := ⟨w7.heap.size, 1, none⟩) xl).trans x1)))), keep_alloc (keep_alloc (((cell_putR (by omega)).trans ((qq.cell (p := ⟨w7.heap.size, 2, none⟩) xl).trans x2)))), keep_alloc (keep_alloc (((cell_putR (by omega)).trans ((qq.cell (p := ⟨w9.heap.size, 0, none⟩) sl).trans s0)))), keep_alloc (keep_alloc (((cell_putR (by omega)).trans ((qq.cell (p := ⟨w9.heap.size, 1, none⟩) sl).trans s1)))), keep_alloc (keep_alloc (((cell_putR (by omega)).trans ((qq.cell (p := ⟨w9.heap.size, 2, none⟩) sl).trans s2))))⟩ | with_reducible exact ⟨keep_alloc (keep_alloc (((cell_store (by omega)).trans ((qq.cell (p := ⟨w.heap.size, 0, none⟩) pl).trans p0)))), keep_alloc (keep_alloc (((cell_store (by omega)).trans ((qq.cell (p := ⟨w.heap.size, 1, none⟩) pl).trans p1)))), keep_alloc (keep_alloc (((cell_store (by omega)).trans ((qq.cell (p := ⟨w.heap.size, 2, none⟩) pl).trans p2)))), keep_alloc (keep_alloc (((cell_store (by omega)).trans ((qq.cell (p := ⟨w.heap.size, 3, none⟩) pl).trans p3)))), keep_alloc (keep_alloc (((cell_store (by omega)).trans ((qq.cell (p := ⟨w.heap.size + 1, 0, none⟩) ql).trans q0)))), keep_alloc (keep_alloc (((cell_store (by omega)).trans ((qq.cell (p := ⟨w.heap.size + 1, 1, none⟩) ql).trans q1)))), keep_alloc (keep_alloc (((cell_store (by omega)).trans ((qq.cell (p := ⟨w7.heap.size, 0, none⟩) xl).trans x0)))), keep_alloc (keep_alloc (((cell_store (by omega)).trans ((qq.cell (p := ⟨w7.heap.size, 1, none⟩) xl).trans x1)))), keep_alloc (keep_alloc (((cell_store (by omega)).trans ((qq.cell (p := ⟨w7.heap.size, 2, none⟩) xl).trans x2)))), keep_alloc (keep_alloc (((cell_store (by omega)).trans ((qq.cell (p := ⟨w9.heap.size, 0, none⟩) sl).trans s0)))), keep_alloc (keep_alloc (((cell_store (by omega)).trans ((qq.cell (p := ⟨w9.heap.size, 1, none⟩) sl).trans s1)))), keep_alloc (keep_alloc (((cell_store (by omega)).trans ((qq.cell (p := ⟨w9.heap.size, 2, none⟩) sl).trans s2))))⟩ | with_reducible exact ⟨((cell_putR (by omega)).trans ((cell_putR (by omega)).trans ((qq.cell (p := ⟨w.heap.size, 0, none⟩) pl).trans p0))), ((cell_putR (by omega)).trans ((cell_putR (by omega)).trans ((qq.cell (p := ⟨w.heap.size, 1, none⟩) pl).trans p1))), ((cell_putR (by omega)).trans ((cell_putR (by omega)).trans ((qq.cell (p := ⟨w.heap.size, 2, none⟩) pl).trans p2))), ((cell_putR (by omega)).trans ((cell_putR (by omega)).trans ((qq.cell (p := ⟨w.heap.size, 3, none⟩) pl).trans p3))), ((cell_putR (by omega)).trans ((cell_putR (by omega)).trans ((qq.cell (p := ⟨w.heap.size + 1, 0, none⟩) ql).trans q0))), ((cell_putR (by omega)).trans ((cell_putR (by omega)).trans ((qq.cell (p := ⟨w.heap.size + 1, 1, none⟩) ql).trans q1))), ((cell_putR (by omega)).trans ((cell_putR (by omega)).trans ((qq.cell (p := ⟨w7.heap.size, 0, none⟩) xl).trans x0))), ((cell_putR (by omega)).trans ((cell_putR (by omega)).trans ((qq.cell (p := ⟨w7.heap.size, 1, none⟩) xl).trans x1))), ((cell_putR (by omega)).trans ((cell_putR (by omega)).trans ((qq.cell (p := ⟨w7.heap.size, 2, none⟩) xl).trans x2))), ((cell_putR (by omega)).trans ((cell_putR (by omega)).trans ((qq.cell (p := ⟨w9.heap.size, 0, none⟩) sl).trans s0))), ((cell_putR (by omega)).trans ((cell_putR (by omega)).trans ((qq.cell (p := ⟨w9.heap.size, 1, none⟩) sl).trans s1))), ((cell_putR (by omega)).trans ((cell_putR (by omega)).trans ((qq.cell (p := ⟨w9.heap.size, 2, none⟩) sl).trans s2)))⟩ | with_reducible exact ⟨((cell_store (by omega)).trans ((cell_store (by omega)).trans ((qq.cell (p := ⟨w.heap.size, 0, none⟩) pl).trans p0))), ((cell_store (by omega)).trans ((cell_store (by omega)).trans ((qq.cell (p := ⟨w.heap.size, 1, none⟩) pl).trans p1))), ((cell_store (by omega)).trans ((cell_store (by omega)).trans ((qq.cell (p := ⟨w.heap.size, 2, none⟩) pl).trans p2))), ((cell_store (by omega)).trans ((cell_store (by omega)).trans ((qq.cell (p := ⟨w.heap.size, 3, none⟩) pl).trans p3))), ((cell_store (by omega)).trans ((cell_store (by omega)).trans ((qq.cell (p := ⟨w.heap.size + 1, 0, none⟩) ql).trans q0))), ((cell_store (by omega)).trans ((cell_store (by omega)).trans ((qq.cell (p := ⟨w.heap.size + 1, 1, none⟩) ql).trans q1))), ((cell_store (by omega)).trans ((cell_store (by omega)).trans ((qq.cell (p := ⟨w7.heap.size, 0, none⟩) xl).trans x0))), ((cell_store (by omega)).trans ((cell_store (by omega)).trans ((qq.cell (p := ⟨w7.heap.size, 1, none⟩) xl).trans x1))), ((cell_store (by omega)).trans ((cell_store (by omega)).trans ((qq.cell (p := ⟨w7.heap.size, 2, none⟩) xl).trans x2))), ((cell_store (by omega)).trans ((cell_store (by omega)).trans ((qq.cell (p := ⟨w9.heap.size, 0, none⟩) sl).trans s0))), ((cell_store (by omega)).trans ((cell_store (by omega)).trans ((qq.cell (p := ⟨w9.heap.size, 1, none⟩) sl).trans s1))), ((cell_store (by omega)).trans ((cell_store (by omega)).trans ((qq.cell (p := ⟨w9.heap.size, 2, none⟩) sl).trans s2)))⟩ | with_reducible exact ⟨keep_alloc (((cell_putR (by omega)).trans ((cell_putR (by omega)).trans ((qq.cell (p := ⟨w.heap.size, 0, none⟩) pl).trans p0)))), keep_alloc (((cell_putR (by omega)).trans ((cell_putR (by omega)).trans ((qq.cell (p := ⟨w.heap.size, 1, none⟩) pl).trans p1)))), keep_alloc (((cell_putR (by omega)).trans ((cell_putR (by omega)).trans ((qq.cell (p := ⟨w.heap.size, 2, none⟩) pl).trans p2)))), keep_alloc (((cell_putR (by omega)).trans ((cell_putR (by omega)).trans ((qq.cell (p := ⟨w.heap.size, 3, none⟩) pl).trans p3)))), keep_alloc (((cell_putR (by omega)).trans ((cell_putR (by omega)).trans ((qq.cell (p := ⟨w.heap.size + 1, 0, none⟩) ql).trans q0)))), keep_alloc (((cell_putR (by omega)).trans ((cell_putR (by omega)).trans ((qq.cell (p := ⟨w.heap.size + 1, 1, none⟩) ql).trans q1)))), keep_alloc (((cell_putR (by omega)).trans ((cell_putR (by omega)).trans ((qq.cell (p := ⟨w7.heap.size, 0, none⟩) xl).trans x0)))), keep_alloc (((cell_putR (by omega)).trans ((cell_putR (by omega)).trans ((qq.cell (p := ⟨w7.heap.size, 1, none⟩) xl).trans x1)))), keep_alloc (((cell_putR (by omega)).trans ((cell_putR (by omega)).trans ((qq.cell (p := ⟨w7.heap.size, 2, none⟩) xl).trans x2)))), keep_alloc (((cell_putR (by omega)).trans ((cell_putR (by omega)).trans ((qq.cell (p := ⟨w9.heap.size, 0, none⟩) sl).trans s0)))), keep_alloc (((cell_putR (by omega)).trans ((cell_putR (by omega)).trans ((qq.cell (p := ⟨w9.heap.size, 1, none⟩) sl).trans s1)))), keep_alloc (((cell_putR (by omega)).trans ((cell_putR (by omega)).trans ((qq.cell (p := ⟨w9.heap.size, 2, none⟩) sl).trans s2))))⟩ | with_reducible exact ⟨keep_alloc (((cell_store (by omega)).trans ((cell_store (by omega)).trans ((qq.cell (p := ⟨w.heap.size, 0, none⟩) pl).trans p0)))), keep_alloc (((cell_store (by omega)).trans ((cell_store (by omega)).trans ((qq.cell (p := ⟨w.heap.size, 1, none⟩) pl).trans p1)))), keep_alloc (((cell_store (by omega)).trans ((cell_store (by omega)).trans ((qq.cell (p := ⟨w.heap.size, 2, none⟩) pl).trans p2)))), keep_alloc (((cell_store (by omega)).trans ((cell_store (by omega)).trans ((qq.cell (p := ⟨w.heap.size, 3, none⟩) pl).trans p3)))), keep_alloc (((cell_store (by omega)).trans ((cell_store (by omega)).trans ((qq.cell (p := ⟨w.heap.size + 1, 0, none⟩) ql).trans q0)))), keep_alloc (((cell_store (by omega)).trans ((cell_store (by omega)).trans ((qq.cell (p := ⟨w.heap.size + 1, 1, none⟩) ql).trans q1)))), keep_alloc (((cell_store (by omega)).trans ((cell_store (by omega)).trans ((qq.cell (p := ⟨w7.heap.size, 0, none⟩) xl).trans x0)))), keep_alloc (((cell_store (by omega)).trans ((cell_store (by omega)).trans ((qq.cell (p := ⟨w7.heap.size, 1, none⟩) xl).trans x1)))), keep_alloc (((cell_store (by omega)).trans ((cell_store (by omega)).trans ((qq.cell (p := ⟨w7.heap.size, 2, none⟩) xl).trans x2)))), keep_alloc (((cell_store (by omega)).trans ((cell_store (by omega)).trans ((qq.cell (p := ⟨w9.heap.size, 0, none⟩) sl).trans s0)))), keep_alloc (((cell_store (by omega)).trans ((cell_store (by omega)).trans ((qq.cell (p := ⟨w9.heap.size, 1, none⟩) sl).trans s1)))), keep_alloc (((cell_store (by omega)).trans ((cell_store (by omega)).trans ((qq.cell (p := ⟨w9.heap.size, 2, none⟩) sl).trans s2))))⟩ | with_reducible exact ⟨keep_alloc (keep_alloc (((cell_putR (by omega)).trans ((cell_putR (by omega)).trans ((qq.cell (p := ⟨w.heap.size, 0, none⟩) pl).trans p0))))), keep_alloc (keep_alloc (((cell_putR (by omega)).trans ((cell_putR (by omega)).trans ((qq.cell (p := ⟨w.heap.size, 1, none⟩) pl).trans p1))))), keep_alloc (keep_alloc (((cell_putR (by omega)).trans ((cell_putR (by omega)).trans ((qq.cell (p := ⟨w.heap.size, 2, none⟩) pl).trans p2))))), keep_alloc (keep_alloc (((cell_putR (by omega)).trans ((cell_putR (by omega)).trans ((qq.cell (p := ⟨w.heap.size, 3, none⟩) pl).trans p3))))), keep_alloc (keep_alloc (((cell_putR (by omega)).trans ((cell_putR (by omega)).trans ((qq.cell (p := ⟨w.heap.size + 1, 0, none⟩) ql).trans q0))))), keep_alloc (keep_alloc (((cell_putR (by omega)).trans ((cell_putR (by omega)).trans ((qq.cell (p := ⟨w.heap.size + 1, 1, none⟩) ql).trans q1))))), keep_alloc (keep_alloc (((cell_putR (by omega)).trans ((cell_putR (by omega)).trans ((qq.cell (p := ⟨w7.heap.size, 0, none⟩) xl).trans x0))))), keep_alloc (keep_alloc (((cell_putR (by omega)).trans ((cell_putR (by omega)).trans ((qq.cell (p := ⟨w7.heap.size, 1, none⟩) xl).trans x1))))), keep_alloc (keep_alloc (((cell_putR (by omega)).trans ((cell_putR (by omega)).trans ((qq.cell (p := ⟨w7.heap.size, 2, none⟩) xl).trans x2))))), keep_alloc (keep_alloc (((cell_putR (by omega)).trans ((cell_putR (by omega)).trans ((qq.cell (p := ⟨w9.heap.size, 0, none⟩) sl).trans s0))))), keep_alloc (keep_alloc (((cell_putR (by omega)).trans ((cell_putR (by omega)).trans ((qq.cell (p := ⟨w9.heap.size, 1, none⟩) sl).trans s1))))), keep_alloc (keep_alloc (((cell_putR (by omega)).trans ((cell_putR (by omega)).trans ((qq.cell (p := ⟨w9.heap.size, 2, none⟩) sl).trans s2)))))⟩ | with_reducible exact ⟨keep_alloc (keep_alloc (((cell_store (by omega)).trans ((cell_store (by omega)).trans ((qq.cell (p := ⟨w.heap.size, 0, none⟩) pl).trans p0))))), keep_alloc (keep_alloc (((cell_store (by omega)).trans ((cell_store (by omega)).trans ((qq.cell (p := ⟨w.heap.size, 1, none⟩) pl).trans p1))))), keep_alloc (keep_alloc (((cell_store (by omega)).trans ((cell_store (by omega)).trans ((qq.cell (p := ⟨w.heap.size, 2, none⟩) pl).trans p2))))), keep_alloc (keep_alloc (((cell_store (by omega)).trans ((cell_store (by omega)).trans ((qq.cell (p := ⟨w.heap.size, 3, none⟩) pl).trans p3))))), keep_alloc (keep_alloc (((cell_store (by omega)).trans ((cell_store (by omega)).trans ((qq.cell (p := ⟨w.heap.size + 1, 0, none⟩) ql).trans q0))))), keep_alloc (keep_alloc (((cell_store (by omega)).trans ((cell_store (by omega)).trans ((qq.cell (p := ⟨w.heap.size + 1, 1, none⟩) ql).trans q1))))), keep_alloc (keep_alloc (((cell_store (by omega)).trans ((cell_store (by omega)).trans ((qq.cell (p := ⟨w7.heap.size, 0, none⟩) xl).trans x0))))), keep_alloc (keep_alloc (((cell_store (by omega)).trans ((cell_store (by omega)).trans ((qq.cell (p := ⟨w7.heap.size, 1, none⟩) xl).trans x1))))), keep_alloc (keep_alloc (((cell_store (by omega)).trans ((cell_store (by omega)).trans ((qq.cell (p := ⟨w7.heap.size, 2, none⟩) xl).trans x2))))), keep_alloc (keep_alloc (((cell_store (by omega)).trans ((cell_store (by omega)).trans ((qq.cell (p := ⟨w9.heap.size, 0, none⟩) sl).trans s0))))), keep_alloc (keep_alloc (((cell_store (by omega)).trans ((cell_store (by omega)).trans ((qq.cell (p := ⟨w9.heap.size, 1, none⟩) sl).trans s1))))), keep_alloc (keep_alloc (((cell_store (by omega)).trans ((cell_store (by omega)).trans ((qq.cell (p := ⟨w9.heap.size, 2, none⟩) sl).trans s2)))))⟩ | go_keep)
      (first
        | (go_at_call 32; (with_reducible refine (rzmul_N (h0.on BB0) (hcz.on BB0) (Nat.le_trans l0 (by omega)) (Nat.le_trans kc (by omega))).mono ?_); rintro e y1 ⟨bfa, Afa, nfa, cfa, rfl, fa, q⟩; have qq := BB0.trans (q.mono BB0.size); have h0' := (h0.on BB0).on q; have h1' := (h1.on BB0).on q; have g0' := (g0.on BB0).on q; have g1' := (g1.on BB0).on q; have hc' := (hc.on BB0).on q; have hcz' := (hcz.on BB0).on q; have q0z' := (q0z.on BB0).on q; have q1z' := (q1z.on BB0).on q; have hx' := (hx.on BB0).on q; have hs' := (hs.on BB0).on q; have qs1 := qq.size; clear q)
        | (go_at_call 32; (with_reducible refine (rzmul_N (h0.on BB1) (hcz.on BB1) (Nat.le_trans l0 (by omega)) (Nat.le_trans kc (by omega))).mono ?_); rintro e y1 ⟨bfa, Afa, nfa, cfa, rfl, fa, q⟩; have qq := BB1.trans (q.mono BB1.size); have h0' := (h0.on BB1).on q; have h1' := (h1.on BB1).on q; have g0' := (g0.on BB1).on q; have g1' := (g1.on BB1).on q; have hc' := (hc.on BB1).on q; have hcz' := (hcz.on BB1).on q; have q0z' := (q0z.on BB1).on q; have q1z' := (q1z.on BB1).on q; have hx' := (hx.on BB1).on q; have hs' := (hs.on BB1).on q; have qs1 := qq.size; have bo_0 := (q.cell (p := ⟨v10.heap.size, 0, none⟩) (by simp)).trans (show _ = some (.bool false) by simp [go_sem]); have fo_0 := (q.frozen (p := ⟨v10.heap.size, 0, none⟩) (by simp)).trans (show _ = false by simp [go_sem]); have bo_1 := (q.cell (p := ⟨v10.heap.size, 1, none⟩) (by simp)).trans (show _ = some (.slice none 0 0) by simp [go_sem]); have fo_1 := (q.frozen (p := ⟨v10.heap.size, 1, none⟩) (by simp)).trans (show _ = false by simp [go_sem]); have bo_2 := (q.cell (p := ⟨v10.heap.size, 2, none⟩) (by simp)).trans (show _ = some (.slice none 0 0) by simp [go_sem]); have fo_2 := (q.frozen (p := ⟨v10.heap.size, 2, none⟩) (by simp)).trans (show _ = false by simp [go_sem]); have ol : v10.heap.size < y1.heap.size := Nat.lt_of_lt_of_le (by simp) q.size; clear q)
        | (go_at_call 33; have up := Below.refl y1.heap.size y1; (with_reducible refine (rmul_N (g0'.on up) (hc'.on up) (Nat.le_trans j0 (by omega)) (Nat.le_trans lc (by omega))).mono ?_); rintro e y2 ⟨Afb, nfb, cfb, rfl, fb, q⟩; replace qq := (qq.trans (up.mono qq.size)).trans (q.mono (Nat.le_trans qq.size up.size)); replace h0' := (h0'.on up).on q; replace h1' := (h1'.on up).on q; replace g0' := (g0'.on up).on q; replace g1' := (g1'.on up).on q; replace hc' := (hc'.on up).on q; replace hcz' := (hcz'.on up).on q; replace q0z' := (q0z'.on up).on q; replace q1z' := (q1z'.on up).on q; replace hx' := (hx'.on up).on q; replace hs' := (hs'.on up).on q; replace fa := (fa.on up).on q; (try replace bo_0 := (q.cell (Nat.lt_of_lt_of_le ol up.size)).trans ((up.cell ol).trans bo_0)); (try replace fo_0 := (q.frozen (Nat.lt_of_lt_of_le ol up.size)).trans ((up.frozen ol).trans fo_0)); (try replace bo_1 := (q.cell (Nat.lt_of_lt_of_le ol up.size)).trans ((up.cell ol).trans bo_1)); (try replace fo_1 := (q.frozen (Nat.lt_of_lt_of_le ol up.size)).trans ((up.frozen ol).trans fo_1)); (try replace bo_2 := (q.cell (Nat.lt_of_lt_of_le ol up.size)).trans ((up.cell ol).trans bo_2)); (try replace fo_2 := (q.frozen (Nat.lt_of_lt_of_le ol up.size)).trans ((up.frozen ol).trans fo_2)); (try replace ol := Nat.lt_of_lt_of_le ol (Nat.le_trans up.size q.size)); have qs2 := qq.size; clear q up)
        | (go_at_call 33; have up := below_one y1 (.cells #[.bool false, .slice none 0 0, .slice none 0 0] 27); (with_reducible refine (rmul_N (g0'.on up) (hc'.on up) (Nat.le_trans j0 (by omega)) (Nat.le_trans lc (by omega))).mono ?_); rintro e y2 ⟨Afb, nfb, cfb, rfl, fb, q⟩; replace qq := (qq.trans (up.mono qq.size)).trans (q.mono (Nat.le_trans qq.size up.size)); replace h0' := (h0'.on up).on q; replace h1' := (h1'.on up).on q; replace g0' := (g0'.on up).on q; replace g1' := (g1'.on up).on q; replace hc' := (hc'.on up).on q; replace hcz' := (hcz'.on up).on q; replace q0z' := (q0z'.on up).on q; replace q1z' := (q1z'.on up).on q; replace hx' := (hx'.on up).on q; replace hs' := (hs'.on up).on q; replace fa := (fa.on up).on q; (try replace bo_0 := (q.cell (Nat.lt_of_lt_of_le ol up.size)).trans ((up.cell ol).trans bo_0)); (try replace fo_0 := (q.frozen (Nat.lt_of_lt_of_le ol up.size)).trans ((up.frozen ol).trans fo_0)); (try replace bo_1 := (q.cell (Nat.lt_of_lt_of_le ol up.size)).trans ((up.cell ol).trans bo_1)); (try replace fo_1 := (q.frozen (Nat.lt_of_lt_of_le ol up.size)).trans ((up.frozen ol).trans fo_1)); (try replace bo_2 := (q.cell (Nat.lt_of_lt_of_le ol up.size)).trans ((up.cell ol).trans bo_2)); (try replace fo_2 := (q.frozen (Nat.lt_of_lt_of_le ol up.size)).trans ((up.frozen ol).trans fo_2)); (try replace ol := Nat.lt_of_lt_of_le ol (Nat.le_trans up.size q.size)); have qs2 := qq.size; have bo_0 := (q.cell (p := ⟨y1.heap.size, 0, none⟩) (by simp)).trans (show _ = some (.bool false) by simp [go_sem]); have fo_0 := (q.frozen (p := ⟨y1.heap.size, 0, none⟩) (by simp)).trans (show _ = false by simp [go_sem]); have bo_1 := (q.cell (p := ⟨y1.heap.size, 1, none⟩) (by simp)).trans (show _ = some (.slice none 0 0) by simp [go_sem]); have fo_1 := (q.frozen (p := ⟨y1.heap.size, 1, none⟩) (by simp)).trans (show _ = false by simp [go_sem]); have bo_2 := (q.cell (p := ⟨y1.heap.size, 2, none⟩) (by simp)).trans (show _ = some (.slice none 0 0) by simp [go_sem]); have fo_2 := (q.frozen (p := ⟨y1.heap.size, 2, none⟩) (by simp)).trans (show _ = false by simp [go_sem]); have ol : y1.heap.size < y2.heap.size := Nat.lt_of_lt_of_le (by simp) q.size; clear q up)
        | (go_at_call 13; have up := Below.refl y2.heap.size y2; (with_reducible refine (qmake_N (fa.on up) (fb.on up) hyc v1_ v2_).mono ?_); rintro e y3 ⟨bo, Ao, no, co, Bo, mo, do_, rfl, o, q⟩; replace qq := (qq.trans (up.mono qq.size)).trans (q.mono (Nat.le_trans qq.size up.size)); replace h0' := (h0'.on up).on q; replace h1' := (h1'.on up).on q; replace g0' := (g0'.on up).on q; replace g1' := (g1'.on up).on q; replace hc' := (hc'.on up).on q; replace hcz' := (hcz'.on up).on q; replace q0z' := (q0z'.on up).on q; replace q1z' := (q1z'.on up).on q; replace hx' := (hx'.on up).on q; replace hs' := (hs'.on up).on q; replace fa := (fa.on up).on q; replace fb := (fb.on up).on q; (try replace bo_0 := (q.cell (Nat.lt_of_lt_of_le ol up.size)).trans ((up.cell ol).trans bo_0)); (try replace fo_0 := (q.frozen (Nat.lt_of_lt_of_le ol up.size)).trans ((up.frozen ol).trans fo_0)); (try replace bo_1 := (q.cell (Nat.lt_of_lt_of_le ol up.size)).trans ((up.cell ol).trans bo_1)); (try replace fo_1 := (q.frozen (Nat.lt_of_lt_of_le ol up.size)).trans ((up.frozen ol).trans fo_1)); (try replace bo_2 := (q.cell (Nat.lt_of_lt_of_le ol up.size)).trans ((up.cell ol).trans bo_2)); (try replace fo_2 := (q.frozen (Nat.lt_of_lt_of_le ol up.size)).trans ((up.frozen ol).trans fo_2)); (try replace ol := Nat.lt_of_lt_of_le ol (Nat.le_trans up.size q.size)); have qs3 := qq.size; clear q up)
        | (go_at_call 13; have up := below_one y2 (.cells #[.bool false, .slice none 0 0, .slice none 0 0] 27); (with_reducible refine (qmake_N (fa.on up) (fb.on up) hyc v1_ v2_).mono ?_); rintro e y3 ⟨bo, Ao, no, co, Bo, mo, do_, rfl, o, q⟩; replace qq := (qq.trans (up.mono qq.size)).trans (q.mono (Nat.le_trans qq.size up.size)); replace h0' := (h0'.on up).on q; replace h1' := (h1'.on up).on q; replace g0' := (g0'.on up).on q; replace g1' := (g1'.on up).on q; replace hc' := (hc'.on up).on q; replace hcz' := (hcz'.on up).on q; replace q0z' := (q0z'.on up).on q; replace q1z' := (q1z'.on up).on q; replace hx' := (hx'.on up).on q; replace hs' := (hs'.on up).on q; replace fa := (fa.on up).on q; replace fb := (fb.on up).on q; (try replace bo_0 := (q.cell (Nat.lt_of_lt_of_le ol up.size)).trans ((up.cell ol).trans bo_0)); (try replace fo_0 := (q.frozen (Nat.lt_of_lt_of_le ol up.size)).trans ((up.frozen ol).trans fo_0)); (try replace bo_1 := (q.cell (Nat.lt_of_lt_of_le ol up.size)).trans ((up.cell ol).trans bo_1)); (try replace fo_1 := (q.frozen (Nat.lt_of_lt_of_le ol up.size)).trans ((up.frozen ol).trans fo_1)); (try replace bo_2 := (q.cell (Nat.lt_of_lt_of_le ol up.size)).trans ((up.cell ol).trans bo_2)); (try replace fo_2 := (q.frozen (Nat.lt_of_lt_of_le ol up.size)).trans ((up.frozen ol).trans fo_2)); (try replace ol := Nat.lt_of_lt_of_le ol (Nat.le_trans up.size q.size)); have qs3 := qq.size; have bo_0 := (q.cell (p := ⟨y2.heap.size, 0, none⟩) (by simp)).trans (show _ = some (.bool false) by simp [go_sem]); have fo_0 := (q.frozen (p := ⟨y2.heap.size, 0, none⟩) (by simp)).trans (show _ = false by simp [go_sem]); have bo_1 := (q.cell (p := ⟨y2.heap.size, 1, none⟩) (by simp)).trans (show _ = some (.slice none 0 0) by simp [go_sem]); have fo_1 := (q.frozen (p := ⟨y2.heap.size, 1, none⟩) (by simp)).trans (show _ = false by simp [go_sem]); have bo_2 := (q.cell (p := ⟨y2.heap.size, 2, none⟩) (by simp)).trans (show _ = some (.slice none 0 0) by simp [go_sem]); have fo_2 := (q.frozen (p := ⟨y2.heap.size, 2, none⟩) (by simp)).trans (show _ = false by simp [go_sem]); have ol : y2.heap.size < y3.heap.size := Nat.lt_of_lt_of_le (by simp) q.size; clear q up))
    all_goals (go_wp2_with fail; go_meet)
    all_goals refine ⟨_, bo, Ao, no, co, Bo, mo, do_, rfl, rfl, ?_⟩
    all_goals first
      | with_reducible exact loneRA o qq _
      | with_reducible exact loneRB bo_0 bo_1 bo_2 o qq (by omega)
  case rest =>
    obtain ⟨gt, bt, At, nt, ct, Bt, mt, dt, rfl, rfl, ⟨t0, t1, t2⟩, ht, b, tge⟩ := hcut
    have tl := cell_lt t0
    simp only at tl
    have tqp : w.heap.size < gt := Nat.lt_of_lt_of_le pl tge
    have tqq : w.heap.size + 1 < gt := Nat.lt_of_lt_of_le ql tge
    have tqx : w7.heap.size < gt := Nat.lt_of_lt_of_le xl tge
    have tqs : w9.heap.size < gt := Nat.lt_of_lt_of_le sl tge
    replace h0 := h0.on b
    replace h1 := h1.on b
    replace g0 := g0.on b
    replace g1 := g1.on b
    replace hc := hc.on b
    replace hcz := hcz.on b
    replace q0z := q0z.on b
    replace q1z := q1z.on b
    replace hx := hx.on b
    replace hs := hs.on b
    replace p0 := (b.cell (p := ⟨w.heap.size, 0, none⟩) pl).trans p0
    replace p1 := (b.cell (p := ⟨w.heap.size, 1, none⟩) pl).trans p1
    replace p2 := (b.cell (p := ⟨w.heap.size, 2, none⟩) pl).trans p2
    replace p3 := (b.cell (p := ⟨w.heap.size, 3, none⟩) pl).trans p3
    replace pl := Nat.lt_of_lt_of_le pl b.size
    replace q0 := (b.cell (p := ⟨w.heap.size + 1, 0, none⟩) ql).trans q0
    replace q1 := (b.cell (p := ⟨w.heap.size + 1, 1, none⟩) ql).trans q1
    replace ql := Nat.lt_of_lt_of_le ql b.size
    replace x0 := (b.cell (p := ⟨w7.heap.size, 0, none⟩) xl).trans x0
    replace x1 := (b.cell (p := ⟨w7.heap.size, 1, none⟩) xl).trans x1
    replace x2 := (b.cell (p := ⟨w7.heap.size, 2, none⟩) xl).trans x2
    replace xl := Nat.lt_of_lt_of_le xl b.size
    replace s0 := (b.cell (p := ⟨w9.heap.size, 0, none⟩) sl).trans s0
    replace s1 := (b.cell (p := ⟨w9.heap.size, 1, none⟩) sl).trans s1
    replace s2 := (b.cell (p := ⟨w9.heap.size, 2, none⟩) sl).trans s2
    replace sl := Nat.lt_of_lt_of_le sl b.size
    replace cc := cc.trans (b.mono cc.size)
    clear b
    go_wp2_with fail
    refine (rzmul_N h0 q1z (Nat.le_trans l0 (by omega)) (Nat.le_trans ky1 (by omega))).mono ?_
    rintro e w11 ⟨bu, Au, nu, cu, rfl, hu, b⟩
    replace h0 := h0.on b
    replace h1 := h1.on b
    replace g0 := g0.on b
    replace g1 := g1.on b
    replace hc := hc.on b
    replace hcz := hcz.on b
    replace q0z := q0z.on b
    replace q1z := q1z.on b
    replace hx := hx.on b
    replace hs := hs.on b
    replace ht := ht.on b
    replace p0 := (b.cell (p := ⟨w.heap.size, 0, none⟩) pl).trans p0
    replace p1 := (b.cell (p := ⟨w.heap.size, 1, none⟩) pl).trans p1
    replace p2 := (b.cell (p := ⟨w.heap.size, 2, none⟩) pl).trans p2
    replace p3 := (b.cell (p := ⟨w.heap.size, 3, none⟩) pl).trans p3
    replace pl := Nat.lt_of_lt_of_le pl b.size
    replace q0 := (b.cell (p := ⟨w.heap.size + 1, 0, none⟩) ql).trans q0
    replace q1 := (b.cell (p := ⟨w.heap.size + 1, 1, none⟩) ql).trans q1
    replace ql := Nat.lt_of_lt_of_le ql b.size
    replace x0 := (b.cell (p := ⟨w7.heap.size, 0, none⟩) xl).trans x0
    replace x1 := (b.cell (p := ⟨w7.heap.size, 1, none⟩) xl).trans x1
    replace x2 := (b.cell (p := ⟨w7.heap.size, 2, none⟩) xl).trans x2
    replace xl := Nat.lt_of_lt_of_le xl b.size
    replace s0 := (b.cell (p := ⟨w9.heap.size, 0, none⟩) sl).trans s0
    replace s1 := (b.cell (p := ⟨w9.heap.size, 1, none⟩) sl).trans s1
    replace s2 := (b.cell (p := ⟨w9.heap.size, 2, none⟩) sl).trans s2
    replace sl := Nat.lt_of_lt_of_le sl b.size
    replace t0 := (b.cell (p := ⟨gt, 0, none⟩) tl).trans t0
    replace t1 := (b.cell (p := ⟨gt, 1, none⟩) tl).trans t1
    replace t2 := (b.cell (p := ⟨gt, 2, none⟩) tl).trans t2
    replace tl := Nat.lt_of_lt_of_le tl b.size
    replace cc := cc.trans (b.mono cc.size)
    clear b
    go_wp2_with fail
    have bA := below_one w11 (.cells #[.bool bu, .slice Au nu cu] 25)
    replace h0 := h0.on bA
    replace h1 := h1.on bA
    replace g0 := g0.on bA
    replace g1 := g1.on bA
    replace hc := hc.on bA
    replace hcz := hcz.on bA
    replace q0z := q0z.on bA
    replace q1z := q1z.on bA
    replace hx := hx.on bA
    replace hs := hs.on bA
    replace ht := ht.on bA
    replace hu := hu.on bA
    replace p0 := (bA.cell (p := ⟨w.heap.size, 0, none⟩) pl).trans p0
    replace p1 := (bA.cell (p := ⟨w.heap.size, 1, none⟩) pl).trans p1
    replace p2 := (bA.cell (p := ⟨w.heap.size, 2, none⟩) pl).trans p2
    replace p3 := (bA.cell (p := ⟨w.heap.size, 3, none⟩) pl).trans p3
    replace pl := Nat.lt_of_lt_of_le pl bA.size
    replace q0 := (bA.cell (p := ⟨w.heap.size + 1, 0, none⟩) ql).trans q0
    replace q1 := (bA.cell (p := ⟨w.heap.size + 1, 1, none⟩) ql).trans q1
    replace ql := Nat.lt_of_lt_of_le ql bA.size
    replace x0 := (bA.cell (p := ⟨w7.heap.size, 0, none⟩) xl).trans x0
    replace x1 := (bA.cell (p := ⟨w7.heap.size, 1, none⟩) xl).trans x1
    replace x2 := (bA.cell (p := ⟨w7.heap.size, 2, none⟩) xl).trans x2
    replace xl := Nat.lt_of_lt_of_le xl bA.size
    replace s0 := (bA.cell (p := ⟨w9.heap.size, 0, none⟩) sl).trans s0
    replace s1 := (bA.cell (p := ⟨w9.heap.size, 1, none⟩) sl).trans s1
    replace s2 := (bA.cell (p := ⟨w9.heap.size, 2, none⟩) sl).trans s2
    replace sl := Nat.lt_of_lt_of_le sl bA.size
    replace t0 := (bA.cell (p := ⟨gt, 0, none⟩) tl).trans t0
    replace t1 := (bA.cell (p := ⟨gt, 1, none⟩) tl).trans t1
    replace t2 := (bA.cell (p := ⟨gt, 2, none⟩) tl).trans t2
    replace tl := Nat.lt_of_lt_of_le tl bA.size
    replace cc := cc.trans (bA.mono cc.size)
    clear bA
    have u0 : (w11.alloc (.cells #[.bool bu, .slice Au nu cu] 25)).cell? ⟨w11.heap.size, 0, none⟩ = some (.bool bu) := by simp [go_sem]
    have u1 : (w11.alloc (.cells #[.bool bu, .slice Au nu cu] 25)).cell? ⟨w11.heap.size, 1, none⟩ = some (.slice Au nu cu) := by simp [go_sem]
    have ul : w11.heap.size < (w11.alloc (.cells #[.bool bu, .slice Au nu cu] 25)).heap.size := by simp
    generalize w11.alloc (.cells #[.bool bu, .slice Au nu cu] 25) = v12 at *
    refine (rzmul_N h1 q0z (Nat.le_trans l1 (by omega)) (Nat.le_trans ky0 (by omega))).mono ?_
    rintro e w13 ⟨bv, Av, nv, cv, rfl, hv, b⟩
    replace h0 := h0.on b
    replace h1 := h1.on b
    replace g0 := g0.on b
    replace g1 := g1.on b
    replace hc := hc.on b
    replace hcz := hcz.on b
    replace q0z := q0z.on b
    replace q1z := q1z.on b
    replace hx := hx.on b
    replace hs := hs.on b
    replace ht := ht.on b
    replace hu := hu.on b
    replace p0 := (b.cell (p := ⟨w.heap.size, 0, none⟩) pl).trans p0
    replace p1 := (b.cell (p := ⟨w.heap.size, 1, none⟩) pl).trans p1
    replace p2 := (b.cell (p := ⟨w.heap.size, 2, none⟩) pl).trans p2
    replace p3 := (b.cell (p := ⟨w.heap.size, 3, none⟩) pl).trans p3
    replace pl := Nat.lt_of_lt_of_le pl b.size
    replace q0 := (b.cell (p := ⟨w.heap.size + 1, 0, none⟩) ql).trans q0
    replace q1 := (b.cell (p := ⟨w.heap.size + 1, 1, none⟩) ql).trans q1
    replace ql := Nat.lt_of_lt_of_le ql b.size
    replace x0 := (b.cell (p := ⟨w7.heap.size, 0, none⟩) xl).trans x0
    replace x1 := (b.cell (p := ⟨w7.heap.size, 1, none⟩) xl).trans x1
    replace x2 := (b.cell (p := ⟨w7.heap.size, 2, none⟩) xl).trans x2
    replace xl := Nat.lt_of_lt_of_le xl b.size
    replace s0 := (b.cell (p := ⟨w9.heap.size, 0, none⟩) sl).trans s0
    replace s1 := (b.cell (p := ⟨w9.heap.size, 1, none⟩) sl).trans s1
    replace s2 := (b.cell (p := ⟨w9.heap.size, 2, none⟩) sl).trans s2
    replace sl := Nat.lt_of_lt_of_le sl b.size
    replace t0 := (b.cell (p := ⟨gt, 0, none⟩) tl).trans t0
    replace t1 := (b.cell (p := ⟨gt, 1, none⟩) tl).trans t1
    replace t2 := (b.cell (p := ⟨gt, 2, none⟩) tl).trans t2
    replace tl := Nat.lt_of_lt_of_le tl b.size
    replace u0 := (b.cell (p := ⟨w11.heap.size, 0, none⟩) ul).trans u0
    replace u1 := (b.cell (p := ⟨w11.heap.size, 1, none⟩) ul).trans u1
    replace ul := Nat.lt_of_lt_of_le ul b.size
    replace cc := cc.trans (b.mono cc.size)
    clear b
    go_wp2_with fail
    have bA := below_one w13 (.cells #[.bool bv, .slice Av nv cv] 25)
    replace h0 := h0.on bA
    replace h1 := h1.on bA
    replace g0 := g0.on bA
    replace g1 := g1.on bA
    replace hc := hc.on bA
    replace hcz := hcz.on bA
    replace q0z := q0z.on bA
    replace q1z := q1z.on bA
    replace hx := hx.on bA
    replace hs := hs.on bA
    replace ht := ht.on bA
    replace hu := hu.on bA
    replace hv := hv.on bA
    replace p0 := (bA.cell (p := ⟨w.heap.size, 0, none⟩) pl).trans p0
    replace p1 := (bA.cell (p := ⟨w.heap.size, 1, none⟩) pl).trans p1
    replace p2 := (bA.cell (p := ⟨w.heap.size, 2, none⟩) pl).trans p2
    replace p3 := (bA.cell (p := ⟨w.heap.size, 3, none⟩) pl).trans p3
    replace pl := Nat.lt_of_lt_of_le pl bA.size
    replace q0 := (bA.cell (p := ⟨w.heap.size + 1, 0, none⟩) ql).trans q0
    replace q1 := (bA.cell (p := ⟨w.heap.size + 1, 1, none⟩) ql).trans q1
    replace ql := Nat.lt_of_lt_of_le ql bA.size
    replace x0 := (bA.cell (p := ⟨w7.heap.size, 0, none⟩) xl).trans x0
    replace x1 := (bA.cell (p := ⟨w7.heap.size, 1, none⟩) xl).trans x1
    replace x2 := (bA.cell (p := ⟨w7.heap.size, 2, none⟩) xl).trans x2
    replace xl := Nat.lt_of_lt_of_le xl bA.size
    replace s0 := (bA.cell (p := ⟨w9.heap.size, 0, none⟩) sl).trans s0
    replace s1 := (bA.cell (p := ⟨w9.heap.size, 1, none⟩) sl).trans s1
    replace s2 := (bA.cell (p := ⟨w9.heap.size, 2, none⟩) sl).trans s2
    replace sl := Nat.lt_of_lt_of_le sl bA.size
    replace t0 := (bA.cell (p := ⟨gt, 0, none⟩) tl).trans t0
    replace t1 := (bA.cell (p := ⟨gt, 1, none⟩) tl).trans t1
    replace t2 := (bA.cell (p := ⟨gt, 2, none⟩) tl).trans t2
    replace tl := Nat.lt_of_lt_of_le tl bA.size
    replace u0 := (bA.cell (p := ⟨w11.heap.size, 0, none⟩) ul).trans u0
    replace u1 := (bA.cell (p := ⟨w11.heap.size, 1, none⟩) ul).trans u1
    replace ul := Nat.lt_of_lt_of_le ul bA.size
    replace cc := cc.trans (bA.mono cc.size)
    clear bA
    have v0 : (w13.alloc (.cells #[.bool bv, .slice Av nv cv] 25)).cell? ⟨w13.heap.size, 0, none⟩ = some (.bool bv) := by simp [go_sem]
    have v1 : (w13.alloc (.cells #[.bool bv, .slice Av nv cv] 25)).cell? ⟨w13.heap.size, 1, none⟩ = some (.slice Av nv cv) := by simp [go_sem]
    have vl : w13.heap.size < (w13.alloc (.cells #[.bool bv, .slice Av nv cv] 25)).heap.size := by simp
    generalize w13.alloc (.cells #[.bool bv, .slice Av nv cv] 25) = v14 at *
    have qq : Below v14.heap.size v14 v14.drew := below_drewN (Below.refl _ v14) 1
    have h0' := h0.on qq
    have h1' := h1.on qq
    have g0' := g0.on qq
    have g1' := g1.on qq
    have hc' := hc.on qq
    have hcz' := hcz.on qq
    have q0z' := q0z.on qq
    have q1z' := q1z.on qq
    have hx' := hx.on qq
    have hs' := hs.on qq
    have ht' := ht.on qq
    have hu' := hu.on qq
    have hv' := hv.on qq
    go_region_held3 (fun w' => w'.cell? ⟨w.heap.size, 0, none⟩ = some (.bool b0) ∧ w'.cell? ⟨w.heap.size, 1, none⟩ = some (.slice A0 n0 c0) ∧ w'.cell? ⟨w.heap.size, 2, none⟩ = some (.bool b1) ∧ w'.cell? ⟨w.heap.size, 3, none⟩ = some (.slice A1 n1 c1) ∧ w'.cell? ⟨w.heap.size + 1, 0, none⟩ = some (.slice B0 m0 d0) ∧ w'.cell? ⟨w.heap.size + 1, 1, none⟩ = some (.slice B1 m1 d1) ∧ w'.cell? ⟨w7.heap.size, 0, none⟩ = some (.bool bx) ∧ w'.cell? ⟨w7.heap.size, 1, none⟩ = some (.slice Ax nx cx) ∧ w'.cell? ⟨w7.heap.size, 2, none⟩ = some (.slice Bx mx dx) ∧ w'.cell? ⟨w9.heap.size, 0, none⟩ = some (.bool bs) ∧ w'.cell? ⟨w9.heap.size, 1, none⟩ = some (.slice As ns cs) ∧ w'.cell? ⟨w9.heap.size, 2, none⟩ = some (.slice Bs ms ds) ∧ w'.cell? ⟨gt, 0, none⟩ = some (.bool bt) ∧ w'.cell? ⟨gt, 1, none⟩ = some (.slice At nt ct) ∧ w'.cell? ⟨gt, 2, none⟩ = some (.slice Bt mt dt) ∧ w'.cell? ⟨w11.heap.size, 0, none⟩ = some (.bool bu) ∧ w'.cell? ⟨w11.heap.size, 1, none⟩ = some (.slice Au nu cu) ∧ w'.cell? ⟨w13.heap.size, 0, none⟩ = some (.bool bv) ∧ w'.cell? ⟨w13.heap.size, 1, none⟩ = some (.slice Av nv cv))
      (first | with_reducible exact ⟨(qq.cell (p := ⟨w.heap.size, 0, none⟩) pl).trans p0, (qq.cell (p := ⟨w.heap.size, 1, none⟩) pl).trans p1, (qq.cell (p := ⟨w.heap.size, 2, none⟩) pl).trans p2, (qq.cell (p := ⟨w.heap.size, 3, none⟩) pl).trans p3, (qq.cell (p := ⟨w.heap.size + 1, 0, none⟩) ql).trans q0, (qq.cell (p := ⟨w.heap.size + 1, 1, none⟩) ql).trans q1, (qq.cell (p := ⟨w7.heap.size, 0, none⟩) xl).trans x0, (qq.cell (p := ⟨w7.heap.size, 1, none⟩) xl).trans x1, (qq.cell (p := ⟨w7.heap.size, 2, none⟩) xl).trans x2, (qq.cell (p := ⟨w9.heap.size, 0, none⟩) sl).trans s0, (qq.cell (p := ⟨w9.heap.size, 1, none⟩) sl).trans s1, (qq.cell (p := ⟨w9.heap.size, 2, none⟩) sl).trans s2, (qq.cell (p := ⟨gt, 0, none⟩) tl).trans t0, (qq.cell (p := ⟨gt, 1, none⟩) tl).trans t1, (qq.cell (p := ⟨gt, 2, none⟩) tl).trans t2, (qq.cell (p := ⟨w11.heap.size, 0, none⟩) ul).trans u0, (qq.cell (p := ⟨w11.heap.size, 1, none⟩) ul).trans u1, (qq.cell (p := ⟨w13.heap.size, 0, none⟩) vl).trans v0, (qq.cell (p := ⟨w13.heap.size, 1, none⟩) vl).trans v1⟩ | go_keep)
      (first
        | (go_at_call 12; (with_reducible refine (alive5_any _).mono ?_); rintro e wz ⟨rfl, q⟩; replace qq := qq.trans (q.mono qq.size); (try replace h0' := h0'.on q); (try replace h1' := h1'.on q); (try replace g0' := g0'.on q); (try replace g1' := g1'.on q); (try replace hc' := hc'.on q); (try replace hcz' := hcz'.on q); (try replace q0z' := q0z'.on q); (try replace q1z' := q1z'.on q); (try replace hx' := hx'.on q); (try replace hs' := hs'.on q); (try replace ht' := ht'.on q); (try replace hu' := hu'.on q); (try replace hv' := hv'.on q); clear q)
        | (go_at_call 18; (with_reducible refine (rtsame_eq hx' (sa.le (by omega)) ht' (sm.le (by omega)) e1).mono ?_); rintro e wz ⟨rfl, q⟩; replace qq := qq.trans (q.mono qq.size); (try replace h0' := h0'.on q); (try replace h1' := h1'.on q); (try replace g0' := g0'.on q); (try replace g1' := g1'.on q); (try replace hc' := hc'.on q); (try replace hcz' := hcz'.on q); (try replace q0z' := q0z'.on q); (try replace q1z' := q1z'.on q); (try replace hx' := hx'.on q); (try replace hs' := hs'.on q); (try replace ht' := ht'.on q); (try replace hu' := hu'.on q); (try replace hv' := hv'.on q); clear q)
        | (go_at_call 18; (with_reducible refine (rtsame_N hx' (sa.le (by omega)) hs' (sb.le (by omega)) r E3.out).mono ?_); rintro e wz ⟨rfl, q⟩; replace qq := qq.trans (q.mono qq.size); (try replace h0' := h0'.on q); (try replace h1' := h1'.on q); (try replace g0' := g0'.on q); (try replace g1' := g1'.on q); (try replace hc' := hc'.on q); (try replace hcz' := hcz'.on q); (try replace q0z' := q0z'.on q); (try replace q1z' := q1z'.on q); (try replace hx' := hx'.on q); (try replace hs' := hs'.on q); (try replace ht' := ht'.on q); (try replace hu' := hu'.on q); (try replace hv' := hv'.on q); clear q)
        | (go_at_call 34; (with_reducible refine (zsame_N r hu' hv' (Nat.le_trans v3_ (by omega)) (Nat.le_trans v4_ (by omega)) E2.out).mono ?_); rintro e wz ⟨rfl, q⟩; replace qq := qq.trans (q.mono qq.size); (try replace h0' := h0'.on q); (try replace h1' := h1'.on q); (try replace g0' := g0'.on q); (try replace g1' := g1'.on q); (try replace hc' := hc'.on q); (try replace hcz' := hcz'.on q); (try replace q0z' := q0z'.on q); (try replace q1z' := q1z'.on q); (try replace hx' := hx'.on q); (try replace hs' := hs'.on q); (try replace ht' := ht'.on q); (try replace hu' := hu'.on q); (try replace hv' := hv'.on q); clear q))
    clear h0
    have h0 := h0'
    clear h0'
    clear h1
    have h1 := h1'
    clear h1'
    clear g0
    have g0 := g0'
    clear g0'
    clear g1
    have g1 := g1'
    clear g1'
    clear hc
    have hc := hc'
    clear hc'
    clear hcz
    have hcz := hcz'
    clear hcz'
    clear q0z
    have q0z := q0z'
    clear q0z'
    clear q1z
    have q1z := q1z'
    clear q1z'
    clear hx
    have hx := hx'
    clear hx'
    clear hs
    have hs := hs'
    clear hs'
    clear ht
    have ht := ht'
    clear ht'
    clear hu
    have hu := hu'
    clear hu'
    clear hv
    have hv := hv'
    clear hv'
    replace p0 := (qq.cell (p := ⟨w.heap.size, 0, none⟩) pl).trans p0
    replace p1 := (qq.cell (p := ⟨w.heap.size, 1, none⟩) pl).trans p1
    replace p2 := (qq.cell (p := ⟨w.heap.size, 2, none⟩) pl).trans p2
    replace p3 := (qq.cell (p := ⟨w.heap.size, 3, none⟩) pl).trans p3
    replace pl := Nat.lt_of_lt_of_le pl qq.size
    replace q0 := (qq.cell (p := ⟨w.heap.size + 1, 0, none⟩) ql).trans q0
    replace q1 := (qq.cell (p := ⟨w.heap.size + 1, 1, none⟩) ql).trans q1
    replace ql := Nat.lt_of_lt_of_le ql qq.size
    replace x0 := (qq.cell (p := ⟨w7.heap.size, 0, none⟩) xl).trans x0
    replace x1 := (qq.cell (p := ⟨w7.heap.size, 1, none⟩) xl).trans x1
    replace x2 := (qq.cell (p := ⟨w7.heap.size, 2, none⟩) xl).trans x2
    replace xl := Nat.lt_of_lt_of_le xl qq.size
    replace s0 := (qq.cell (p := ⟨w9.heap.size, 0, none⟩) sl).trans s0
    replace s1 := (qq.cell (p := ⟨w9.heap.size, 1, none⟩) sl).trans s1
    replace s2 := (qq.cell (p := ⟨w9.heap.size, 2, none⟩) sl).trans s2
    replace sl := Nat.lt_of_lt_of_le sl qq.size
    replace t0 := (qq.cell (p := ⟨gt, 0, none⟩) tl).trans t0
    replace t1 := (qq.cell (p := ⟨gt, 1, none⟩) tl).trans t1
    replace t2 := (qq.cell (p := ⟨gt, 2, none⟩) tl).trans t2
    replace tl := Nat.lt_of_lt_of_le tl qq.size
    replace u0 := (qq.cell (p := ⟨w11.heap.size, 0, none⟩) ul).trans u0
    replace u1 := (qq.cell (p := ⟨w11.heap.size, 1, none⟩) ul).trans u1
    replace ul := Nat.lt_of_lt_of_le ul qq.size
    replace v0 := (qq.cell (p := ⟨w13.heap.size, 0, none⟩) vl).trans v0
    replace v1 := (qq.cell (p := ⟨w13.heap.size, 1, none⟩) vl).trans v1
    replace vl := Nat.lt_of_lt_of_le vl qq.size
    replace cc := cc.trans (qq.mono cc.size)
    clear qq
    go_wp2_with fail
    go_ret
    exact ⟨rfl, cc⟩

set_option maxRecDepth 100000 in
set_option maxHeartbeats 8000000 in
theorem RatOne_walk {w : World} (b0 : Bool) {A0 : Option Addr} {n0 c0 : Nat} {l0 : List Nat} (hl0 : Lim w.heap.size w A0 n0 c0 l0) (hs0 : n0 ≤ 9223372036854775807) (b1 : Bool) {A1 : Option Addr} {n1 c1 : Nat} {l1 : List Nat} (hl1 : Lim w.heap.size w A1 n1 c1 l1) (hs1 : n1 ≤ 9223372036854775807) {B0 : Option Addr} {m0 d0 : Nat} {k0 : List Nat} (hk0 : Lim w.heap.size w B0 m0 d0 k0) (ht0 : m0 ≤ 9223372036854775807) {B1 : Option Addr} {m1 d1 : Nat} {k1 : List Nat} (hk1 : Lim w.heap.size w B1 m1 d1 k1) (ht1 : m1 ≤ 9223372036854775807) {D : Option Addr} {kk gg : Nat} {lc : List Nat} (hc : Lim w.heap.size w D kk gg lc) (tc : kk ≤ 9223372036854775807) :
    Calls Try.prog 8 #[.agg #[.bool b0, .slice A0 n0 c0, .bool b1, .slice A1 n1 c1], .agg #[.slice B0 m0 d0, .slice B1 m1 d1], .slice D kk gg] w fun e w' => e = .returned (.bool true) ∧ Below w.heap.size w w' := by
  have F : ∀ {b : Bool} {A : Option Addr} {n c : Nat} {l : List Nat} (r : Bool), Lim w.heap.size w A n c l → n ≤ 9223372036854775807 → (decide ((n : Int) ≤ 4) && okZ b n l) = r → ∀ W : World, Below w.heap.size w W → Calls Try.prog 10 #[.agg #[.bool b, .slice A n c], .int .i64 4] W (GotV W (.bool r)) := fun r hl hs hr W hW => rzfew_any 4 r (hl.on hW) hs hr
  have R : ∀ {A : Option Addr} {n c : Nat} {l : List Nat} (r : Bool), Lim w.heap.size w A n c l → n ≤ 9223372036854775807 → canon l = r → ∀ W : World, Below w.heap.size w W → Calls Try.prog 11 #[.slice A n c] W (GotV W (.bool r)) := fun r hl hs hr W hW => (rright_any _ _ _ _ _ r _ (hl.on hW) hs hr).mono fun _ _ ⟨he, hw⟩ => ⟨he, by rw [← hw]; exact Below.refl _ _⟩
  cases e0 : (decide ((n0 : Int) ≤ 4) && okZ b0 n0 l0) with
  | false => exact RatOne_no0  (F false hl0 hs0 e0)
  | true =>
  cases e1 : decide ((4 : Int) < (m0 : Int)) with
  | true => exact RatOne_no1 (F true hl0 hs0 e0) e1
  | false =>
  cases e2 : ((m0 : Int) == 0) with
  | true => exact RatOne_no2 (F true hl0 hs0 e0) e1 e2
  | false =>
  cases e3 : canon k0 with
  | false => exact RatOne_no3 (F true hl0 hs0 e0) e1 e2 (R false hk0 ht0 e3)
  | true =>
  cases e4 : (decide ((n1 : Int) ≤ 4) && okZ b1 n1 l1) with
  | false => exact RatOne_no4 (F true hl0 hs0 e0) e1 e2 (R true hk0 ht0 e3) (F false hl1 hs1 e4)
  | true =>
  cases e5 : decide ((4 : Int) < (m1 : Int)) with
  | true => exact RatOne_no5 (F true hl0 hs0 e0) e1 e2 (R true hk0 ht0 e3) (F true hl1 hs1 e4) e5
  | false =>
  cases e6 : ((m1 : Int) == 0) with
  | true => exact RatOne_no6 (F true hl0 hs0 e0) e1 e2 (R true hk0 ht0 e3) (F true hl1 hs1 e4) e5 e6
  | false =>
  cases e7 : canon k1 with
  | false => exact RatOne_no7 (F true hl0 hs0 e0) e1 e2 (R true hk0 ht0 e3) (F true hl1 hs1 e4) e5 e6 (R false hk1 ht1 e7)
  | true =>
  cases e8 : decide ((4 : Int) < (kk : Int)) with
  | true => exact RatOne_no8 (F true hl0 hs0 e0) e1 e2 (R true hk0 ht0 e3) (F true hl1 hs1 e4) e5 e6 (R true hk1 ht1 e7) e8
  | false =>
  cases e9 : ((kk : Int) == 0) with
  | true => exact RatOne_no9 (F true hl0 hs0 e0) e1 e2 (R true hk0 ht0 e3) (F true hl1 hs1 e4) e5 e6 (R true hk1 ht1 e7) e8 e9
  | false =>
  cases e10 : canon lc with
  | false => exact RatOne_no10 (F true hl0 hs0 e0) e1 e2 (R true hk0 ht0 e3) (F true hl1 hs1 e4) e5 e6 (R true hk1 ht1 e7) e8 e9 (R false hc tc e10)
  | true =>
  obtain ⟨h0, j0⟩ := few_zn 4 hl0 e0
  obtain ⟨h1, j1⟩ := few_zn 4 hl1 e4
  have g0 := hk0.num e3
  have g1 := hk1.num e7
  have g2 := hc.num e10
  have u0 := of_decide_eq_false e1
  have u1 := of_decide_eq_false e5
  have u2 := of_decide_eq_false e8
  have v0 : 0 < m0 := by have := beq_eq_false_iff_ne.1 e2; omega
  have v1 : 0 < m1 := by have := beq_eq_false_iff_ne.1 e6; omega
  have v2 : 0 < kk := by have := beq_eq_false_iff_ne.1 e9; omega
  exact RatOne_ok (F true hl0 hs0 e0) e1 e2 (R true hk0 ht0 e3) (F true hl1 hs1 e4) e5 e6 (R true hk1 ht1 e7) e8 e9 (R true hc tc e10) h0 j0 h1 j1 g0 (by rw [← g0.len]; omega) g1 (by rw [← g1.len]; omega) g2 (by rw [← g2.len]; omega) (num_ne g0 v0) (num_ne g1 v1) (num_ne g2 v2)

end Go.Proofs.Ytgnhioffamfakaa
