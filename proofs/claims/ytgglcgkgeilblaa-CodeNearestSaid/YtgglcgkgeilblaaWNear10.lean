/-
  The walk of CodeNearest.
-/
import Derived.Test.YtgglcgkgeilblaaA5
namespace Go.Proofs.Ytgglcgkgeilblaa
set_option maxRecDepth 100000
open Go.RowKit
set_option linter.unusedVariables false
set_option linter.unusedSimpArgs false

set_option maxRecDepth 100000 in
set_option maxHeartbeats 8000000 in
theorem CodeNearest_no {w : World} {k a b : Int} {o : Nat} (C0 : ∀ W : World, Calls Try.prog 8 #[.int .i64 k, .int .i64 a, .int .i64 b] W (GotV W (.tuple #[.int .u8 0, .int .i64 1]))) (C1 : ∀ W : World, Calls Try.prog 13 #[.int .i64 k, .int .i64 a, .int .i64 b] W (GotV W (.bool false))) :
    Calls Try.prog 4 #[.int .i64 k, .agg #[.int .i64 a, .int .i64 b], .int .u8 (o : Int)] w fun e w' => e = .returned (.bool true) ∧ Below w.heap.size w w' := by
  have cc := Below.refl w.heap.size w
  go_enter Try.func4, Try.ntmps4
  go_wp2_with fail
  have bA : Below w.heap.size w (w.alloc (.cells #[.int .i64 a, .int .i64 b] 22)) := ((Below.refl _ w).alloc (by simp) _)
  replace cc := cc.trans (bA.mono cc.size)
  clear bA
  have pa0 : (w.alloc (.cells #[.int .i64 a, .int .i64 b] 22)).cell? ⟨w.heap.size, 0, none⟩ = some (.int .i64 a) := by simp [go_sem]
  have pa1 : (w.alloc (.cells #[.int .i64 a, .int .i64 b] 22)).cell? ⟨w.heap.size, 1, none⟩ = some (.int .i64 b) := by simp [go_sem]
  have pal : w.heap.size < (w.alloc (.cells #[.int .i64 a, .int .i64 b] 22)).heap.size := by simp <;> omega
  generalize w.alloc (.cells #[.int .i64 a, .int .i64 b] 22) = v1 at *
  go_wp2_with fail
  go_region_held3 (fun w' => w'.cell? ⟨w.heap.size, 0, none⟩ = some (.int .i64 a) ∧ w'.cell? ⟨w.heap.size, 1, none⟩ = some (.int .i64 b)) (exact ⟨pa0, pa1⟩) (fail)
  have bD : Below v1.heap.size v1 v1.drew := below_drewN (Below.refl _ _) 1
  replace pa0 := (bD.cell (p := ⟨w.heap.size, 0, none⟩) pal).trans pa0
  replace pa1 := (bD.cell (p := ⟨w.heap.size, 1, none⟩) pal).trans pa1
  replace pal := Nat.lt_of_lt_of_le pal bD.size
  replace cc := cc.trans (bD.mono cc.size)
  clear bD
  generalize v1.drew = v2 at *
  go_wp2_with fail
  refine (C0 _).mono ?_
  rintro e w3 ⟨rfl, b⟩
  replace pa0 := (b.cell (p := ⟨w.heap.size, 0, none⟩) pal).trans pa0
  replace pa1 := (b.cell (p := ⟨w.heap.size, 1, none⟩) pal).trans pa1
  replace pal := Nat.lt_of_lt_of_le pal b.size
  replace cc := cc.trans (b.mono cc.size)
  clear b
  go_wp2_with fail
  refine (C1 _).mono ?_
  rintro e w4 ⟨rfl, b⟩
  replace pa0 := (b.cell (p := ⟨w.heap.size, 0, none⟩) pal).trans pa0
  replace pa1 := (b.cell (p := ⟨w.heap.size, 1, none⟩) pal).trans pa1
  replace pal := Nat.lt_of_lt_of_le pal b.size
  replace cc := cc.trans (b.mono cc.size)
  clear b
  go_wp2_with fail
  refine (alive10_any _).mono ?_
  rintro e w5 ⟨rfl, b⟩
  replace pa0 := (b.cell (p := ⟨w.heap.size, 0, none⟩) pal).trans pa0
  replace pa1 := (b.cell (p := ⟨w.heap.size, 1, none⟩) pal).trans pa1
  replace pal := Nat.lt_of_lt_of_le pal b.size
  replace cc := cc.trans (b.mono cc.size)
  clear b
  go_wp2_with fail
  go_ret
  exact ⟨rfl, cc⟩

set_option maxRecDepth 100000 in
set_option maxHeartbeats 8000000 in
theorem CodeNearest_lt {w : World} {k a b g x y r q : Int} {c o : Nat} (hc : c < 256) (ho6 : o < 256) (hg : I64 g) (hb : I64 b) (C0 : ∀ W : World, Calls Try.prog 8 #[.int .i64 k, .int .i64 a, .int .i64 b] W (GotV W (.tuple #[.int .u8 (c : Int), .int .i64 0]))) (C1 : ∀ W : World, Calls Try.prog 13 #[.int .i64 k, .int .i64 a, .int .i64 b] W (GotV W (.bool true))) (C2 : ∀ W : World, Calls Try.prog 14 #[.int .i64 k, .int .u8 (c : Int), .int .i64 a, .int .i64 b] W (GotZ W x)) (C3 : ∀ W : World, Calls Try.prog 14 #[.int .i64 k, .int .u8 (o : Int), .int .i64 a, .int .i64 b] W (GotZ W y)) (C4 : ∀ W : World, Calls Try.prog 18 #[.int .i64 k] W (GotV W (.int .i64 g))) (lx : (limbs x.natAbs).length ≤ 3) (ly : (limbs y.natAbs).length ≤ 3) (EQ : cmpZ x y = r) (EP : cmpZ (x + x) (g * b) = q) (hq : q ≤ 0) (hr : r < 0) :
    Calls Try.prog 4 #[.int .i64 k, .agg #[.int .i64 a, .int .i64 b], .int .u8 (o : Int)] w fun e w' => e = .returned (.bool true) ∧ Below w.heap.size w w' := by
  have t1 : decide (r < 0) = true := decide_eq_true hr
  have t4 : decide (q ≤ 0) = true := decide_eq_true hq
  have c6 : (c : Int) < 256 := by omega
  have o6 : (o : Int) < 256 := by omega
  have l2 := zlen_add lx lx
  have lp := len_prod hg hb
  clear hq
  have cc := Below.refl w.heap.size w
  go_enter Try.func4, Try.ntmps4
  go_wp2_with fail
  have bA : Below w.heap.size w (w.alloc (.cells #[.int .i64 a, .int .i64 b] 22)) := ((Below.refl _ w).alloc (by simp) _)
  replace cc := cc.trans (bA.mono cc.size)
  clear bA
  have pa0 : (w.alloc (.cells #[.int .i64 a, .int .i64 b] 22)).cell? ⟨w.heap.size, 0, none⟩ = some (.int .i64 a) := by simp [go_sem]
  have pa1 : (w.alloc (.cells #[.int .i64 a, .int .i64 b] 22)).cell? ⟨w.heap.size, 1, none⟩ = some (.int .i64 b) := by simp [go_sem]
  have pal : w.heap.size < (w.alloc (.cells #[.int .i64 a, .int .i64 b] 22)).heap.size := by simp <;> omega
  generalize w.alloc (.cells #[.int .i64 a, .int .i64 b] 22) = v1 at *
  go_wp2_with fail
  go_region_held3 (fun w' => w'.cell? ⟨w.heap.size, 0, none⟩ = some (.int .i64 a) ∧ w'.cell? ⟨w.heap.size, 1, none⟩ = some (.int .i64 b)) (exact ⟨pa0, pa1⟩) (fail)
  have bD : Below v1.heap.size v1 v1.drew := below_drewN (Below.refl _ _) 1
  replace pa0 := (bD.cell (p := ⟨w.heap.size, 0, none⟩) pal).trans pa0
  replace pa1 := (bD.cell (p := ⟨w.heap.size, 1, none⟩) pal).trans pa1
  replace pal := Nat.lt_of_lt_of_le pal bD.size
  replace cc := cc.trans (bD.mono cc.size)
  clear bD
  generalize v1.drew = v2 at *
  go_wp2_with fail
  refine (C0 _).mono ?_
  rintro e w3 ⟨rfl, b⟩
  replace pa0 := (b.cell (p := ⟨w.heap.size, 0, none⟩) pal).trans pa0
  replace pa1 := (b.cell (p := ⟨w.heap.size, 1, none⟩) pal).trans pa1
  replace pal := Nat.lt_of_lt_of_le pal b.size
  replace cc := cc.trans (b.mono cc.size)
  clear b
  go_wp2_with fail
  refine (C1 _).mono ?_
  rintro e w4 ⟨rfl, b⟩
  replace pa0 := (b.cell (p := ⟨w.heap.size, 0, none⟩) pal).trans pa0
  replace pa1 := (b.cell (p := ⟨w.heap.size, 1, none⟩) pal).trans pa1
  replace pal := Nat.lt_of_lt_of_le pal b.size
  replace cc := cc.trans (b.mono cc.size)
  clear b
  go_wp2_with fail
  refine (C2 _).mono ?_
  rintro e w5 ⟨bx, Ax, nx, cx, rfl, hx, b⟩
  replace pa0 := (b.cell (p := ⟨w.heap.size, 0, none⟩) pal).trans pa0
  replace pa1 := (b.cell (p := ⟨w.heap.size, 1, none⟩) pal).trans pa1
  replace pal := Nat.lt_of_lt_of_le pal b.size
  replace cc := cc.trans (b.mono cc.size)
  clear b
  go_wp2_with fail
  have bA := below_one w5 (.cells #[.bool bx, .slice Ax nx cx] 34)
  replace hx := hx.on bA
  replace pa0 := (bA.cell (p := ⟨w.heap.size, 0, none⟩) pal).trans pa0
  replace pa1 := (bA.cell (p := ⟨w.heap.size, 1, none⟩) pal).trans pa1
  replace pal := Nat.lt_of_lt_of_le pal bA.size
  replace cc := cc.trans (bA.mono cc.size)
  clear bA
  have xx0 : (w5.alloc (.cells #[.bool bx, .slice Ax nx cx] 34)).cell? ⟨w5.heap.size, 0, none⟩ = some (.bool bx) := by simp [go_sem]
  have xx1 : (w5.alloc (.cells #[.bool bx, .slice Ax nx cx] 34)).cell? ⟨w5.heap.size, 1, none⟩ = some (.slice Ax nx cx) := by simp [go_sem]
  have xxl : w5.heap.size < (w5.alloc (.cells #[.bool bx, .slice Ax nx cx] 34)).heap.size := by simp
  generalize w5.alloc (.cells #[.bool bx, .slice Ax nx cx] 34) = v6 at *
  go_wp2_with fail
  have bD : Below v6.heap.size v6 v6.drew := below_drewN (Below.refl _ v6) 1
  replace hx := hx.on bD
  replace pa0 := (bD.cell (p := ⟨w.heap.size, 0, none⟩) pal).trans pa0
  replace pa1 := (bD.cell (p := ⟨w.heap.size, 1, none⟩) pal).trans pa1
  replace pal := Nat.lt_of_lt_of_le pal bD.size
  replace xx0 := (bD.cell (p := ⟨w5.heap.size, 0, none⟩) xxl).trans xx0
  replace xx1 := (bD.cell (p := ⟨w5.heap.size, 1, none⟩) xxl).trans xx1
  replace xxl := Nat.lt_of_lt_of_le xxl bD.size
  replace cc := cc.trans (bD.mono cc.size)
  clear bD
  refine wp_region_held_drew (S := fun w' => w'.cell? ⟨w.heap.size, 0, none⟩ = some (.int .i64 a) ∧ w'.cell? ⟨w.heap.size, 1, none⟩ = some (.int .i64 b) ∧ w'.cell? ⟨w5.heap.size, 0, none⟩ = some (.bool bx) ∧ w'.cell? ⟨w5.heap.size, 1, none⟩ = some (.slice Ax nx cx)) (by kernel_rfl) ?_ (fun hHeld => ?_)
  · exact ⟨pa0, pa1, xx0, xx1⟩
  refine wpAnyH_take (i := 0) (v := ?_) rfl (by kernel_rfl) (by kernel_rfl) (by kernel_rfl) (fun _ _ _ h => h) (Or.inl ⟨by rfl, ?_⟩) hHeld ?_
  rotate_left
  · (intro w hSw; (try dsimp only at hSw); go_simp; (try with_reducible rfl))
  try simp only [Act.put, List.getElem_toArray, List.getElem_cons_zero, List.getElem_cons_succ, List.setIfInBounds_toArray, List.set_cons_zero, List.set_cons_succ]
  refine wpAnyH_take (i := 1) (v := ?_) rfl (by kernel_rfl) (by kernel_rfl) (by kernel_rfl) (fun _ _ _ h => h) (Or.inl ⟨by rfl, ?_⟩) hHeld ?_
  rotate_left
  · (intro w hSw; (try dsimp only at hSw); go_simp; (try with_reducible rfl))
  try simp only [Act.put, List.getElem_toArray, List.getElem_cons_zero, List.getElem_cons_succ, List.setIfInBounds_toArray, List.set_cons_zero, List.set_cons_succ]
  refine wpAnyH_take (i := 2) (v := ?_) rfl (by kernel_rfl) (by kernel_rfl) (by kernel_rfl) (fun _ _ _ h => h) (Or.inl ⟨by rfl, ?_⟩) hHeld ?_
  rotate_left
  · (intro w hSw; (try dsimp only at hSw); go_simp; (try with_reducible rfl))
  try simp only [Act.put, List.getElem_toArray, List.getElem_cons_zero, List.getElem_cons_succ, List.setIfInBounds_toArray, List.set_cons_zero, List.set_cons_succ]
  refine wpAnyH_take (i := 3) (v := ?_) rfl (by kernel_rfl) (by kernel_rfl) (by kernel_rfl) (fun _ _ _ h => h) (Or.inl ⟨by rfl, ?_⟩) hHeld ?_
  rotate_left
  · (intro w hSw; (try dsimp only at hSw); go_simp; (try with_reducible rfl))
  try simp only [Act.put, List.getElem_toArray, List.getElem_cons_zero, List.getElem_cons_succ, List.setIfInBounds_toArray, List.set_cons_zero, List.set_cons_succ]
  refine wpAnyH_take (i := 4) (v := ?_) rfl (by kernel_rfl) (by kernel_rfl) (by kernel_rfl) (fun _ _ _ h => h) (Or.inl ⟨by rfl, ?_⟩) hHeld ?_
  rotate_left
  · (intro w hSw; (try dsimp only at hSw); go_simp; (try with_reducible rfl))
  try simp only [Act.put, List.getElem_toArray, List.getElem_cons_zero, List.getElem_cons_succ, List.setIfInBounds_toArray, List.set_cons_zero, List.set_cons_succ]
  refine wpAnyH_ready (rs := [5]) (by kernel_rfl) (by simp) ?_
  refine AllReadyH.cons rfl (fun K hK => ?_) AllReadyH.nil
  (try simp only [List.getElem_toArray, List.getElem_cons_zero, List.getElem_cons_succ])
  rw [if_pos (by rfl)]
  go_simp
  go_at_call 14
  refine (C3 _).mono ?_
  rintro e w7 ⟨bz, Az, nz, cz, rfl, hz, b⟩
  replace hx := hx.on b
  replace pa0 := (b.cell (p := ⟨w.heap.size, 0, none⟩) pal).trans pa0
  replace pa1 := (b.cell (p := ⟨w.heap.size, 1, none⟩) pal).trans pa1
  replace pal := Nat.lt_of_lt_of_le pal b.size
  replace xx0 := (b.cell (p := ⟨w5.heap.size, 0, none⟩) xxl).trans xx0
  replace xx1 := (b.cell (p := ⟨w5.heap.size, 1, none⟩) xxl).trans xx1
  replace xxl := Nat.lt_of_lt_of_le xxl b.size
  replace cc := cc.trans (b.mono cc.size)
  clear b
  refine hK.out _ _ ?_ (fun hHeld => ?_)
  · exact ⟨pa0, pa1, xx0, xx1⟩
  clear hK K
  try simp only [Act.put, List.getElem_toArray, List.getElem_cons_zero, List.getElem_cons_succ, List.setIfInBounds_toArray, List.set_cons_zero, List.set_cons_succ]
  refine wpAnyH_ready (rs := [6]) (by kernel_rfl) (by simp) ?_
  refine AllReadyH.cons rfl (fun K hK => ?_) AllReadyH.nil
  (try simp only [List.getElem_toArray, List.getElem_cons_zero, List.getElem_cons_succ])
  rw [if_pos (by rfl)]
  go_simp
  go_at_call 15
  refine (rzcmp_w r hx hz (Nat.le_trans lx (by omega)) (Nat.le_trans ly (by omega)) EQ).mono ?_
  rintro e w8 ⟨rfl, b⟩
  replace hx := hx.on b
  replace hz := hz.on b
  replace pa0 := (b.cell (p := ⟨w.heap.size, 0, none⟩) pal).trans pa0
  replace pa1 := (b.cell (p := ⟨w.heap.size, 1, none⟩) pal).trans pa1
  replace pal := Nat.lt_of_lt_of_le pal b.size
  replace xx0 := (b.cell (p := ⟨w5.heap.size, 0, none⟩) xxl).trans xx0
  replace xx1 := (b.cell (p := ⟨w5.heap.size, 1, none⟩) xxl).trans xx1
  replace xxl := Nat.lt_of_lt_of_le xxl b.size
  replace cc := cc.trans (b.mono cc.size)
  clear b
  refine hK.out _ _ ?_ (fun hHeld => ?_)
  · exact ⟨pa0, pa1, xx0, xx1⟩
  clear hK K
  try simp only [Act.put, List.getElem_toArray, List.getElem_cons_zero, List.getElem_cons_succ, List.setIfInBounds_toArray, List.set_cons_zero, List.set_cons_succ]
  refine wpAnyH_take (i := 7) (v := ?_) rfl (by kernel_rfl) (by kernel_rfl) (by kernel_rfl) (fun _ _ _ h => h) (Or.inl ⟨by rfl, ?_⟩) hHeld ?_
  rotate_left
  · (intro w hSw; (try dsimp only at hSw); go_simp; (try with_reducible rfl))
  try simp only [Act.put, List.getElem_toArray, List.getElem_cons_zero, List.getElem_cons_succ, List.setIfInBounds_toArray, List.set_cons_zero, List.set_cons_succ]
  refine wpAnyH_done (by kernel_rfl) ?_ _
  clear hHeld
  clear hz
  go_wp2_with fail
  refine (C4 _).mono ?_
  rintro e w9 ⟨rfl, b⟩
  replace hx := hx.on b
  replace pa0 := (b.cell (p := ⟨w.heap.size, 0, none⟩) pal).trans pa0
  replace pa1 := (b.cell (p := ⟨w.heap.size, 1, none⟩) pal).trans pa1
  replace pal := Nat.lt_of_lt_of_le pal b.size
  replace xx0 := (b.cell (p := ⟨w5.heap.size, 0, none⟩) xxl).trans xx0
  replace xx1 := (b.cell (p := ⟨w5.heap.size, 1, none⟩) xxl).trans xx1
  replace xxl := Nat.lt_of_lt_of_le xxl b.size
  replace cc := cc.trans (b.mono cc.size)
  clear b
  go_wp2_with fail
  refine (rzof_N _ g hg).mono ?_
  rintro e w10 ⟨bu, Au, nu, cu, rfl, hu, b⟩
  replace hx := hx.on b
  replace pa0 := (b.cell (p := ⟨w.heap.size, 0, none⟩) pal).trans pa0
  replace pa1 := (b.cell (p := ⟨w.heap.size, 1, none⟩) pal).trans pa1
  replace pal := Nat.lt_of_lt_of_le pal b.size
  replace xx0 := (b.cell (p := ⟨w5.heap.size, 0, none⟩) xxl).trans xx0
  replace xx1 := (b.cell (p := ⟨w5.heap.size, 1, none⟩) xxl).trans xx1
  replace xxl := Nat.lt_of_lt_of_le xxl b.size
  replace cc := cc.trans (b.mono cc.size)
  clear b
  go_wp2_with fail
  refine (rzof_N _ b hb).mono ?_
  rintro e w11 ⟨bv, Av, nv, cv, rfl, hv, b⟩
  replace hx := hx.on b
  replace hu := hu.on b
  replace pa0 := (b.cell (p := ⟨w.heap.size, 0, none⟩) pal).trans pa0
  replace pa1 := (b.cell (p := ⟨w.heap.size, 1, none⟩) pal).trans pa1
  replace pal := Nat.lt_of_lt_of_le pal b.size
  replace xx0 := (b.cell (p := ⟨w5.heap.size, 0, none⟩) xxl).trans xx0
  replace xx1 := (b.cell (p := ⟨w5.heap.size, 1, none⟩) xxl).trans xx1
  replace xxl := Nat.lt_of_lt_of_le xxl b.size
  replace cc := cc.trans (b.mono cc.size)
  clear b
  go_wp2_with fail
  refine (rzmul_N hu hv (Nat.le_trans (len_one hg.abs) (by omega)) (Nat.le_trans (len_one hb.abs) (by omega))).mono ?_
  rintro e w12 ⟨bp, Ap, np, cp, rfl, hp, b⟩
  replace hx := hx.on b
  replace hu := hu.on b
  replace hv := hv.on b
  replace pa0 := (b.cell (p := ⟨w.heap.size, 0, none⟩) pal).trans pa0
  replace pa1 := (b.cell (p := ⟨w.heap.size, 1, none⟩) pal).trans pa1
  replace pal := Nat.lt_of_lt_of_le pal b.size
  replace xx0 := (b.cell (p := ⟨w5.heap.size, 0, none⟩) xxl).trans xx0
  replace xx1 := (b.cell (p := ⟨w5.heap.size, 1, none⟩) xxl).trans xx1
  replace xxl := Nat.lt_of_lt_of_le xxl b.size
  replace cc := cc.trans (b.mono cc.size)
  clear b
  go_wp2_with fail
  have bA := below_one w12 (.cells #[.bool bp, .slice Ap np cp] 34)
  replace hx := hx.on bA
  replace hu := hu.on bA
  replace hv := hv.on bA
  replace hp := hp.on bA
  replace pa0 := (bA.cell (p := ⟨w.heap.size, 0, none⟩) pal).trans pa0
  replace pa1 := (bA.cell (p := ⟨w.heap.size, 1, none⟩) pal).trans pa1
  replace pal := Nat.lt_of_lt_of_le pal bA.size
  replace xx0 := (bA.cell (p := ⟨w5.heap.size, 0, none⟩) xxl).trans xx0
  replace xx1 := (bA.cell (p := ⟨w5.heap.size, 1, none⟩) xxl).trans xx1
  replace xxl := Nat.lt_of_lt_of_le xxl bA.size
  replace cc := cc.trans (bA.mono cc.size)
  clear bA
  have pp0 : (w12.alloc (.cells #[.bool bp, .slice Ap np cp] 34)).cell? ⟨w12.heap.size, 0, none⟩ = some (.bool bp) := by simp [go_sem]
  have pp1 : (w12.alloc (.cells #[.bool bp, .slice Ap np cp] 34)).cell? ⟨w12.heap.size, 1, none⟩ = some (.slice Ap np cp) := by simp [go_sem]
  have ppl : w12.heap.size < (w12.alloc (.cells #[.bool bp, .slice Ap np cp] 34)).heap.size := by simp
  generalize w12.alloc (.cells #[.bool bp, .slice Ap np cp] 34) = v13 at *
  clear hu hv
  go_wp2_with fail
  have bD : Below v13.heap.size v13 v13.drew := below_drewN (Below.refl _ v13) 1
  replace hx := hx.on bD
  replace hp := hp.on bD
  replace pa0 := (bD.cell (p := ⟨w.heap.size, 0, none⟩) pal).trans pa0
  replace pa1 := (bD.cell (p := ⟨w.heap.size, 1, none⟩) pal).trans pa1
  replace pal := Nat.lt_of_lt_of_le pal bD.size
  replace xx0 := (bD.cell (p := ⟨w5.heap.size, 0, none⟩) xxl).trans xx0
  replace xx1 := (bD.cell (p := ⟨w5.heap.size, 1, none⟩) xxl).trans xx1
  replace xxl := Nat.lt_of_lt_of_le xxl bD.size
  replace pp0 := (bD.cell (p := ⟨w12.heap.size, 0, none⟩) ppl).trans pp0
  replace pp1 := (bD.cell (p := ⟨w12.heap.size, 1, none⟩) ppl).trans pp1
  replace ppl := Nat.lt_of_lt_of_le ppl bD.size
  replace cc := cc.trans (bD.mono cc.size)
  clear bD
  refine wp_region_held_drew (S := fun w' => w'.cell? ⟨w.heap.size, 0, none⟩ = some (.int .i64 a) ∧ w'.cell? ⟨w.heap.size, 1, none⟩ = some (.int .i64 b) ∧ w'.cell? ⟨w5.heap.size, 0, none⟩ = some (.bool bx) ∧ w'.cell? ⟨w5.heap.size, 1, none⟩ = some (.slice Ax nx cx) ∧ w'.cell? ⟨w12.heap.size, 0, none⟩ = some (.bool bp) ∧ w'.cell? ⟨w12.heap.size, 1, none⟩ = some (.slice Ap np cp)) (by kernel_rfl) ?_ (fun hHeld => ?_)
  · exact ⟨pa0, pa1, xx0, xx1, pp0, pp1⟩
  refine wpAnyH_ready (rs := [0]) (by kernel_rfl) (by simp) ?_
  refine AllReadyH.cons rfl (fun K hK => ?_) AllReadyH.nil
  (try simp only [List.getElem_toArray, List.getElem_cons_zero, List.getElem_cons_succ])
  rw [if_pos (by rfl)]
  go_simp
  go_at_call 12
  refine (alive10_any _).mono ?_
  rintro e w14 ⟨rfl, b⟩
  replace hx := hx.on b
  replace hp := hp.on b
  replace pa0 := (b.cell (p := ⟨w.heap.size, 0, none⟩) pal).trans pa0
  replace pa1 := (b.cell (p := ⟨w.heap.size, 1, none⟩) pal).trans pa1
  replace pal := Nat.lt_of_lt_of_le pal b.size
  replace xx0 := (b.cell (p := ⟨w5.heap.size, 0, none⟩) xxl).trans xx0
  replace xx1 := (b.cell (p := ⟨w5.heap.size, 1, none⟩) xxl).trans xx1
  replace xxl := Nat.lt_of_lt_of_le xxl b.size
  replace pp0 := (b.cell (p := ⟨w12.heap.size, 0, none⟩) ppl).trans pp0
  replace pp1 := (b.cell (p := ⟨w12.heap.size, 1, none⟩) ppl).trans pp1
  replace ppl := Nat.lt_of_lt_of_le ppl b.size
  replace cc := cc.trans (b.mono cc.size)
  clear b
  refine hK.out _ _ ?_ (fun hHeld => ?_)
  · exact ⟨pa0, pa1, xx0, xx1, pp0, pp1⟩
  clear hK K
  try simp only [Act.put, List.getElem_toArray, List.getElem_cons_zero, List.getElem_cons_succ, List.setIfInBounds_toArray, List.set_cons_zero, List.set_cons_succ]
  refine wpAnyH_take (i := 1) (v := ?_) rfl (by kernel_rfl) (by kernel_rfl) (by kernel_rfl) (fun _ _ _ h => h) (Or.inl ⟨by rfl, ?_⟩) hHeld ?_
  rotate_left
  · (intro w hSw; (try dsimp only at hSw); go_simp; (try with_reducible rfl))
  try simp only [Act.put, List.getElem_toArray, List.getElem_cons_zero, List.getElem_cons_succ, List.setIfInBounds_toArray, List.set_cons_zero, List.set_cons_succ]
  refine wpAnyH_take (i := 2) (v := ?_) rfl (by kernel_rfl) (by kernel_rfl) (by kernel_rfl) (fun _ _ _ h => h) (Or.inl ⟨by rfl, ?_⟩) hHeld ?_
  rotate_left
  · (intro w hSw; (try dsimp only at hSw); go_simp; (try with_reducible rfl))
  try simp only [Act.put, List.getElem_toArray, List.getElem_cons_zero, List.getElem_cons_succ, List.setIfInBounds_toArray, List.set_cons_zero, List.set_cons_succ]
  refine wpAnyH_take (i := 3) (v := ?_) rfl (by kernel_rfl) (by kernel_rfl) (by kernel_rfl) (fun _ _ _ h => h) (Or.inl ⟨by rfl, ?_⟩) hHeld ?_
  rotate_left
  · (intro w hSw; (try dsimp only at hSw); go_simp; (try with_reducible rfl))
  try simp only [Act.put, List.getElem_toArray, List.getElem_cons_zero, List.getElem_cons_succ, List.setIfInBounds_toArray, List.set_cons_zero, List.set_cons_succ]
  refine wpAnyH_take (i := 4) (v := ?_) rfl (by kernel_rfl) (by kernel_rfl) (by kernel_rfl) (fun _ _ _ h => h) (Or.inl ⟨by rfl, ?_⟩) hHeld ?_
  rotate_left
  · (intro w hSw; (try dsimp only at hSw); go_simp; (try with_reducible rfl))
  try simp only [Act.put, List.getElem_toArray, List.getElem_cons_zero, List.getElem_cons_succ, List.setIfInBounds_toArray, List.set_cons_zero, List.set_cons_succ]
  refine wpAnyH_take (i := 5) (v := undef) rfl (by kernel_rfl) (by kernel_rfl) (by kernel_rfl) (fun _ _ _ h => h) (Or.inr ⟨by rfl, rfl⟩) hHeld ?_
  try simp only [Act.put, List.getElem_toArray, List.getElem_cons_zero, List.getElem_cons_succ, List.setIfInBounds_toArray, List.set_cons_zero, List.set_cons_succ]
  refine wpAnyH_take (i := 6) (v := undef) rfl (by kernel_rfl) (by kernel_rfl) (by kernel_rfl) (fun _ _ _ h => h) (Or.inr ⟨by rfl, rfl⟩) hHeld ?_
  try simp only [Act.put, List.getElem_toArray, List.getElem_cons_zero, List.getElem_cons_succ, List.setIfInBounds_toArray, List.set_cons_zero, List.set_cons_succ]
  refine wpAnyH_take (i := 7) (v := undef) rfl (by kernel_rfl) (by kernel_rfl) (by kernel_rfl) (fun _ _ _ h => h) (Or.inr ⟨by rfl, rfl⟩) hHeld ?_
  try simp only [Act.put, List.getElem_toArray, List.getElem_cons_zero, List.getElem_cons_succ, List.setIfInBounds_toArray, List.set_cons_zero, List.set_cons_succ]
  refine wpAnyH_take (i := 8) (v := undef) rfl (by kernel_rfl) (by kernel_rfl) (by kernel_rfl) (fun _ _ _ h => h) (Or.inr ⟨by rfl, rfl⟩) hHeld ?_
  try simp only [Act.put, List.getElem_toArray, List.getElem_cons_zero, List.getElem_cons_succ, List.setIfInBounds_toArray, List.set_cons_zero, List.set_cons_succ]
  refine wpAnyH_take (i := 9) (v := undef) rfl (by kernel_rfl) (by kernel_rfl) (by kernel_rfl) (fun _ _ _ h => h) (Or.inr ⟨by rfl, rfl⟩) hHeld ?_
  try simp only [Act.put, List.getElem_toArray, List.getElem_cons_zero, List.getElem_cons_succ, List.setIfInBounds_toArray, List.set_cons_zero, List.set_cons_succ]
  refine wpAnyH_take (i := 10) (v := undef) rfl (by kernel_rfl) (by kernel_rfl) (by kernel_rfl) (fun _ _ _ h => h) (Or.inr ⟨by rfl, rfl⟩) hHeld ?_
  try simp only [Act.put, List.getElem_toArray, List.getElem_cons_zero, List.getElem_cons_succ, List.setIfInBounds_toArray, List.set_cons_zero, List.set_cons_succ]
  refine wpAnyH_take (i := 11) (v := undef) rfl (by kernel_rfl) (by kernel_rfl) (by kernel_rfl) (fun _ _ _ h => h) (Or.inr ⟨by rfl, rfl⟩) hHeld ?_
  try simp only [Act.put, List.getElem_toArray, List.getElem_cons_zero, List.getElem_cons_succ, List.setIfInBounds_toArray, List.set_cons_zero, List.set_cons_succ]
  refine wpAnyH_take (i := 12) (v := ?_) rfl (by kernel_rfl) (by kernel_rfl) (by kernel_rfl) (fun _ _ _ h => h) (Or.inl ⟨by rfl, ?_⟩) hHeld ?_
  rotate_left
  · (intro w hSw; (try dsimp only at hSw); go_simp; (try with_reducible rfl))
  try simp only [Act.put, List.getElem_toArray, List.getElem_cons_zero, List.getElem_cons_succ, List.setIfInBounds_toArray, List.set_cons_zero, List.set_cons_succ]
  refine wpAnyH_take (i := 13) (v := ?_) rfl (by kernel_rfl) (by kernel_rfl) (by kernel_rfl) (fun _ _ _ h => h) (Or.inl ⟨by rfl, ?_⟩) hHeld ?_
  rotate_left
  · (intro w hSw; (try dsimp only at hSw); go_simp; (try with_reducible rfl))
  try simp only [Act.put, List.getElem_toArray, List.getElem_cons_zero, List.getElem_cons_succ, List.setIfInBounds_toArray, List.set_cons_zero, List.set_cons_succ]
  refine wpAnyH_take (i := 14) (v := ?_) rfl (by kernel_rfl) (by kernel_rfl) (by kernel_rfl) (fun _ _ _ h => h) (Or.inl ⟨by rfl, ?_⟩) hHeld ?_
  rotate_left
  · (intro w hSw; (try dsimp only at hSw); go_simp; (try with_reducible rfl))
  try simp only [Act.put, List.getElem_toArray, List.getElem_cons_zero, List.getElem_cons_succ, List.setIfInBounds_toArray, List.set_cons_zero, List.set_cons_succ]
  refine wpAnyH_take (i := 15) (v := ?_) rfl (by kernel_rfl) (by kernel_rfl) (by kernel_rfl) (fun _ _ _ h => h) (Or.inl ⟨by rfl, ?_⟩) hHeld ?_
  rotate_left
  · (intro w hSw; (try dsimp only at hSw); go_simp; (try with_reducible rfl))
  try simp only [Act.put, List.getElem_toArray, List.getElem_cons_zero, List.getElem_cons_succ, List.setIfInBounds_toArray, List.set_cons_zero, List.set_cons_succ]
  refine wpAnyH_take (i := 16) (v := ?_) rfl (by kernel_rfl) (by kernel_rfl) (by kernel_rfl) (fun _ _ _ h => h) (Or.inl ⟨by rfl, ?_⟩) hHeld ?_
  rotate_left
  · (intro w hSw; (try dsimp only at hSw); go_simp; (try with_reducible rfl))
  try simp only [Act.put, List.getElem_toArray, List.getElem_cons_zero, List.getElem_cons_succ, List.setIfInBounds_toArray, List.set_cons_zero, List.set_cons_succ]
  refine wpAnyH_take (i := 18) (v := ?_) rfl (by kernel_rfl) (by kernel_rfl) (by kernel_rfl) (fun _ _ _ h => h) (Or.inl ⟨by rfl, ?_⟩) hHeld ?_
  rotate_left
  · (intro w hSw; (try dsimp only at hSw); go_simp; (try with_reducible rfl))
  try simp only [Act.put, List.getElem_toArray, List.getElem_cons_zero, List.getElem_cons_succ, List.setIfInBounds_toArray, List.set_cons_zero, List.set_cons_succ]
  refine wpAnyH_ready (rs := [17]) (by kernel_rfl) (by simp) ?_
  refine AllReadyH.cons rfl (fun K hK => ?_) AllReadyH.nil
  (try simp only [List.getElem_toArray, List.getElem_cons_zero, List.getElem_cons_succ])
  rw [if_pos (by rfl)]
  go_simp
  go_at_call 19
  refine (rzadd_N hx hx (Nat.le_trans lx (by omega)) (Nat.le_trans lx (by omega))).mono ?_
  rintro e w15 ⟨bs, As, ns, cs, rfl, hs, b⟩
  replace hx := hx.on b
  replace hp := hp.on b
  replace pa0 := (b.cell (p := ⟨w.heap.size, 0, none⟩) pal).trans pa0
  replace pa1 := (b.cell (p := ⟨w.heap.size, 1, none⟩) pal).trans pa1
  replace pal := Nat.lt_of_lt_of_le pal b.size
  replace xx0 := (b.cell (p := ⟨w5.heap.size, 0, none⟩) xxl).trans xx0
  replace xx1 := (b.cell (p := ⟨w5.heap.size, 1, none⟩) xxl).trans xx1
  replace xxl := Nat.lt_of_lt_of_le xxl b.size
  replace pp0 := (b.cell (p := ⟨w12.heap.size, 0, none⟩) ppl).trans pp0
  replace pp1 := (b.cell (p := ⟨w12.heap.size, 1, none⟩) ppl).trans pp1
  replace ppl := Nat.lt_of_lt_of_le ppl b.size
  replace cc := cc.trans (b.mono cc.size)
  clear b
  refine hK.out _ _ ?_ (fun hHeld => ?_)
  · exact ⟨pa0, pa1, xx0, xx1, pp0, pp1⟩
  clear hK K
  try simp only [Act.put, List.getElem_toArray, List.getElem_cons_zero, List.getElem_cons_succ, List.setIfInBounds_toArray, List.set_cons_zero, List.set_cons_succ]
  refine wpAnyH_ready (rs := [19]) (by kernel_rfl) (by simp) ?_
  refine AllReadyH.cons rfl (fun K hK => ?_) AllReadyH.nil
  (try simp only [List.getElem_toArray, List.getElem_cons_zero, List.getElem_cons_succ])
  rw [if_pos (by rfl)]
  go_simp
  go_at_call 15
  refine (rzcmp_w q hs hp (Nat.le_trans l2 (by omega)) (Nat.le_trans lp (by omega)) EP).mono ?_
  rintro e w16 ⟨rfl, b⟩
  replace hx := hx.on b
  replace hp := hp.on b
  replace hs := hs.on b
  replace pa0 := (b.cell (p := ⟨w.heap.size, 0, none⟩) pal).trans pa0
  replace pa1 := (b.cell (p := ⟨w.heap.size, 1, none⟩) pal).trans pa1
  replace pal := Nat.lt_of_lt_of_le pal b.size
  replace xx0 := (b.cell (p := ⟨w5.heap.size, 0, none⟩) xxl).trans xx0
  replace xx1 := (b.cell (p := ⟨w5.heap.size, 1, none⟩) xxl).trans xx1
  replace xxl := Nat.lt_of_lt_of_le xxl b.size
  replace pp0 := (b.cell (p := ⟨w12.heap.size, 0, none⟩) ppl).trans pp0
  replace pp1 := (b.cell (p := ⟨w12.heap.size, 1, none⟩) ppl).trans pp1
  replace ppl := Nat.lt_of_lt_of_le ppl b.size
  replace cc := cc.trans (b.mono cc.size)
  clear b
  refine hK.out _ _ ?_ (fun hHeld => ?_)
  · exact ⟨pa0, pa1, xx0, xx1, pp0, pp1⟩
  clear hK K
  try simp only [Act.put, List.getElem_toArray, List.getElem_cons_zero, List.getElem_cons_succ, List.setIfInBounds_toArray, List.set_cons_zero, List.set_cons_succ]
  refine wpAnyH_take (i := 20) (v := ?_) rfl (by kernel_rfl) (by kernel_rfl) (by kernel_rfl) (fun _ _ _ h => h) (Or.inl ⟨by rfl, ?_⟩) hHeld ?_
  rotate_left
  · (intro w hSw; (try dsimp only at hSw); go_simp; (try with_reducible rfl))
  try simp only [Act.put, List.getElem_toArray, List.getElem_cons_zero, List.getElem_cons_succ, List.setIfInBounds_toArray, List.set_cons_zero, List.set_cons_succ]
  refine wpAnyH_take (i := 21) (v := ?_) rfl (by kernel_rfl) (by kernel_rfl) (by kernel_rfl) (fun _ _ _ h => h) (Or.inl ⟨by rfl, ?_⟩) hHeld ?_
  rotate_left
  · (intro w hSw; (try dsimp only at hSw); go_simp; (try with_reducible rfl))
  try simp only [Act.put, List.getElem_toArray, List.getElem_cons_zero, List.getElem_cons_succ, List.setIfInBounds_toArray, List.set_cons_zero, List.set_cons_succ]
  refine wpAnyH_take (i := 22) (v := ?_) rfl (by kernel_rfl) (by kernel_rfl) (by kernel_rfl) (fun _ _ _ h => h) (Or.inl ⟨by rfl, ?_⟩) hHeld ?_
  rotate_left
  · (intro w hSw; (try dsimp only at hSw); go_simp; (try with_reducible rfl))
  try simp only [Act.put, List.getElem_toArray, List.getElem_cons_zero, List.getElem_cons_succ, List.setIfInBounds_toArray, List.set_cons_zero, List.set_cons_succ]
  refine wpAnyH_done (by kernel_rfl) ?_ _
  clear hHeld
  go_wp2_with fail
  go_ret
  exact ⟨rfl, cc⟩

set_option maxRecDepth 100000 in
set_option maxHeartbeats 8000000 in
theorem CodeNearest_eq {w : World} {k a b g x y r q : Int} {c o : Nat} (hc : c < 256) (ho6 : o < 256) (hg : I64 g) (hb : I64 b) (C0 : ∀ W : World, Calls Try.prog 8 #[.int .i64 k, .int .i64 a, .int .i64 b] W (GotV W (.tuple #[.int .u8 (c : Int), .int .i64 0]))) (C1 : ∀ W : World, Calls Try.prog 13 #[.int .i64 k, .int .i64 a, .int .i64 b] W (GotV W (.bool true))) (C2 : ∀ W : World, Calls Try.prog 14 #[.int .i64 k, .int .u8 (c : Int), .int .i64 a, .int .i64 b] W (GotZ W x)) (C3 : ∀ W : World, Calls Try.prog 14 #[.int .i64 k, .int .u8 (o : Int), .int .i64 a, .int .i64 b] W (GotZ W y)) (C4 : ∀ W : World, Calls Try.prog 18 #[.int .i64 k] W (GotV W (.int .i64 g))) (lx : (limbs x.natAbs).length ≤ 3) (ly : (limbs y.natAbs).length ≤ 3) (EQ : cmpZ x y = r) (EP : cmpZ (x + x) (g * b) = q) (hq : q ≤ 0) (hr : r = 0) (ho : c ≤ o) :
    Calls Try.prog 4 #[.int .i64 k, .agg #[.int .i64 a, .int .i64 b], .int .u8 (o : Int)] w fun e w' => e = .returned (.bool true) ∧ Below w.heap.size w w' := by
  subst hr
  have t2 : decide ((c : Int) ≤ (o : Int)) = true := decide_eq_true (by omega)
  have t3 : decide (c ≤ o) = true := decide_eq_true ho
  clear ho
  have t4 : decide (q ≤ 0) = true := decide_eq_true hq
  have c6 : (c : Int) < 256 := by omega
  have o6 : (o : Int) < 256 := by omega
  have l2 := zlen_add lx lx
  have lp := len_prod hg hb
  clear hq
  have cc := Below.refl w.heap.size w
  go_enter Try.func4, Try.ntmps4
  go_wp2_with fail
  have bA : Below w.heap.size w (w.alloc (.cells #[.int .i64 a, .int .i64 b] 22)) := ((Below.refl _ w).alloc (by simp) _)
  replace cc := cc.trans (bA.mono cc.size)
  clear bA
  have pa0 : (w.alloc (.cells #[.int .i64 a, .int .i64 b] 22)).cell? ⟨w.heap.size, 0, none⟩ = some (.int .i64 a) := by simp [go_sem]
  have pa1 : (w.alloc (.cells #[.int .i64 a, .int .i64 b] 22)).cell? ⟨w.heap.size, 1, none⟩ = some (.int .i64 b) := by simp [go_sem]
  have pal : w.heap.size < (w.alloc (.cells #[.int .i64 a, .int .i64 b] 22)).heap.size := by simp <;> omega
  generalize w.alloc (.cells #[.int .i64 a, .int .i64 b] 22) = v1 at *
  go_wp2_with fail
  go_region_held3 (fun w' => w'.cell? ⟨w.heap.size, 0, none⟩ = some (.int .i64 a) ∧ w'.cell? ⟨w.heap.size, 1, none⟩ = some (.int .i64 b)) (exact ⟨pa0, pa1⟩) (fail)
  have bD : Below v1.heap.size v1 v1.drew := below_drewN (Below.refl _ _) 1
  replace pa0 := (bD.cell (p := ⟨w.heap.size, 0, none⟩) pal).trans pa0
  replace pa1 := (bD.cell (p := ⟨w.heap.size, 1, none⟩) pal).trans pa1
  replace pal := Nat.lt_of_lt_of_le pal bD.size
  replace cc := cc.trans (bD.mono cc.size)
  clear bD
  generalize v1.drew = v2 at *
  go_wp2_with fail
  refine (C0 _).mono ?_
  rintro e w3 ⟨rfl, b⟩
  replace pa0 := (b.cell (p := ⟨w.heap.size, 0, none⟩) pal).trans pa0
  replace pa1 := (b.cell (p := ⟨w.heap.size, 1, none⟩) pal).trans pa1
  replace pal := Nat.lt_of_lt_of_le pal b.size
  replace cc := cc.trans (b.mono cc.size)
  clear b
  go_wp2_with fail
  refine (C1 _).mono ?_
  rintro e w4 ⟨rfl, b⟩
  replace pa0 := (b.cell (p := ⟨w.heap.size, 0, none⟩) pal).trans pa0
  replace pa1 := (b.cell (p := ⟨w.heap.size, 1, none⟩) pal).trans pa1
  replace pal := Nat.lt_of_lt_of_le pal b.size
  replace cc := cc.trans (b.mono cc.size)
  clear b
  go_wp2_with fail
  refine (C2 _).mono ?_
  rintro e w5 ⟨bx, Ax, nx, cx, rfl, hx, b⟩
  replace pa0 := (b.cell (p := ⟨w.heap.size, 0, none⟩) pal).trans pa0
  replace pa1 := (b.cell (p := ⟨w.heap.size, 1, none⟩) pal).trans pa1
  replace pal := Nat.lt_of_lt_of_le pal b.size
  replace cc := cc.trans (b.mono cc.size)
  clear b
  go_wp2_with fail
  have bA := below_one w5 (.cells #[.bool bx, .slice Ax nx cx] 34)
  replace hx := hx.on bA
  replace pa0 := (bA.cell (p := ⟨w.heap.size, 0, none⟩) pal).trans pa0
  replace pa1 := (bA.cell (p := ⟨w.heap.size, 1, none⟩) pal).trans pa1
  replace pal := Nat.lt_of_lt_of_le pal bA.size
  replace cc := cc.trans (bA.mono cc.size)
  clear bA
  have xx0 : (w5.alloc (.cells #[.bool bx, .slice Ax nx cx] 34)).cell? ⟨w5.heap.size, 0, none⟩ = some (.bool bx) := by simp [go_sem]
  have xx1 : (w5.alloc (.cells #[.bool bx, .slice Ax nx cx] 34)).cell? ⟨w5.heap.size, 1, none⟩ = some (.slice Ax nx cx) := by simp [go_sem]
  have xxl : w5.heap.size < (w5.alloc (.cells #[.bool bx, .slice Ax nx cx] 34)).heap.size := by simp
  generalize w5.alloc (.cells #[.bool bx, .slice Ax nx cx] 34) = v6 at *
  go_wp2_with fail
  have bD : Below v6.heap.size v6 v6.drew := below_drewN (Below.refl _ v6) 1
  replace hx := hx.on bD
  replace pa0 := (bD.cell (p := ⟨w.heap.size, 0, none⟩) pal).trans pa0
  replace pa1 := (bD.cell (p := ⟨w.heap.size, 1, none⟩) pal).trans pa1
  replace pal := Nat.lt_of_lt_of_le pal bD.size
  replace xx0 := (bD.cell (p := ⟨w5.heap.size, 0, none⟩) xxl).trans xx0
  replace xx1 := (bD.cell (p := ⟨w5.heap.size, 1, none⟩) xxl).trans xx1
  replace xxl := Nat.lt_of_lt_of_le xxl bD.size
  replace cc := cc.trans (bD.mono cc.size)
  clear bD
  refine wp_region_held_drew (S := fun w' => w'.cell? ⟨w.heap.size, 0, none⟩ = some (.int .i64 a) ∧ w'.cell? ⟨w.heap.size, 1, none⟩ = some (.int .i64 b) ∧ w'.cell? ⟨w5.heap.size, 0, none⟩ = some (.bool bx) ∧ w'.cell? ⟨w5.heap.size, 1, none⟩ = some (.slice Ax nx cx)) (by kernel_rfl) ?_ (fun hHeld => ?_)
  · exact ⟨pa0, pa1, xx0, xx1⟩
  refine wpAnyH_take (i := 0) (v := ?_) rfl (by kernel_rfl) (by kernel_rfl) (by kernel_rfl) (fun _ _ _ h => h) (Or.inl ⟨by rfl, ?_⟩) hHeld ?_
  rotate_left
  · (intro w hSw; (try dsimp only at hSw); go_simp; (try with_reducible rfl))
  try simp only [Act.put, List.getElem_toArray, List.getElem_cons_zero, List.getElem_cons_succ, List.setIfInBounds_toArray, List.set_cons_zero, List.set_cons_succ]
  refine wpAnyH_take (i := 1) (v := ?_) rfl (by kernel_rfl) (by kernel_rfl) (by kernel_rfl) (fun _ _ _ h => h) (Or.inl ⟨by rfl, ?_⟩) hHeld ?_
  rotate_left
  · (intro w hSw; (try dsimp only at hSw); go_simp; (try with_reducible rfl))
  try simp only [Act.put, List.getElem_toArray, List.getElem_cons_zero, List.getElem_cons_succ, List.setIfInBounds_toArray, List.set_cons_zero, List.set_cons_succ]
  refine wpAnyH_take (i := 2) (v := ?_) rfl (by kernel_rfl) (by kernel_rfl) (by kernel_rfl) (fun _ _ _ h => h) (Or.inl ⟨by rfl, ?_⟩) hHeld ?_
  rotate_left
  · (intro w hSw; (try dsimp only at hSw); go_simp; (try with_reducible rfl))
  try simp only [Act.put, List.getElem_toArray, List.getElem_cons_zero, List.getElem_cons_succ, List.setIfInBounds_toArray, List.set_cons_zero, List.set_cons_succ]
  refine wpAnyH_take (i := 3) (v := ?_) rfl (by kernel_rfl) (by kernel_rfl) (by kernel_rfl) (fun _ _ _ h => h) (Or.inl ⟨by rfl, ?_⟩) hHeld ?_
  rotate_left
  · (intro w hSw; (try dsimp only at hSw); go_simp; (try with_reducible rfl))
  try simp only [Act.put, List.getElem_toArray, List.getElem_cons_zero, List.getElem_cons_succ, List.setIfInBounds_toArray, List.set_cons_zero, List.set_cons_succ]
  refine wpAnyH_take (i := 4) (v := ?_) rfl (by kernel_rfl) (by kernel_rfl) (by kernel_rfl) (fun _ _ _ h => h) (Or.inl ⟨by rfl, ?_⟩) hHeld ?_
  rotate_left
  · (intro w hSw; (try dsimp only at hSw); go_simp; (try with_reducible rfl))
  try simp only [Act.put, List.getElem_toArray, List.getElem_cons_zero, List.getElem_cons_succ, List.setIfInBounds_toArray, List.set_cons_zero, List.set_cons_succ]
  refine wpAnyH_ready (rs := [5]) (by kernel_rfl) (by simp) ?_
  refine AllReadyH.cons rfl (fun K hK => ?_) AllReadyH.nil
  (try simp only [List.getElem_toArray, List.getElem_cons_zero, List.getElem_cons_succ])
  rw [if_pos (by rfl)]
  go_simp
  go_at_call 14
  refine (C3 _).mono ?_
  rintro e w7 ⟨bz, Az, nz, cz, rfl, hz, b⟩
  replace hx := hx.on b
  replace pa0 := (b.cell (p := ⟨w.heap.size, 0, none⟩) pal).trans pa0
  replace pa1 := (b.cell (p := ⟨w.heap.size, 1, none⟩) pal).trans pa1
  replace pal := Nat.lt_of_lt_of_le pal b.size
  replace xx0 := (b.cell (p := ⟨w5.heap.size, 0, none⟩) xxl).trans xx0
  replace xx1 := (b.cell (p := ⟨w5.heap.size, 1, none⟩) xxl).trans xx1
  replace xxl := Nat.lt_of_lt_of_le xxl b.size
  replace cc := cc.trans (b.mono cc.size)
  clear b
  refine hK.out _ _ ?_ (fun hHeld => ?_)
  · exact ⟨pa0, pa1, xx0, xx1⟩
  clear hK K
  try simp only [Act.put, List.getElem_toArray, List.getElem_cons_zero, List.getElem_cons_succ, List.setIfInBounds_toArray, List.set_cons_zero, List.set_cons_succ]
  refine wpAnyH_ready (rs := [6]) (by kernel_rfl) (by simp) ?_
  refine AllReadyH.cons rfl (fun K hK => ?_) AllReadyH.nil
  (try simp only [List.getElem_toArray, List.getElem_cons_zero, List.getElem_cons_succ])
  rw [if_pos (by rfl)]
  go_simp
  go_at_call 15
  refine (rzcmp_w 0 hx hz (Nat.le_trans lx (by omega)) (Nat.le_trans ly (by omega)) EQ).mono ?_
  rintro e w8 ⟨rfl, b⟩
  replace hx := hx.on b
  replace hz := hz.on b
  replace pa0 := (b.cell (p := ⟨w.heap.size, 0, none⟩) pal).trans pa0
  replace pa1 := (b.cell (p := ⟨w.heap.size, 1, none⟩) pal).trans pa1
  replace pal := Nat.lt_of_lt_of_le pal b.size
  replace xx0 := (b.cell (p := ⟨w5.heap.size, 0, none⟩) xxl).trans xx0
  replace xx1 := (b.cell (p := ⟨w5.heap.size, 1, none⟩) xxl).trans xx1
  replace xxl := Nat.lt_of_lt_of_le xxl b.size
  replace cc := cc.trans (b.mono cc.size)
  clear b
  refine hK.out _ _ ?_ (fun hHeld => ?_)
  · exact ⟨pa0, pa1, xx0, xx1⟩
  clear hK K
  try simp only [Act.put, List.getElem_toArray, List.getElem_cons_zero, List.getElem_cons_succ, List.setIfInBounds_toArray, List.set_cons_zero, List.set_cons_succ]
  refine wpAnyH_take (i := 7) (v := ?_) rfl (by kernel_rfl) (by kernel_rfl) (by kernel_rfl) (fun _ _ _ h => h) (Or.inl ⟨by rfl, ?_⟩) hHeld ?_
  rotate_left
  · (intro w hSw; (try dsimp only at hSw); go_simp; (try with_reducible rfl))
  try simp only [Act.put, List.getElem_toArray, List.getElem_cons_zero, List.getElem_cons_succ, List.setIfInBounds_toArray, List.set_cons_zero, List.set_cons_succ]
  refine wpAnyH_done (by kernel_rfl) ?_ _
  clear hHeld
  clear hz
  go_wp2_with fail
  refine (C4 _).mono ?_
  rintro e w9 ⟨rfl, b⟩
  replace hx := hx.on b
  replace pa0 := (b.cell (p := ⟨w.heap.size, 0, none⟩) pal).trans pa0
  replace pa1 := (b.cell (p := ⟨w.heap.size, 1, none⟩) pal).trans pa1
  replace pal := Nat.lt_of_lt_of_le pal b.size
  replace xx0 := (b.cell (p := ⟨w5.heap.size, 0, none⟩) xxl).trans xx0
  replace xx1 := (b.cell (p := ⟨w5.heap.size, 1, none⟩) xxl).trans xx1
  replace xxl := Nat.lt_of_lt_of_le xxl b.size
  replace cc := cc.trans (b.mono cc.size)
  clear b
  go_wp2_with fail
  refine (rzof_N _ g hg).mono ?_
  rintro e w10 ⟨bu, Au, nu, cu, rfl, hu, b⟩
  replace hx := hx.on b
  replace pa0 := (b.cell (p := ⟨w.heap.size, 0, none⟩) pal).trans pa0
  replace pa1 := (b.cell (p := ⟨w.heap.size, 1, none⟩) pal).trans pa1
  replace pal := Nat.lt_of_lt_of_le pal b.size
  replace xx0 := (b.cell (p := ⟨w5.heap.size, 0, none⟩) xxl).trans xx0
  replace xx1 := (b.cell (p := ⟨w5.heap.size, 1, none⟩) xxl).trans xx1
  replace xxl := Nat.lt_of_lt_of_le xxl b.size
  replace cc := cc.trans (b.mono cc.size)
  clear b
  go_wp2_with fail
  refine (rzof_N _ b hb).mono ?_
  rintro e w11 ⟨bv, Av, nv, cv, rfl, hv, b⟩
  replace hx := hx.on b
  replace hu := hu.on b
  replace pa0 := (b.cell (p := ⟨w.heap.size, 0, none⟩) pal).trans pa0
  replace pa1 := (b.cell (p := ⟨w.heap.size, 1, none⟩) pal).trans pa1
  replace pal := Nat.lt_of_lt_of_le pal b.size
  replace xx0 := (b.cell (p := ⟨w5.heap.size, 0, none⟩) xxl).trans xx0
  replace xx1 := (b.cell (p := ⟨w5.heap.size, 1, none⟩) xxl).trans xx1
  replace xxl := Nat.lt_of_lt_of_le xxl b.size
  replace cc := cc.trans (b.mono cc.size)
  clear b
  go_wp2_with fail
  refine (rzmul_N hu hv (Nat.le_trans (len_one hg.abs) (by omega)) (Nat.le_trans (len_one hb.abs) (by omega))).mono ?_
  rintro e w12 ⟨bp, Ap, np, cp, rfl, hp, b⟩
  replace hx := hx.on b
  replace hu := hu.on b
  replace hv := hv.on b
  replace pa0 := (b.cell (p := ⟨w.heap.size, 0, none⟩) pal).trans pa0
  replace pa1 := (b.cell (p := ⟨w.heap.size, 1, none⟩) pal).trans pa1
  replace pal := Nat.lt_of_lt_of_le pal b.size
  replace xx0 := (b.cell (p := ⟨w5.heap.size, 0, none⟩) xxl).trans xx0
  replace xx1 := (b.cell (p := ⟨w5.heap.size, 1, none⟩) xxl).trans xx1
  replace xxl := Nat.lt_of_lt_of_le xxl b.size
  replace cc := cc.trans (b.mono cc.size)
  clear b
  go_wp2_with fail
  have bA := below_one w12 (.cells #[.bool bp, .slice Ap np cp] 34)
  replace hx := hx.on bA
  replace hu := hu.on bA
  replace hv := hv.on bA
  replace hp := hp.on bA
  replace pa0 := (bA.cell (p := ⟨w.heap.size, 0, none⟩) pal).trans pa0
  replace pa1 := (bA.cell (p := ⟨w.heap.size, 1, none⟩) pal).trans pa1
  replace pal := Nat.lt_of_lt_of_le pal bA.size
  replace xx0 := (bA.cell (p := ⟨w5.heap.size, 0, none⟩) xxl).trans xx0
  replace xx1 := (bA.cell (p := ⟨w5.heap.size, 1, none⟩) xxl).trans xx1
  replace xxl := Nat.lt_of_lt_of_le xxl bA.size
  replace cc := cc.trans (bA.mono cc.size)
  clear bA
  have pp0 : (w12.alloc (.cells #[.bool bp, .slice Ap np cp] 34)).cell? ⟨w12.heap.size, 0, none⟩ = some (.bool bp) := by simp [go_sem]
  have pp1 : (w12.alloc (.cells #[.bool bp, .slice Ap np cp] 34)).cell? ⟨w12.heap.size, 1, none⟩ = some (.slice Ap np cp) := by simp [go_sem]
  have ppl : w12.heap.size < (w12.alloc (.cells #[.bool bp, .slice Ap np cp] 34)).heap.size := by simp
  generalize w12.alloc (.cells #[.bool bp, .slice Ap np cp] 34) = v13 at *
  clear hu hv
  go_wp2_with fail
  have bD : Below v13.heap.size v13 v13.drew := below_drewN (Below.refl _ v13) 1
  replace hx := hx.on bD
  replace hp := hp.on bD
  replace pa0 := (bD.cell (p := ⟨w.heap.size, 0, none⟩) pal).trans pa0
  replace pa1 := (bD.cell (p := ⟨w.heap.size, 1, none⟩) pal).trans pa1
  replace pal := Nat.lt_of_lt_of_le pal bD.size
  replace xx0 := (bD.cell (p := ⟨w5.heap.size, 0, none⟩) xxl).trans xx0
  replace xx1 := (bD.cell (p := ⟨w5.heap.size, 1, none⟩) xxl).trans xx1
  replace xxl := Nat.lt_of_lt_of_le xxl bD.size
  replace pp0 := (bD.cell (p := ⟨w12.heap.size, 0, none⟩) ppl).trans pp0
  replace pp1 := (bD.cell (p := ⟨w12.heap.size, 1, none⟩) ppl).trans pp1
  replace ppl := Nat.lt_of_lt_of_le ppl bD.size
  replace cc := cc.trans (bD.mono cc.size)
  clear bD
  refine wp_region_held_drew (S := fun w' => w'.cell? ⟨w.heap.size, 0, none⟩ = some (.int .i64 a) ∧ w'.cell? ⟨w.heap.size, 1, none⟩ = some (.int .i64 b) ∧ w'.cell? ⟨w5.heap.size, 0, none⟩ = some (.bool bx) ∧ w'.cell? ⟨w5.heap.size, 1, none⟩ = some (.slice Ax nx cx) ∧ w'.cell? ⟨w12.heap.size, 0, none⟩ = some (.bool bp) ∧ w'.cell? ⟨w12.heap.size, 1, none⟩ = some (.slice Ap np cp)) (by kernel_rfl) ?_ (fun hHeld => ?_)
  · exact ⟨pa0, pa1, xx0, xx1, pp0, pp1⟩
  refine wpAnyH_ready (rs := [0]) (by kernel_rfl) (by simp) ?_
  refine AllReadyH.cons rfl (fun K hK => ?_) AllReadyH.nil
  (try simp only [List.getElem_toArray, List.getElem_cons_zero, List.getElem_cons_succ])
  rw [if_pos (by rfl)]
  go_simp
  go_at_call 12
  refine (alive10_any _).mono ?_
  rintro e w14 ⟨rfl, b⟩
  replace hx := hx.on b
  replace hp := hp.on b
  replace pa0 := (b.cell (p := ⟨w.heap.size, 0, none⟩) pal).trans pa0
  replace pa1 := (b.cell (p := ⟨w.heap.size, 1, none⟩) pal).trans pa1
  replace pal := Nat.lt_of_lt_of_le pal b.size
  replace xx0 := (b.cell (p := ⟨w5.heap.size, 0, none⟩) xxl).trans xx0
  replace xx1 := (b.cell (p := ⟨w5.heap.size, 1, none⟩) xxl).trans xx1
  replace xxl := Nat.lt_of_lt_of_le xxl b.size
  replace pp0 := (b.cell (p := ⟨w12.heap.size, 0, none⟩) ppl).trans pp0
  replace pp1 := (b.cell (p := ⟨w12.heap.size, 1, none⟩) ppl).trans pp1
  replace ppl := Nat.lt_of_lt_of_le ppl b.size
  replace cc := cc.trans (b.mono cc.size)
  clear b
  refine hK.out _ _ ?_ (fun hHeld => ?_)
  · exact ⟨pa0, pa1, xx0, xx1, pp0, pp1⟩
  clear hK K
  try simp only [Act.put, List.getElem_toArray, List.getElem_cons_zero, List.getElem_cons_succ, List.setIfInBounds_toArray, List.set_cons_zero, List.set_cons_succ]
  refine wpAnyH_take (i := 1) (v := ?_) rfl (by kernel_rfl) (by kernel_rfl) (by kernel_rfl) (fun _ _ _ h => h) (Or.inl ⟨by rfl, ?_⟩) hHeld ?_
  rotate_left
  · (intro w hSw; (try dsimp only at hSw); go_simp; (try with_reducible rfl))
  try simp only [Act.put, List.getElem_toArray, List.getElem_cons_zero, List.getElem_cons_succ, List.setIfInBounds_toArray, List.set_cons_zero, List.set_cons_succ]
  refine wpAnyH_take (i := 2) (v := ?_) rfl (by kernel_rfl) (by kernel_rfl) (by kernel_rfl) (fun _ _ _ h => h) (Or.inl ⟨by rfl, ?_⟩) hHeld ?_
  rotate_left
  · (intro w hSw; (try dsimp only at hSw); go_simp; (try with_reducible rfl))
  try simp only [Act.put, List.getElem_toArray, List.getElem_cons_zero, List.getElem_cons_succ, List.setIfInBounds_toArray, List.set_cons_zero, List.set_cons_succ]
  refine wpAnyH_take (i := 3) (v := ?_) rfl (by kernel_rfl) (by kernel_rfl) (by kernel_rfl) (fun _ _ _ h => h) (Or.inl ⟨by rfl, ?_⟩) hHeld ?_
  rotate_left
  · (intro w hSw; (try dsimp only at hSw); go_simp; (try with_reducible rfl))
  try simp only [Act.put, List.getElem_toArray, List.getElem_cons_zero, List.getElem_cons_succ, List.setIfInBounds_toArray, List.set_cons_zero, List.set_cons_succ]
  refine wpAnyH_take (i := 4) (v := ?_) rfl (by kernel_rfl) (by kernel_rfl) (by kernel_rfl) (fun _ _ _ h => h) (Or.inl ⟨by rfl, ?_⟩) hHeld ?_
  rotate_left
  · (intro w hSw; (try dsimp only at hSw); go_simp; (try with_reducible rfl))
  try simp only [Act.put, List.getElem_toArray, List.getElem_cons_zero, List.getElem_cons_succ, List.setIfInBounds_toArray, List.set_cons_zero, List.set_cons_succ]
  refine wpAnyH_take (i := 5) (v := ?_) rfl (by kernel_rfl) (by kernel_rfl) (by kernel_rfl) (fun _ _ _ h => h) (Or.inl ⟨by rfl, ?_⟩) hHeld ?_
  rotate_left
  · (intro w hSw; (try dsimp only at hSw); go_simp; (try with_reducible rfl))
  try simp only [Act.put, List.getElem_toArray, List.getElem_cons_zero, List.getElem_cons_succ, List.setIfInBounds_toArray, List.set_cons_zero, List.set_cons_succ]
  refine wpAnyH_take (i := 6) (v := ?_) rfl (by kernel_rfl) (by kernel_rfl) (by kernel_rfl) (fun _ _ _ h => h) (Or.inl ⟨by rfl, ?_⟩) hHeld ?_
  rotate_left
  · (intro w hSw; (try dsimp only at hSw); go_simp; (try with_reducible rfl))
  try simp only [Act.put, List.getElem_toArray, List.getElem_cons_zero, List.getElem_cons_succ, List.setIfInBounds_toArray, List.set_cons_zero, List.set_cons_succ]
  refine wpAnyH_take (i := 7) (v := ?_) rfl (by kernel_rfl) (by kernel_rfl) (by kernel_rfl) (fun _ _ _ h => h) (Or.inl ⟨by rfl, ?_⟩) hHeld ?_
  rotate_left
  · (intro w hSw; (try dsimp only at hSw); go_simp; (try with_reducible rfl))
  try simp only [Act.put, List.getElem_toArray, List.getElem_cons_zero, List.getElem_cons_succ, List.setIfInBounds_toArray, List.set_cons_zero, List.set_cons_succ]
  refine wpAnyH_take (i := 8) (v := ?_) rfl (by kernel_rfl) (by kernel_rfl) (by kernel_rfl) (fun _ _ _ h => h) (Or.inl ⟨by rfl, ?_⟩) hHeld ?_
  rotate_left
  · (intro w hSw; (try dsimp only at hSw); go_simp; (try with_reducible rfl))
  try simp only [Act.put, List.getElem_toArray, List.getElem_cons_zero, List.getElem_cons_succ, List.setIfInBounds_toArray, List.set_cons_zero, List.set_cons_succ]
  refine wpAnyH_take (i := 9) (v := ?_) rfl (by kernel_rfl) (by kernel_rfl) (by kernel_rfl) (fun _ _ _ h => h) (Or.inl ⟨by rfl, ?_⟩) hHeld ?_
  rotate_left
  · (intro w hSw; (try dsimp only at hSw); go_simp; (try with_reducible rfl))
  try simp only [Act.put, List.getElem_toArray, List.getElem_cons_zero, List.getElem_cons_succ, List.setIfInBounds_toArray, List.set_cons_zero, List.set_cons_succ]
  refine wpAnyH_take (i := 10) (v := ?_) rfl (by kernel_rfl) (by kernel_rfl) (by kernel_rfl) (fun _ _ _ h => h) (Or.inl ⟨by rfl, ?_⟩) hHeld ?_
  rotate_left
  · (intro w hSw; (try dsimp only at hSw); go_simp; (try with_reducible rfl))
  try simp only [Act.put, List.getElem_toArray, List.getElem_cons_zero, List.getElem_cons_succ, List.setIfInBounds_toArray, List.set_cons_zero, List.set_cons_succ]
  refine wpAnyH_take (i := 11) (v := ?_) rfl (by kernel_rfl) (by kernel_rfl) (by kernel_rfl) (fun _ _ _ h => h) (Or.inl ⟨by rfl, ?_⟩) hHeld ?_
  rotate_left
  · (intro w hSw; (try dsimp only at hSw); go_simp; (try with_reducible rfl))
  try simp only [Act.put, List.getElem_toArray, List.getElem_cons_zero, List.getElem_cons_succ, List.setIfInBounds_toArray, List.set_cons_zero, List.set_cons_succ]
  refine wpAnyH_take (i := 12) (v := ?_) rfl (by kernel_rfl) (by kernel_rfl) (by kernel_rfl) (fun _ _ _ h => h) (Or.inl ⟨by rfl, ?_⟩) hHeld ?_
  rotate_left
  · (intro w hSw; (try dsimp only at hSw); go_simp; (try with_reducible rfl))
  try simp only [Act.put, List.getElem_toArray, List.getElem_cons_zero, List.getElem_cons_succ, List.setIfInBounds_toArray, List.set_cons_zero, List.set_cons_succ]
  refine wpAnyH_take (i := 13) (v := ?_) rfl (by kernel_rfl) (by kernel_rfl) (by kernel_rfl) (fun _ _ _ h => h) (Or.inl ⟨by rfl, ?_⟩) hHeld ?_
  rotate_left
  · (intro w hSw; (try dsimp only at hSw); go_simp; (try with_reducible rfl))
  try simp only [Act.put, List.getElem_toArray, List.getElem_cons_zero, List.getElem_cons_succ, List.setIfInBounds_toArray, List.set_cons_zero, List.set_cons_succ]
  refine wpAnyH_take (i := 14) (v := ?_) rfl (by kernel_rfl) (by kernel_rfl) (by kernel_rfl) (fun _ _ _ h => h) (Or.inl ⟨by rfl, ?_⟩) hHeld ?_
  rotate_left
  · (intro w hSw; (try dsimp only at hSw); go_simp; (try with_reducible rfl))
  try simp only [Act.put, List.getElem_toArray, List.getElem_cons_zero, List.getElem_cons_succ, List.setIfInBounds_toArray, List.set_cons_zero, List.set_cons_succ]
  refine wpAnyH_take (i := 15) (v := ?_) rfl (by kernel_rfl) (by kernel_rfl) (by kernel_rfl) (fun _ _ _ h => h) (Or.inl ⟨by rfl, ?_⟩) hHeld ?_
  rotate_left
  · (intro w hSw; (try dsimp only at hSw); go_simp; (try with_reducible rfl))
  try simp only [Act.put, List.getElem_toArray, List.getElem_cons_zero, List.getElem_cons_succ, List.setIfInBounds_toArray, List.set_cons_zero, List.set_cons_succ]
  refine wpAnyH_take (i := 16) (v := ?_) rfl (by kernel_rfl) (by kernel_rfl) (by kernel_rfl) (fun _ _ _ h => h) (Or.inl ⟨by rfl, ?_⟩) hHeld ?_
  rotate_left
  · (intro w hSw; (try dsimp only at hSw); go_simp; (try with_reducible rfl))
  try simp only [Act.put, List.getElem_toArray, List.getElem_cons_zero, List.getElem_cons_succ, List.setIfInBounds_toArray, List.set_cons_zero, List.set_cons_succ]
  refine wpAnyH_take (i := 18) (v := ?_) rfl (by kernel_rfl) (by kernel_rfl) (by kernel_rfl) (fun _ _ _ h => h) (Or.inl ⟨by rfl, ?_⟩) hHeld ?_
  rotate_left
  · (intro w hSw; (try dsimp only at hSw); go_simp; (try with_reducible rfl))
  try simp only [Act.put, List.getElem_toArray, List.getElem_cons_zero, List.getElem_cons_succ, List.setIfInBounds_toArray, List.set_cons_zero, List.set_cons_succ]
  refine wpAnyH_ready (rs := [17]) (by kernel_rfl) (by simp) ?_
  refine AllReadyH.cons rfl (fun K hK => ?_) AllReadyH.nil
  (try simp only [List.getElem_toArray, List.getElem_cons_zero, List.getElem_cons_succ])
  rw [if_pos (by rfl)]
  go_simp
  go_at_call 19
  refine (rzadd_N hx hx (Nat.le_trans lx (by omega)) (Nat.le_trans lx (by omega))).mono ?_
  rintro e w15 ⟨bs, As, ns, cs, rfl, hs, b⟩
  replace hx := hx.on b
  replace hp := hp.on b
  replace pa0 := (b.cell (p := ⟨w.heap.size, 0, none⟩) pal).trans pa0
  replace pa1 := (b.cell (p := ⟨w.heap.size, 1, none⟩) pal).trans pa1
  replace pal := Nat.lt_of_lt_of_le pal b.size
  replace xx0 := (b.cell (p := ⟨w5.heap.size, 0, none⟩) xxl).trans xx0
  replace xx1 := (b.cell (p := ⟨w5.heap.size, 1, none⟩) xxl).trans xx1
  replace xxl := Nat.lt_of_lt_of_le xxl b.size
  replace pp0 := (b.cell (p := ⟨w12.heap.size, 0, none⟩) ppl).trans pp0
  replace pp1 := (b.cell (p := ⟨w12.heap.size, 1, none⟩) ppl).trans pp1
  replace ppl := Nat.lt_of_lt_of_le ppl b.size
  replace cc := cc.trans (b.mono cc.size)
  clear b
  refine hK.out _ _ ?_ (fun hHeld => ?_)
  · exact ⟨pa0, pa1, xx0, xx1, pp0, pp1⟩
  clear hK K
  try simp only [Act.put, List.getElem_toArray, List.getElem_cons_zero, List.getElem_cons_succ, List.setIfInBounds_toArray, List.set_cons_zero, List.set_cons_succ]
  refine wpAnyH_ready (rs := [19]) (by kernel_rfl) (by simp) ?_
  refine AllReadyH.cons rfl (fun K hK => ?_) AllReadyH.nil
  (try simp only [List.getElem_toArray, List.getElem_cons_zero, List.getElem_cons_succ])
  rw [if_pos (by rfl)]
  go_simp
  go_at_call 15
  refine (rzcmp_w q hs hp (Nat.le_trans l2 (by omega)) (Nat.le_trans lp (by omega)) EP).mono ?_
  rintro e w16 ⟨rfl, b⟩
  replace hx := hx.on b
  replace hp := hp.on b
  replace hs := hs.on b
  replace pa0 := (b.cell (p := ⟨w.heap.size, 0, none⟩) pal).trans pa0
  replace pa1 := (b.cell (p := ⟨w.heap.size, 1, none⟩) pal).trans pa1
  replace pal := Nat.lt_of_lt_of_le pal b.size
  replace xx0 := (b.cell (p := ⟨w5.heap.size, 0, none⟩) xxl).trans xx0
  replace xx1 := (b.cell (p := ⟨w5.heap.size, 1, none⟩) xxl).trans xx1
  replace xxl := Nat.lt_of_lt_of_le xxl b.size
  replace pp0 := (b.cell (p := ⟨w12.heap.size, 0, none⟩) ppl).trans pp0
  replace pp1 := (b.cell (p := ⟨w12.heap.size, 1, none⟩) ppl).trans pp1
  replace ppl := Nat.lt_of_lt_of_le ppl b.size
  replace cc := cc.trans (b.mono cc.size)
  clear b
  refine hK.out _ _ ?_ (fun hHeld => ?_)
  · exact ⟨pa0, pa1, xx0, xx1, pp0, pp1⟩
  clear hK K
  try simp only [Act.put, List.getElem_toArray, List.getElem_cons_zero, List.getElem_cons_succ, List.setIfInBounds_toArray, List.set_cons_zero, List.set_cons_succ]
  refine wpAnyH_take (i := 20) (v := ?_) rfl (by kernel_rfl) (by kernel_rfl) (by kernel_rfl) (fun _ _ _ h => h) (Or.inl ⟨by rfl, ?_⟩) hHeld ?_
  rotate_left
  · (intro w hSw; (try dsimp only at hSw); go_simp; (try with_reducible rfl))
  try simp only [Act.put, List.getElem_toArray, List.getElem_cons_zero, List.getElem_cons_succ, List.setIfInBounds_toArray, List.set_cons_zero, List.set_cons_succ]
  refine wpAnyH_take (i := 21) (v := ?_) rfl (by kernel_rfl) (by kernel_rfl) (by kernel_rfl) (fun _ _ _ h => h) (Or.inl ⟨by rfl, ?_⟩) hHeld ?_
  rotate_left
  · (intro w hSw; (try dsimp only at hSw); go_simp; (try with_reducible rfl))
  try simp only [Act.put, List.getElem_toArray, List.getElem_cons_zero, List.getElem_cons_succ, List.setIfInBounds_toArray, List.set_cons_zero, List.set_cons_succ]
  refine wpAnyH_take (i := 22) (v := ?_) rfl (by kernel_rfl) (by kernel_rfl) (by kernel_rfl) (fun _ _ _ h => h) (Or.inl ⟨by rfl, ?_⟩) hHeld ?_
  rotate_left
  · (intro w hSw; (try dsimp only at hSw); go_simp; (try with_reducible rfl))
  try simp only [Act.put, List.getElem_toArray, List.getElem_cons_zero, List.getElem_cons_succ, List.setIfInBounds_toArray, List.set_cons_zero, List.set_cons_succ]
  refine wpAnyH_done (by kernel_rfl) ?_ _
  clear hHeld
  go_wp2_with fail
  go_ret
  exact ⟨rfl, cc⟩

theorem CodeNearest_walk {w : World} (k : Int) (wk : (Lit.int .i64 k).wf = true) (a b : Int) (wa : (Lit.int .i64 a).wf = true) (wb : (Lit.int .i64 b).wf = true) (o : Int) (wo : (Lit.int .u8 o).wf = true) :
    Calls Try.prog 4 #[.int .i64 k, .agg #[.int .i64 a, .int .i64 b], .int .u8 o] w fun e w' => e = .returned (.bool true) ∧ Below w.heap.size w w' := by
  obtain ⟨o, rfl, ho⟩ := u8_nat wo
  have ha := i64_wf wa
  have hb := i64_wf wb
  by_cases hS : Shr k a b
  · have hc := near10_le k a b
    have C1 : ∀ W : World, Calls Try.prog 13 #[.int .i64 k, .int .i64 a, .int .i64 b] W (GotV W (.bool true)) := fun W => by have h := rShare_N (k := k) (num := a) W hb; rw [decide_eq_true hS] at h; exact h
    by_cases hl : dst k a b (near10 k a b) < dst k a b o
    · exact CodeNearest_lt (by omega) ho (gap9_i64 k) hb (fun W => cNear_yes W ha hb hS) C1 (fun W => rFar_N W hS.1 (by omega) ha hb) (fun W => rFar_N W hS.1 ho ha hb) (fun W => rgap9_N W k) (dst_len ha hb _) (dst_len ha hb _) rfl rfl (cmpZ_ngt.2 (near10_half hS)) (cmpZ_lt.2 hl)
    · obtain ⟨e, hle⟩ := near10_tie (by omega) hl
      exact CodeNearest_eq (by omega) ho (gap9_i64 k) hb (fun W => cNear_yes W ha hb hS) C1 (fun W => rFar_N W hS.1 (by omega) ha hb) (fun W => rFar_N W hS.1 ho ha hb) (fun W => rgap9_N W k) (dst_len ha hb _) (dst_len ha hb _) rfl rfl (cmpZ_ngt.2 (near10_half hS)) (cmpZ_eq.2 e) hle
  · exact CodeNearest_no (fun W => cNear_no W ha hb hS) (fun W => by have h := rShare_N (k := k) (num := a) W hb; rw [decide_eq_false hS] at h; exact h)

end Go.Proofs.Ytgglcgkgeilblaa
