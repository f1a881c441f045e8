/-
  Several texts in one: YInts1, YInts.
-/
import Derived.Test.YtdaohhbdhmmihaaDoorA6

/-
  The ways through ZedInts.
-/
namespace Go.Proofs.YtdaohhbdhmmihaaDoor
open Go.RowKit
set_option linter.unusedVariables false

theorem textZ_pos (z : Int) : 0 < (textZ z).length := by
  unfold textZ
  split
  · simp
  · exact List.length_pos_iff.2 (decL_ne _)
theorem textZ_first (z : Int) : if z < 0 then ((textZ z)[0]?.getD 0).toNat = 45 else ((textZ z)[0]?.getD 0).toNat ≠ 45 := by
  split
  · rename_i h
    unfold textZ
    rw [if_pos h]
    rfl
  · rename_i h
    unfold textZ
    rw [if_neg h]
    have := decL_getD (x := z.natAbs) (i := 0) (List.length_pos_iff.2 (decL_ne _))
    omega
theorem mul_i64 {z0 z1 : Int} (h0 : -2147483648 ≤ z0) (h1 : z0 ≤ 2147483647) (h2 : -2147483648 ≤ z1) (h3 : z1 ≤ 2147483647) : I64 (z0 * z1) := by
  have h4 : (z0 * z1).natAbs ≤ 2147483648 * 2147483648 := by
    rw [Int.natAbs_mul]
    exact Nat.mul_le_mul (by omega) (by omega)
  unfold I64
  omega

set_option maxRecDepth 100000 in
set_option maxHeartbeats 8000000 in
theorem ZedInts_11 {w : World} (ht : Tab w) (z0 z1 : Int) (hz0 : -2147483648 ≤ z0) (hz1 : z0 ≤ 2147483647) (hy0 : -2147483648 ≤ z1) (hy1 : z1 ≤ 2147483647) (ip : I64 (z0 * z1)) (hneg : z0 < 0) (hless : z0 < z1) :
    Calls Tryd.prog 7 #[.int .i32 z0, .int .i32 z1] w fun e w' => e = .returned (.bool true) ∧ Below w.heap.size w w' := by
  have cc := Below.refl w.heap.size w
  have i0 : I64 z0 := by unfold I64; omega
  have i1 : I64 z1 := by unfold I64; omega
  have k0 := len_z i0.abs
  have k1 := len_z i1.abs
  have is : I64 (z0 + z1) := by unfold I64; omega
  have hsz : (textZ z0).length ≤ 301 := Nat.le_trans (textZ_len (m := 1) (by omega) (len_one i0.abs)) (by omega)
  have hrd := read_text z0 (by omega)
  have HRD := Lib.hid hrd
  clear hrd
  obtain ⟨t, hte⟩ : ∃ t : ByteArray, t = ⟨(textZ z0).toArray⟩ := ⟨_, rfl⟩
  have htl : t.data.toList = textZ z0 := by rw [hte]
  have htz : t.size = (textZ z0).length := by rw [hte, str_size]
  have hpos : 0 < t.size := by rw [htz]; exact textZ_pos z0
  have hz0b : ((t.size : Int) == 0) = false := beq_eq_false_iff_ne.2 (by omega)
  have h45 : ((t[0].toNat : Int) == 45) = true := by
    have h1 := str_get t 0 hpos
    rw [htl] at h1
    have h2 := textZ_first z0
    rw [h1] at h2
    first | exact beq_iff_eq.2 (by rw [if_pos hneg] at h2; omega) | exact beq_eq_false_iff_ne.2 (by rw [if_neg hneg] at h2; omega)
  have hcz : cmpZ z0 z1 < 0 := by
    unfold cmpZ
    rw [if_pos hless]; omega
  obtain ⟨cz, hcze⟩ : ∃ cz, cmpZ z0 z1 = cz := ⟨_, rfl⟩
  rw [hcze] at hcz
  have HCZ := Lib.hid hcze
  have HTE := Lib.hid hte
  have HTL := Lib.hid htl
  have hts : t.size ≤ 301 := by omega
  clear hcze hte htl
  have e1 : IntKind.i64.wrap (z0 + z1) = z0 + z1 := IntWalk.i64_in _ (by omega)
  have e2 : IntKind.i64.wrap (z0 * z1) = z0 * z1 := IntWalk.i64_in _ (by unfold I64 at ip; omega)
  go_enter Tryd.func7, Tryd.ntmps7
  go_wp2_with fail
  refine (zof_N _ z0 i0).mono ?_
  rintro e w1 ⟨b0, A0, n0, c0, rfl, hx, b⟩
  replace cc := cc.trans (b.mono cc.size)
  clear b
  go_wp2_with fail
  refine (zof_N _ z1 i1).mono ?_
  rintro e w2 ⟨b1, A1, n1, c1, rfl, hy, b⟩
  replace hx := hx.on b
  replace cc := cc.trans (b.mono cc.size)
  clear b
  go_wp2_with fail
  have bA : Below w2.heap.size w2 ((w2.alloc (.cells #[.bool b0, .slice A0 n0 c0] 25)).alloc (.cells #[.bool b1, .slice A1 n1 c1] 25)) := (((Below.refl _ w2).alloc (by simp) _).alloc (by simp) _)
  replace hx := hx.on bA
  replace hy := hy.on bA
  replace cc := cc.trans (bA.mono cc.size)
  clear bA
  have x0 : ((w2.alloc (.cells #[.bool b0, .slice A0 n0 c0] 25)).alloc (.cells #[.bool b1, .slice A1 n1 c1] 25)).cell? ⟨w2.heap.size, 0, none⟩ = some (.bool b0) := by simp [go_sem]
  have x1 : ((w2.alloc (.cells #[.bool b0, .slice A0 n0 c0] 25)).alloc (.cells #[.bool b1, .slice A1 n1 c1] 25)).cell? ⟨w2.heap.size, 1, none⟩ = some (.slice A0 n0 c0) := by simp [go_sem]
  have xl : w2.heap.size < ((w2.alloc (.cells #[.bool b0, .slice A0 n0 c0] 25)).alloc (.cells #[.bool b1, .slice A1 n1 c1] 25)).heap.size := by simp <;> omega
  have y0 : ((w2.alloc (.cells #[.bool b0, .slice A0 n0 c0] 25)).alloc (.cells #[.bool b1, .slice A1 n1 c1] 25)).cell? ⟨w2.heap.size + 1, 0, none⟩ = some (.bool b1) := by simp [go_sem]
  have y1 : ((w2.alloc (.cells #[.bool b0, .slice A0 n0 c0] 25)).alloc (.cells #[.bool b1, .slice A1 n1 c1] 25)).cell? ⟨w2.heap.size + 1, 1, none⟩ = some (.slice A1 n1 c1) := by simp [go_sem]
  have yl : w2.heap.size + 1 < ((w2.alloc (.cells #[.bool b0, .slice A0 n0 c0] 25)).alloc (.cells #[.bool b1, .slice A1 n1 c1] 25)).heap.size := by simp <;> omega
  generalize (w2.alloc (.cells #[.bool b0, .slice A0 n0 c0] 25)).alloc (.cells #[.bool b1, .slice A1 n1 c1] 25) = v3 at *
  refine (zadd_N hx hy k0 k1).mono ?_
  rintro e w4 ⟨b2, A2, n2, c2, rfl, hs, b⟩
  replace hx := hx.on b
  replace hy := hy.on b
  replace x0 := (b.cell (p := ⟨w2.heap.size, 0, none⟩) xl).trans x0
  replace x1 := (b.cell (p := ⟨w2.heap.size, 1, none⟩) xl).trans x1
  replace xl := Nat.lt_of_lt_of_le xl b.size
  replace y0 := (b.cell (p := ⟨w2.heap.size + 1, 0, none⟩) yl).trans y0
  replace y1 := (b.cell (p := ⟨w2.heap.size + 1, 1, none⟩) yl).trans y1
  replace yl := Nat.lt_of_lt_of_le yl b.size
  replace cc := cc.trans (b.mono cc.size)
  clear b
  go_wp2_with fail
  refine (zint_yes hs is).mono ?_
  rintro e w5 ⟨rfl, b⟩
  replace hx := hx.on b
  replace hy := hy.on b
  replace hs := hs.on b
  replace x0 := (b.cell (p := ⟨w2.heap.size, 0, none⟩) xl).trans x0
  replace x1 := (b.cell (p := ⟨w2.heap.size, 1, none⟩) xl).trans x1
  replace xl := Nat.lt_of_lt_of_le xl b.size
  replace y0 := (b.cell (p := ⟨w2.heap.size + 1, 0, none⟩) yl).trans y0
  replace y1 := (b.cell (p := ⟨w2.heap.size + 1, 1, none⟩) yl).trans y1
  replace yl := Nat.lt_of_lt_of_le yl b.size
  replace cc := cc.trans (b.mono cc.size)
  clear b
  go_wp2_with fail
  refine (zmul_N hx hy (Nat.le_trans k0 (by omega)) (Nat.le_trans k1 (by omega))).mono ?_
  rintro e w6 ⟨b3, A3, n3, c3, rfl, hm, b⟩
  replace hx := hx.on b
  replace hy := hy.on b
  replace hs := hs.on b
  replace x0 := (b.cell (p := ⟨w2.heap.size, 0, none⟩) xl).trans x0
  replace x1 := (b.cell (p := ⟨w2.heap.size, 1, none⟩) xl).trans x1
  replace xl := Nat.lt_of_lt_of_le xl b.size
  replace y0 := (b.cell (p := ⟨w2.heap.size + 1, 0, none⟩) yl).trans y0
  replace y1 := (b.cell (p := ⟨w2.heap.size + 1, 1, none⟩) yl).trans y1
  replace yl := Nat.lt_of_lt_of_le yl b.size
  replace cc := cc.trans (b.mono cc.size)
  clear b
  go_wp2_with fail
  refine (zint_yes hm ip).mono ?_
  rintro e w7 ⟨rfl, b⟩
  replace hx := hx.on b
  replace hy := hy.on b
  replace hs := hs.on b
  replace hm := hm.on b
  replace x0 := (b.cell (p := ⟨w2.heap.size, 0, none⟩) xl).trans x0
  replace x1 := (b.cell (p := ⟨w2.heap.size, 1, none⟩) xl).trans x1
  replace xl := Nat.lt_of_lt_of_le xl b.size
  replace y0 := (b.cell (p := ⟨w2.heap.size + 1, 0, none⟩) yl).trans y0
  replace y1 := (b.cell (p := ⟨w2.heap.size + 1, 1, none⟩) yl).trans y1
  replace yl := Nat.lt_of_lt_of_le yl b.size
  replace cc := cc.trans (b.mono cc.size)
  clear b
  go_wp2_with fail
  refine (zprint_N hx k0 (ht.on cc)).mono ?_
  rintro e w8 ⟨s, rfl, hsd, b⟩
  obtain rfl : s = t := (str_of hsd).trans HTE.out.symm
  replace hx := hx.on b
  replace hy := hy.on b
  replace hs := hs.on b
  replace hm := hm.on b
  replace x0 := (b.cell (p := ⟨w2.heap.size, 0, none⟩) xl).trans x0
  replace x1 := (b.cell (p := ⟨w2.heap.size, 1, none⟩) xl).trans x1
  replace xl := Nat.lt_of_lt_of_le xl b.size
  replace y0 := (b.cell (p := ⟨w2.heap.size + 1, 0, none⟩) yl).trans y0
  replace y1 := (b.cell (p := ⟨w2.heap.size + 1, 1, none⟩) yl).trans y1
  replace yl := Nat.lt_of_lt_of_le yl b.size
  replace cc := cc.trans (b.mono cc.size)
  clear b
  go_wp2_with fail
  refine (zread_N s _ (by omega)).mono ?_
  intro e w9 hr
  obtain ⟨b4, A4, n4, c4, rfl, hr4, b⟩ := GotR_of hr (show readT s.data.toList = (z0, 0, 0) by rw [HTL.out]; exact HRD.out)
  clear hr
  replace hx := hx.on b
  replace hy := hy.on b
  replace hs := hs.on b
  replace hm := hm.on b
  replace x0 := (b.cell (p := ⟨w2.heap.size, 0, none⟩) xl).trans x0
  replace x1 := (b.cell (p := ⟨w2.heap.size, 1, none⟩) xl).trans x1
  replace xl := Nat.lt_of_lt_of_le xl b.size
  replace y0 := (b.cell (p := ⟨w2.heap.size + 1, 0, none⟩) yl).trans y0
  replace y1 := (b.cell (p := ⟨w2.heap.size + 1, 1, none⟩) yl).trans y1
  replace yl := Nat.lt_of_lt_of_le yl b.size
  replace cc := cc.trans (b.mono cc.size)
  clear b
  go_wp2_with fail
  have bA : Below w9.heap.size w9 (w9.alloc (.cells #[.bool b4, .slice A4 n4 c4] 25)) := ((Below.refl _ w9).alloc (by simp) _)
  replace hx := hx.on bA
  replace hy := hy.on bA
  replace hs := hs.on bA
  replace hm := hm.on bA
  replace hr4 := hr4.on bA
  replace x0 := (bA.cell (p := ⟨w2.heap.size, 0, none⟩) xl).trans x0
  replace x1 := (bA.cell (p := ⟨w2.heap.size, 1, none⟩) xl).trans x1
  replace xl := Nat.lt_of_lt_of_le xl bA.size
  replace y0 := (bA.cell (p := ⟨w2.heap.size + 1, 0, none⟩) yl).trans y0
  replace y1 := (bA.cell (p := ⟨w2.heap.size + 1, 1, none⟩) yl).trans y1
  replace yl := Nat.lt_of_lt_of_le yl bA.size
  replace cc := cc.trans (bA.mono cc.size)
  clear bA
  have r0 : (w9.alloc (.cells #[.bool b4, .slice A4 n4 c4] 25)).cell? ⟨w9.heap.size, 0, none⟩ = some (.bool b4) := by simp [go_sem]
  have r1 : (w9.alloc (.cells #[.bool b4, .slice A4 n4 c4] 25)).cell? ⟨w9.heap.size, 1, none⟩ = some (.slice A4 n4 c4) := by simp [go_sem]
  have rl : w9.heap.size < (w9.alloc (.cells #[.bool b4, .slice A4 n4 c4] 25)).heap.size := by simp <;> omega
  generalize w9.alloc (.cells #[.bool b4, .slice A4 n4 c4] 25) = v10 at *
  refine (zcmp_N hx hy k0 k1).mono ?_
  rintro e w11 ⟨rfl, b⟩
  rw [HCZ.out]
  replace hx := hx.on b
  replace hy := hy.on b
  replace hs := hs.on b
  replace hm := hm.on b
  replace hr4 := hr4.on b
  replace x0 := (b.cell (p := ⟨w2.heap.size, 0, none⟩) xl).trans x0
  replace x1 := (b.cell (p := ⟨w2.heap.size, 1, none⟩) xl).trans x1
  replace xl := Nat.lt_of_lt_of_le xl b.size
  replace y0 := (b.cell (p := ⟨w2.heap.size + 1, 0, none⟩) yl).trans y0
  replace y1 := (b.cell (p := ⟨w2.heap.size + 1, 1, none⟩) yl).trans y1
  replace yl := Nat.lt_of_lt_of_le yl b.size
  replace r0 := (b.cell (p := ⟨w9.heap.size, 0, none⟩) rl).trans r0
  replace r1 := (b.cell (p := ⟨w9.heap.size, 1, none⟩) rl).trans r1
  replace rl := Nat.lt_of_lt_of_le rl b.size
  replace cc := cc.trans (b.mono cc.size)
  clear b
  go_wp2_with fail
  refine (alive_any _ (ht.on cc)).mono ?_
  rintro e w12 ⟨rfl, b⟩
  replace hx := hx.on b
  replace hy := hy.on b
  replace hs := hs.on b
  replace hm := hm.on b
  replace hr4 := hr4.on b
  replace x0 := (b.cell (p := ⟨w2.heap.size, 0, none⟩) xl).trans x0
  replace x1 := (b.cell (p := ⟨w2.heap.size, 1, none⟩) xl).trans x1
  replace xl := Nat.lt_of_lt_of_le xl b.size
  replace y0 := (b.cell (p := ⟨w2.heap.size + 1, 0, none⟩) yl).trans y0
  replace y1 := (b.cell (p := ⟨w2.heap.size + 1, 1, none⟩) yl).trans y1
  replace yl := Nat.lt_of_lt_of_le yl b.size
  replace r0 := (b.cell (p := ⟨w9.heap.size, 0, none⟩) rl).trans r0
  replace r1 := (b.cell (p := ⟨w9.heap.size, 1, none⟩) rl).trans r1
  replace rl := Nat.lt_of_lt_of_le rl b.size
  replace cc := cc.trans (b.mono cc.size)
  clear b
  go_wp2_with fail
  refine (zsame_self hr4 hx k0).mono ?_
  rintro e w13 ⟨rfl, b⟩
  replace hx := hx.on b
  replace hy := hy.on b
  replace hs := hs.on b
  replace hm := hm.on b
  replace hr4 := hr4.on b
  replace x0 := (b.cell (p := ⟨w2.heap.size, 0, none⟩) xl).trans x0
  replace x1 := (b.cell (p := ⟨w2.heap.size, 1, none⟩) xl).trans x1
  replace xl := Nat.lt_of_lt_of_le xl b.size
  replace y0 := (b.cell (p := ⟨w2.heap.size + 1, 0, none⟩) yl).trans y0
  replace y1 := (b.cell (p := ⟨w2.heap.size + 1, 1, none⟩) yl).trans y1
  replace yl := Nat.lt_of_lt_of_le yl b.size
  replace r0 := (b.cell (p := ⟨w9.heap.size, 0, none⟩) rl).trans r0
  replace r1 := (b.cell (p := ⟨w9.heap.size, 1, none⟩) rl).trans r1
  replace rl := Nat.lt_of_lt_of_le rl b.size
  replace cc := cc.trans (b.mono cc.size)
  clear b
  go_wp2_with fail
  go_ret
  exact ⟨rfl, cc⟩

set_option maxRecDepth 100000 in
set_option maxHeartbeats 8000000 in
theorem ZedInts_10 {w : World} (ht : Tab w) (z0 z1 : Int) (hz0 : -2147483648 ≤ z0) (hz1 : z0 ≤ 2147483647) (hy0 : -2147483648 ≤ z1) (hy1 : z1 ≤ 2147483647) (ip : I64 (z0 * z1)) (hneg : z0 < 0) (hless : ¬ z0 < z1) :
    Calls Tryd.prog 7 #[.int .i32 z0, .int .i32 z1] w fun e w' => e = .returned (.bool true) ∧ Below w.heap.size w w' := by
  have cc := Below.refl w.heap.size w
  have i0 : I64 z0 := by unfold I64; omega
  have i1 : I64 z1 := by unfold I64; omega
  have k0 := len_z i0.abs
  have k1 := len_z i1.abs
  have is : I64 (z0 + z1) := by unfold I64; omega
  have hsz : (textZ z0).length ≤ 301 := Nat.le_trans (textZ_len (m := 1) (by omega) (len_one i0.abs)) (by omega)
  have hrd := read_text z0 (by omega)
  have HRD := Lib.hid hrd
  clear hrd
  obtain ⟨t, hte⟩ : ∃ t : ByteArray, t = ⟨(textZ z0).toArray⟩ := ⟨_, rfl⟩
  have htl : t.data.toList = textZ z0 := by rw [hte]
  have htz : t.size = (textZ z0).length := by rw [hte, str_size]
  have hpos : 0 < t.size := by rw [htz]; exact textZ_pos z0
  have hz0b : ((t.size : Int) == 0) = false := beq_eq_false_iff_ne.2 (by omega)
  have h45 : ((t[0].toNat : Int) == 45) = true := by
    have h1 := str_get t 0 hpos
    rw [htl] at h1
    have h2 := textZ_first z0
    rw [h1] at h2
    first | exact beq_iff_eq.2 (by rw [if_pos hneg] at h2; omega) | exact beq_eq_false_iff_ne.2 (by rw [if_neg hneg] at h2; omega)
  have hcz : ¬ cmpZ z0 z1 < 0 := by
    unfold cmpZ
    rw [if_neg hless]; split <;> omega
  obtain ⟨cz, hcze⟩ : ∃ cz, cmpZ z0 z1 = cz := ⟨_, rfl⟩
  rw [hcze] at hcz
  have HCZ := Lib.hid hcze
  have HTE := Lib.hid hte
  have HTL := Lib.hid htl
  have hts : t.size ≤ 301 := by omega
  clear hcze hte htl
  have e1 : IntKind.i64.wrap (z0 + z1) = z0 + z1 := IntWalk.i64_in _ (by omega)
  have e2 : IntKind.i64.wrap (z0 * z1) = z0 * z1 := IntWalk.i64_in _ (by unfold I64 at ip; omega)
  go_enter Tryd.func7, Tryd.ntmps7
  go_wp2_with fail
  refine (zof_N _ z0 i0).mono ?_
  rintro e w1 ⟨b0, A0, n0, c0, rfl, hx, b⟩
  replace cc := cc.trans (b.mono cc.size)
  clear b
  go_wp2_with fail
  refine (zof_N _ z1 i1).mono ?_
  rintro e w2 ⟨b1, A1, n1, c1, rfl, hy, b⟩
  replace hx := hx.on b
  replace cc := cc.trans (b.mono cc.size)
  clear b
  go_wp2_with fail
  have bA : Below w2.heap.size w2 ((w2.alloc (.cells #[.bool b0, .slice A0 n0 c0] 25)).alloc (.cells #[.bool b1, .slice A1 n1 c1] 25)) := (((Below.refl _ w2).alloc (by simp) _).alloc (by simp) _)
  replace hx := hx.on bA
  replace hy := hy.on bA
  replace cc := cc.trans (bA.mono cc.size)
  clear bA
  have x0 : ((w2.alloc (.cells #[.bool b0, .slice A0 n0 c0] 25)).alloc (.cells #[.bool b1, .slice A1 n1 c1] 25)).cell? ⟨w2.heap.size, 0, none⟩ = some (.bool b0) := by simp [go_sem]
  have x1 : ((w2.alloc (.cells #[.bool b0, .slice A0 n0 c0] 25)).alloc (.cells #[.bool b1, .slice A1 n1 c1] 25)).cell? ⟨w2.heap.size, 1, none⟩ = some (.slice A0 n0 c0) := by simp [go_sem]
  have xl : w2.heap.size < ((w2.alloc (.cells #[.bool b0, .slice A0 n0 c0] 25)).alloc (.cells #[.bool b1, .slice A1 n1 c1] 25)).heap.size := by simp <;> omega
  have y0 : ((w2.alloc (.cells #[.bool b0, .slice A0 n0 c0] 25)).alloc (.cells #[.bool b1, .slice A1 n1 c1] 25)).cell? ⟨w2.heap.size + 1, 0, none⟩ = some (.bool b1) := by simp [go_sem]
  have y1 : ((w2.alloc (.cells #[.bool b0, .slice A0 n0 c0] 25)).alloc (.cells #[.bool b1, .slice A1 n1 c1] 25)).cell? ⟨w2.heap.size + 1, 1, none⟩ = some (.slice A1 n1 c1) := by simp [go_sem]
  have yl : w2.heap.size + 1 < ((w2.alloc (.cells #[.bool b0, .slice A0 n0 c0] 25)).alloc (.cells #[.bool b1, .slice A1 n1 c1] 25)).heap.size := by simp <;> omega
  generalize (w2.alloc (.cells #[.bool b0, .slice A0 n0 c0] 25)).alloc (.cells #[.bool b1, .slice A1 n1 c1] 25) = v3 at *
  refine (zadd_N hx hy k0 k1).mono ?_
  rintro e w4 ⟨b2, A2, n2, c2, rfl, hs, b⟩
  replace hx := hx.on b
  replace hy := hy.on b
  replace x0 := (b.cell (p := ⟨w2.heap.size, 0, none⟩) xl).trans x0
  replace x1 := (b.cell (p := ⟨w2.heap.size, 1, none⟩) xl).trans x1
  replace xl := Nat.lt_of_lt_of_le xl b.size
  replace y0 := (b.cell (p := ⟨w2.heap.size + 1, 0, none⟩) yl).trans y0
  replace y1 := (b.cell (p := ⟨w2.heap.size + 1, 1, none⟩) yl).trans y1
  replace yl := Nat.lt_of_lt_of_le yl b.size
  replace cc := cc.trans (b.mono cc.size)
  clear b
  go_wp2_with fail
  refine (zint_yes hs is).mono ?_
  rintro e w5 ⟨rfl, b⟩
  replace hx := hx.on b
  replace hy := hy.on b
  replace hs := hs.on b
  replace x0 := (b.cell (p := ⟨w2.heap.size, 0, none⟩) xl).trans x0
  replace x1 := (b.cell (p := ⟨w2.heap.size, 1, none⟩) xl).trans x1
  replace xl := Nat.lt_of_lt_of_le xl b.size
  replace y0 := (b.cell (p := ⟨w2.heap.size + 1, 0, none⟩) yl).trans y0
  replace y1 := (b.cell (p := ⟨w2.heap.size + 1, 1, none⟩) yl).trans y1
  replace yl := Nat.lt_of_lt_of_le yl b.size
  replace cc := cc.trans (b.mono cc.size)
  clear b
  go_wp2_with fail
  refine (zmul_N hx hy (Nat.le_trans k0 (by omega)) (Nat.le_trans k1 (by omega))).mono ?_
  rintro e w6 ⟨b3, A3, n3, c3, rfl, hm, b⟩
  replace hx := hx.on b
  replace hy := hy.on b
  replace hs := hs.on b
  replace x0 := (b.cell (p := ⟨w2.heap.size, 0, none⟩) xl).trans x0
  replace x1 := (b.cell (p := ⟨w2.heap.size, 1, none⟩) xl).trans x1
  replace xl := Nat.lt_of_lt_of_le xl b.size
  replace y0 := (b.cell (p := ⟨w2.heap.size + 1, 0, none⟩) yl).trans y0
  replace y1 := (b.cell (p := ⟨w2.heap.size + 1, 1, none⟩) yl).trans y1
  replace yl := Nat.lt_of_lt_of_le yl b.size
  replace cc := cc.trans (b.mono cc.size)
  clear b
  go_wp2_with fail
  refine (zint_yes hm ip).mono ?_
  rintro e w7 ⟨rfl, b⟩
  replace hx := hx.on b
  replace hy := hy.on b
  replace hs := hs.on b
  replace hm := hm.on b
  replace x0 := (b.cell (p := ⟨w2.heap.size, 0, none⟩) xl).trans x0
  replace x1 := (b.cell (p := ⟨w2.heap.size, 1, none⟩) xl).trans x1
  replace xl := Nat.lt_of_lt_of_le xl b.size
  replace y0 := (b.cell (p := ⟨w2.heap.size + 1, 0, none⟩) yl).trans y0
  replace y1 := (b.cell (p := ⟨w2.heap.size + 1, 1, none⟩) yl).trans y1
  replace yl := Nat.lt_of_lt_of_le yl b.size
  replace cc := cc.trans (b.mono cc.size)
  clear b
  go_wp2_with fail
  refine (zprint_N hx k0 (ht.on cc)).mono ?_
  rintro e w8 ⟨s, rfl, hsd, b⟩
  obtain rfl : s = t := (str_of hsd).trans HTE.out.symm
  replace hx := hx.on b
  replace hy := hy.on b
  replace hs := hs.on b
  replace hm := hm.on b
  replace x0 := (b.cell (p := ⟨w2.heap.size, 0, none⟩) xl).trans x0
  replace x1 := (b.cell (p := ⟨w2.heap.size, 1, none⟩) xl).trans x1
  replace xl := Nat.lt_of_lt_of_le xl b.size
  replace y0 := (b.cell (p := ⟨w2.heap.size + 1, 0, none⟩) yl).trans y0
  replace y1 := (b.cell (p := ⟨w2.heap.size + 1, 1, none⟩) yl).trans y1
  replace yl := Nat.lt_of_lt_of_le yl b.size
  replace cc := cc.trans (b.mono cc.size)
  clear b
  go_wp2_with fail
  refine (zread_N s _ (by omega)).mono ?_
  intro e w9 hr
  obtain ⟨b4, A4, n4, c4, rfl, hr4, b⟩ := GotR_of hr (show readT s.data.toList = (z0, 0, 0) by rw [HTL.out]; exact HRD.out)
  clear hr
  replace hx := hx.on b
  replace hy := hy.on b
  replace hs := hs.on b
  replace hm := hm.on b
  replace x0 := (b.cell (p := ⟨w2.heap.size, 0, none⟩) xl).trans x0
  replace x1 := (b.cell (p := ⟨w2.heap.size, 1, none⟩) xl).trans x1
  replace xl := Nat.lt_of_lt_of_le xl b.size
  replace y0 := (b.cell (p := ⟨w2.heap.size + 1, 0, none⟩) yl).trans y0
  replace y1 := (b.cell (p := ⟨w2.heap.size + 1, 1, none⟩) yl).trans y1
  replace yl := Nat.lt_of_lt_of_le yl b.size
  replace cc := cc.trans (b.mono cc.size)
  clear b
  go_wp2_with fail
  have bA : Below w9.heap.size w9 (w9.alloc (.cells #[.bool b4, .slice A4 n4 c4] 25)) := ((Below.refl _ w9).alloc (by simp) _)
  replace hx := hx.on bA
  replace hy := hy.on bA
  replace hs := hs.on bA
  replace hm := hm.on bA
  replace hr4 := hr4.on bA
  replace x0 := (bA.cell (p := ⟨w2.heap.size, 0, none⟩) xl).trans x0
  replace x1 := (bA.cell (p := ⟨w2.heap.size, 1, none⟩) xl).trans x1
  replace xl := Nat.lt_of_lt_of_le xl bA.size
  replace y0 := (bA.cell (p := ⟨w2.heap.size + 1, 0, none⟩) yl).trans y0
  replace y1 := (bA.cell (p := ⟨w2.heap.size + 1, 1, none⟩) yl).trans y1
  replace yl := Nat.lt_of_lt_of_le yl bA.size
  replace cc := cc.trans (bA.mono cc.size)
  clear bA
  have r0 : (w9.alloc (.cells #[.bool b4, .slice A4 n4 c4] 25)).cell? ⟨w9.heap.size, 0, none⟩ = some (.bool b4) := by simp [go_sem]
  have r1 : (w9.alloc (.cells #[.bool b4, .slice A4 n4 c4] 25)).cell? ⟨w9.heap.size, 1, none⟩ = some (.slice A4 n4 c4) := by simp [go_sem]
  have rl : w9.heap.size < (w9.alloc (.cells #[.bool b4, .slice A4 n4 c4] 25)).heap.size := by simp <;> omega
  generalize w9.alloc (.cells #[.bool b4, .slice A4 n4 c4] 25) = v10 at *
  refine (zcmp_N hx hy k0 k1).mono ?_
  rintro e w11 ⟨rfl, b⟩
  rw [HCZ.out]
  replace hx := hx.on b
  replace hy := hy.on b
  replace hs := hs.on b
  replace hm := hm.on b
  replace hr4 := hr4.on b
  replace x0 := (b.cell (p := ⟨w2.heap.size, 0, none⟩) xl).trans x0
  replace x1 := (b.cell (p := ⟨w2.heap.size, 1, none⟩) xl).trans x1
  replace xl := Nat.lt_of_lt_of_le xl b.size
  replace y0 := (b.cell (p := ⟨w2.heap.size + 1, 0, none⟩) yl).trans y0
  replace y1 := (b.cell (p := ⟨w2.heap.size + 1, 1, none⟩) yl).trans y1
  replace yl := Nat.lt_of_lt_of_le yl b.size
  replace r0 := (b.cell (p := ⟨w9.heap.size, 0, none⟩) rl).trans r0
  replace r1 := (b.cell (p := ⟨w9.heap.size, 1, none⟩) rl).trans r1
  replace rl := Nat.lt_of_lt_of_le rl b.size
  replace cc := cc.trans (b.mono cc.size)
  clear b
  go_wp2_with fail
  refine (alive_any _ (ht.on cc)).mono ?_
  rintro e w12 ⟨rfl, b⟩
  replace hx := hx.on b
  replace hy := hy.on b
  replace hs := hs.on b
  replace hm := hm.on b
  replace hr4 := hr4.on b
  replace x0 := (b.cell (p := ⟨w2.heap.size, 0, none⟩) xl).trans x0
  replace x1 := (b.cell (p := ⟨w2.heap.size, 1, none⟩) xl).trans x1
  replace xl := Nat.lt_of_lt_of_le xl b.size
  replace y0 := (b.cell (p := ⟨w2.heap.size + 1, 0, none⟩) yl).trans y0
  replace y1 := (b.cell (p := ⟨w2.heap.size + 1, 1, none⟩) yl).trans y1
  replace yl := Nat.lt_of_lt_of_le yl b.size
  replace r0 := (b.cell (p := ⟨w9.heap.size, 0, none⟩) rl).trans r0
  replace r1 := (b.cell (p := ⟨w9.heap.size, 1, none⟩) rl).trans r1
  replace rl := Nat.lt_of_lt_of_le rl b.size
  replace cc := cc.trans (b.mono cc.size)
  clear b
  go_wp2_with fail
  refine (zsame_self hr4 hx k0).mono ?_
  rintro e w13 ⟨rfl, b⟩
  replace hx := hx.on b
  replace hy := hy.on b
  replace hs := hs.on b
  replace hm := hm.on b
  replace hr4 := hr4.on b
  replace x0 := (b.cell (p := ⟨w2.heap.size, 0, none⟩) xl).trans x0
  replace x1 := (b.cell (p := ⟨w2.heap.size, 1, none⟩) xl).trans x1
  replace xl := Nat.lt_of_lt_of_le xl b.size
  replace y0 := (b.cell (p := ⟨w2.heap.size + 1, 0, none⟩) yl).trans y0
  replace y1 := (b.cell (p := ⟨w2.heap.size + 1, 1, none⟩) yl).trans y1
  replace yl := Nat.lt_of_lt_of_le yl b.size
  replace r0 := (b.cell (p := ⟨w9.heap.size, 0, none⟩) rl).trans r0
  replace r1 := (b.cell (p := ⟨w9.heap.size, 1, none⟩) rl).trans r1
  replace rl := Nat.lt_of_lt_of_le rl b.size
  replace cc := cc.trans (b.mono cc.size)
  clear b
  go_wp2_with fail
  go_ret
  exact ⟨congrArg (fun b => Ending.returned (.bool b)) (show (decide (cz < 0) == decide (z0 < z1)) = true by rw [decide_eq_false (Int.not_lt.2 hcz), decide_eq_false (Int.not_lt.2 hless)]; rfl), cc⟩

set_option maxRecDepth 100000 in
set_option maxHeartbeats 8000000 in
theorem ZedInts_01 {w : World} (ht : Tab w) (z0 z1 : Int) (hz0 : -2147483648 ≤ z0) (hz1 : z0 ≤ 2147483647) (hy0 : -2147483648 ≤ z1) (hy1 : z1 ≤ 2147483647) (ip : I64 (z0 * z1)) (hneg : ¬ z0 < 0) (hless : z0 < z1) :
    Calls Tryd.prog 7 #[.int .i32 z0, .int .i32 z1] w fun e w' => e = .returned (.bool true) ∧ Below w.heap.size w w' := by
  have cc := Below.refl w.heap.size w
  have i0 : I64 z0 := by unfold I64; omega
  have i1 : I64 z1 := by unfold I64; omega
  have k0 := len_z i0.abs
  have k1 := len_z i1.abs
  have is : I64 (z0 + z1) := by unfold I64; omega
  have hsz : (textZ z0).length ≤ 301 := Nat.le_trans (textZ_len (m := 1) (by omega) (len_one i0.abs)) (by omega)
  have hrd := read_text z0 (by omega)
  have HRD := Lib.hid hrd
  clear hrd
  obtain ⟨t, hte⟩ : ∃ t : ByteArray, t = ⟨(textZ z0).toArray⟩ := ⟨_, rfl⟩
  have htl : t.data.toList = textZ z0 := by rw [hte]
  have htz : t.size = (textZ z0).length := by rw [hte, str_size]
  have hpos : 0 < t.size := by rw [htz]; exact textZ_pos z0
  have hz0b : ((t.size : Int) == 0) = false := beq_eq_false_iff_ne.2 (by omega)
  have h45 : ((t[0].toNat : Int) == 45) = false := by
    have h1 := str_get t 0 hpos
    rw [htl] at h1
    have h2 := textZ_first z0
    rw [h1] at h2
    first | exact beq_iff_eq.2 (by rw [if_pos hneg] at h2; omega) | exact beq_eq_false_iff_ne.2 (by rw [if_neg hneg] at h2; omega)
  have hcz : cmpZ z0 z1 < 0 := by
    unfold cmpZ
    rw [if_pos hless]; omega
  obtain ⟨cz, hcze⟩ : ∃ cz, cmpZ z0 z1 = cz := ⟨_, rfl⟩
  rw [hcze] at hcz
  have HCZ := Lib.hid hcze
  have HTE := Lib.hid hte
  have HTL := Lib.hid htl
  have hts : t.size ≤ 301 := by omega
  clear hcze hte htl
  have e1 : IntKind.i64.wrap (z0 + z1) = z0 + z1 := IntWalk.i64_in _ (by omega)
  have e2 : IntKind.i64.wrap (z0 * z1) = z0 * z1 := IntWalk.i64_in _ (by unfold I64 at ip; omega)
  go_enter Tryd.func7, Tryd.ntmps7
  go_wp2_with fail
  refine (zof_N _ z0 i0).mono ?_
  rintro e w1 ⟨b0, A0, n0, c0, rfl, hx, b⟩
  replace cc := cc.trans (b.mono cc.size)
  clear b
  go_wp2_with fail
  refine (zof_N _ z1 i1).mono ?_
  rintro e w2 ⟨b1, A1, n1, c1, rfl, hy, b⟩
  replace hx := hx.on b
  replace cc := cc.trans (b.mono cc.size)
  clear b
  go_wp2_with fail
  have bA : Below w2.heap.size w2 ((w2.alloc (.cells #[.bool b0, .slice A0 n0 c0] 25)).alloc (.cells #[.bool b1, .slice A1 n1 c1] 25)) := (((Below.refl _ w2).alloc (by simp) _).alloc (by simp) _)
  replace hx := hx.on bA
  replace hy := hy.on bA
  replace cc := cc.trans (bA.mono cc.size)
  clear bA
  have x0 : ((w2.alloc (.cells #[.bool b0, .slice A0 n0 c0] 25)).alloc (.cells #[.bool b1, .slice A1 n1 c1] 25)).cell? ⟨w2.heap.size, 0, none⟩ = some (.bool b0) := by simp [go_sem]
  have x1 : ((w2.alloc (.cells #[.bool b0, .slice A0 n0 c0] 25)).alloc (.cells #[.bool b1, .slice A1 n1 c1] 25)).cell? ⟨w2.heap.size, 1, none⟩ = some (.slice A0 n0 c0) := by simp [go_sem]
  have xl : w2.heap.size < ((w2.alloc (.cells #[.bool b0, .slice A0 n0 c0] 25)).alloc (.cells #[.bool b1, .slice A1 n1 c1] 25)).heap.size := by simp <;> omega
  have y0 : ((w2.alloc (.cells #[.bool b0, .slice A0 n0 c0] 25)).alloc (.cells #[.bool b1, .slice A1 n1 c1] 25)).cell? ⟨w2.heap.size + 1, 0, none⟩ = some (.bool b1) := by simp [go_sem]
  have y1 : ((w2.alloc (.cells #[.bool b0, .slice A0 n0 c0] 25)).alloc (.cells #[.bool b1, .slice A1 n1 c1] 25)).cell? ⟨w2.heap.size + 1, 1, none⟩ = some (.slice A1 n1 c1) := by simp [go_sem]
  have yl : w2.heap.size + 1 < ((w2.alloc (.cells #[.bool b0, .slice A0 n0 c0] 25)).alloc (.cells #[.bool b1, .slice A1 n1 c1] 25)).heap.size := by simp <;> omega
  generalize (w2.alloc (.cells #[.bool b0, .slice A0 n0 c0] 25)).alloc (.cells #[.bool b1, .slice A1 n1 c1] 25) = v3 at *
  refine (zadd_N hx hy k0 k1).mono ?_
  rintro e w4 ⟨b2, A2, n2, c2, rfl, hs, b⟩
  replace hx := hx.on b
  replace hy := hy.on b
  replace x0 := (b.cell (p := ⟨w2.heap.size, 0, none⟩) xl).trans x0
  replace x1 := (b.cell (p := ⟨w2.heap.size, 1, none⟩) xl).trans x1
  replace xl := Nat.lt_of_lt_of_le xl b.size
  replace y0 := (b.cell (p := ⟨w2.heap.size + 1, 0, none⟩) yl).trans y0
  replace y1 := (b.cell (p := ⟨w2.heap.size + 1, 1, none⟩) yl).trans y1
  replace yl := Nat.lt_of_lt_of_le yl b.size
  replace cc := cc.trans (b.mono cc.size)
  clear b
  go_wp2_with fail
  refine (zint_yes hs is).mono ?_
  rintro e w5 ⟨rfl, b⟩
  replace hx := hx.on b
  replace hy := hy.on b
  replace hs := hs.on b
  replace x0 := (b.cell (p := ⟨w2.heap.size, 0, none⟩) xl).trans x0
  replace x1 := (b.cell (p := ⟨w2.heap.size, 1, none⟩) xl).trans x1
  replace xl := Nat.lt_of_lt_of_le xl b.size
  replace y0 := (b.cell (p := ⟨w2.heap.size + 1, 0, none⟩) yl).trans y0
  replace y1 := (b.cell (p := ⟨w2.heap.size + 1, 1, none⟩) yl).trans y1
  replace yl := Nat.lt_of_lt_of_le yl b.size
  replace cc := cc.trans (b.mono cc.size)
  clear b
  go_wp2_with fail
  refine (zmul_N hx hy (Nat.le_trans k0 (by omega)) (Nat.le_trans k1 (by omega))).mono ?_
  rintro e w6 ⟨b3, A3, n3, c3, rfl, hm, b⟩
  replace hx := hx.on b
  replace hy := hy.on b
  replace hs := hs.on b
  replace x0 := (b.cell (p := ⟨w2.heap.size, 0, none⟩) xl).trans x0
  replace x1 := (b.cell (p := ⟨w2.heap.size, 1, none⟩) xl).trans x1
  replace xl := Nat.lt_of_lt_of_le xl b.size
  replace y0 := (b.cell (p := ⟨w2.heap.size + 1, 0, none⟩) yl).trans y0
  replace y1 := (b.cell (p := ⟨w2.heap.size + 1, 1, none⟩) yl).trans y1
  replace yl := Nat.lt_of_lt_of_le yl b.size
  replace cc := cc.trans (b.mono cc.size)
  clear b
  go_wp2_with fail
  refine (zint_yes hm ip).mono ?_
  rintro e w7 ⟨rfl, b⟩
  replace hx := hx.on b
  replace hy := hy.on b
  replace hs := hs.on b
  replace hm := hm.on b
  replace x0 := (b.cell (p := ⟨w2.heap.size, 0, none⟩) xl).trans x0
  replace x1 := (b.cell (p := ⟨w2.heap.size, 1, none⟩) xl).trans x1
  replace xl := Nat.lt_of_lt_of_le xl b.size
  replace y0 := (b.cell (p := ⟨w2.heap.size + 1, 0, none⟩) yl).trans y0
  replace y1 := (b.cell (p := ⟨w2.heap.size + 1, 1, none⟩) yl).trans y1
  replace yl := Nat.lt_of_lt_of_le yl b.size
  replace cc := cc.trans (b.mono cc.size)
  clear b
  go_wp2_with fail
  refine (zprint_N hx k0 (ht.on cc)).mono ?_
  rintro e w8 ⟨s, rfl, hsd, b⟩
  obtain rfl : s = t := (str_of hsd).trans HTE.out.symm
  replace hx := hx.on b
  replace hy := hy.on b
  replace hs := hs.on b
  replace hm := hm.on b
  replace x0 := (b.cell (p := ⟨w2.heap.size, 0, none⟩) xl).trans x0
  replace x1 := (b.cell (p := ⟨w2.heap.size, 1, none⟩) xl).trans x1
  replace xl := Nat.lt_of_lt_of_le xl b.size
  replace y0 := (b.cell (p := ⟨w2.heap.size + 1, 0, none⟩) yl).trans y0
  replace y1 := (b.cell (p := ⟨w2.heap.size + 1, 1, none⟩) yl).trans y1
  replace yl := Nat.lt_of_lt_of_le yl b.size
  replace cc := cc.trans (b.mono cc.size)
  clear b
  go_wp2_with fail
  refine (zread_N s _ (by omega)).mono ?_
  intro e w9 hr
  obtain ⟨b4, A4, n4, c4, rfl, hr4, b⟩ := GotR_of hr (show readT s.data.toList = (z0, 0, 0) by rw [HTL.out]; exact HRD.out)
  clear hr
  replace hx := hx.on b
  replace hy := hy.on b
  replace hs := hs.on b
  replace hm := hm.on b
  replace x0 := (b.cell (p := ⟨w2.heap.size, 0, none⟩) xl).trans x0
  replace x1 := (b.cell (p := ⟨w2.heap.size, 1, none⟩) xl).trans x1
  replace xl := Nat.lt_of_lt_of_le xl b.size
  replace y0 := (b.cell (p := ⟨w2.heap.size + 1, 0, none⟩) yl).trans y0
  replace y1 := (b.cell (p := ⟨w2.heap.size + 1, 1, none⟩) yl).trans y1
  replace yl := Nat.lt_of_lt_of_le yl b.size
  replace cc := cc.trans (b.mono cc.size)
  clear b
  go_wp2_with fail
  have bA : Below w9.heap.size w9 (w9.alloc (.cells #[.bool b4, .slice A4 n4 c4] 25)) := ((Below.refl _ w9).alloc (by simp) _)
  replace hx := hx.on bA
  replace hy := hy.on bA
  replace hs := hs.on bA
  replace hm := hm.on bA
  replace hr4 := hr4.on bA
  replace x0 := (bA.cell (p := ⟨w2.heap.size, 0, none⟩) xl).trans x0
  replace x1 := (bA.cell (p := ⟨w2.heap.size, 1, none⟩) xl).trans x1
  replace xl := Nat.lt_of_lt_of_le xl bA.size
  replace y0 := (bA.cell (p := ⟨w2.heap.size + 1, 0, none⟩) yl).trans y0
  replace y1 := (bA.cell (p := ⟨w2.heap.size + 1, 1, none⟩) yl).trans y1
  replace yl := Nat.lt_of_lt_of_le yl bA.size
  replace cc := cc.trans (bA.mono cc.size)
  clear bA
  have r0 : (w9.alloc (.cells #[.bool b4, .slice A4 n4 c4] 25)).cell? ⟨w9.heap.size, 0, none⟩ = some (.bool b4) := by simp [go_sem]
  have r1 : (w9.alloc (.cells #[.bool b4, .slice A4 n4 c4] 25)).cell? ⟨w9.heap.size, 1, none⟩ = some (.slice A4 n4 c4) := by simp [go_sem]
  have rl : w9.heap.size < (w9.alloc (.cells #[.bool b4, .slice A4 n4 c4] 25)).heap.size := by simp <;> omega
  generalize w9.alloc (.cells #[.bool b4, .slice A4 n4 c4] 25) = v10 at *
  refine (zcmp_N hx hy k0 k1).mono ?_
  rintro e w11 ⟨rfl, b⟩
  rw [HCZ.out]
  replace hx := hx.on b
  replace hy := hy.on b
  replace hs := hs.on b
  replace hm := hm.on b
  replace hr4 := hr4.on b
  replace x0 := (b.cell (p := ⟨w2.heap.size, 0, none⟩) xl).trans x0
  replace x1 := (b.cell (p := ⟨w2.heap.size, 1, none⟩) xl).trans x1
  replace xl := Nat.lt_of_lt_of_le xl b.size
  replace y0 := (b.cell (p := ⟨w2.heap.size + 1, 0, none⟩) yl).trans y0
  replace y1 := (b.cell (p := ⟨w2.heap.size + 1, 1, none⟩) yl).trans y1
  replace yl := Nat.lt_of_lt_of_le yl b.size
  replace r0 := (b.cell (p := ⟨w9.heap.size, 0, none⟩) rl).trans r0
  replace r1 := (b.cell (p := ⟨w9.heap.size, 1, none⟩) rl).trans r1
  replace rl := Nat.lt_of_lt_of_le rl b.size
  replace cc := cc.trans (b.mono cc.size)
  clear b
  go_wp2_with fail
  refine (alive_any _ (ht.on cc)).mono ?_
  rintro e w12 ⟨rfl, b⟩
  replace hx := hx.on b
  replace hy := hy.on b
  replace hs := hs.on b
  replace hm := hm.on b
  replace hr4 := hr4.on b
  replace x0 := (b.cell (p := ⟨w2.heap.size, 0, none⟩) xl).trans x0
  replace x1 := (b.cell (p := ⟨w2.heap.size, 1, none⟩) xl).trans x1
  replace xl := Nat.lt_of_lt_of_le xl b.size
  replace y0 := (b.cell (p := ⟨w2.heap.size + 1, 0, none⟩) yl).trans y0
  replace y1 := (b.cell (p := ⟨w2.heap.size + 1, 1, none⟩) yl).trans y1
  replace yl := Nat.lt_of_lt_of_le yl b.size
  replace r0 := (b.cell (p := ⟨w9.heap.size, 0, none⟩) rl).trans r0
  replace r1 := (b.cell (p := ⟨w9.heap.size, 1, none⟩) rl).trans r1
  replace rl := Nat.lt_of_lt_of_le rl b.size
  replace cc := cc.trans (b.mono cc.size)
  clear b
  go_wp2_with fail
  refine (zsame_self hr4 hx k0).mono ?_
  rintro e w13 ⟨rfl, b⟩
  replace hx := hx.on b
  replace hy := hy.on b
  replace hs := hs.on b
  replace hm := hm.on b
  replace hr4 := hr4.on b
  replace x0 := (b.cell (p := ⟨w2.heap.size, 0, none⟩) xl).trans x0
  replace x1 := (b.cell (p := ⟨w2.heap.size, 1, none⟩) xl).trans x1
  replace xl := Nat.lt_of_lt_of_le xl b.size
  replace y0 := (b.cell (p := ⟨w2.heap.size + 1, 0, none⟩) yl).trans y0
  replace y1 := (b.cell (p := ⟨w2.heap.size + 1, 1, none⟩) yl).trans y1
  replace yl := Nat.lt_of_lt_of_le yl b.size
  replace r0 := (b.cell (p := ⟨w9.heap.size, 0, none⟩) rl).trans r0
  replace r1 := (b.cell (p := ⟨w9.heap.size, 1, none⟩) rl).trans r1
  replace rl := Nat.lt_of_lt_of_le rl b.size
  replace cc := cc.trans (b.mono cc.size)
  clear b
  go_wp2_with fail
  go_ret
  exact ⟨congrArg (fun b => Ending.returned (.bool b)) (show (!decide (z0 < 0)) = true by rw [decide_eq_false (Int.not_lt.2 hneg)]; rfl), cc⟩

set_option maxRecDepth 100000 in
set_option maxHeartbeats 8000000 in
theorem ZedInts_00 {w : World} (ht : Tab w) (z0 z1 : Int) (hz0 : -2147483648 ≤ z0) (hz1 : z0 ≤ 2147483647) (hy0 : -2147483648 ≤ z1) (hy1 : z1 ≤ 2147483647) (ip : I64 (z0 * z1)) (hneg : ¬ z0 < 0) (hless : ¬ z0 < z1) :
    Calls Tryd.prog 7 #[.int .i32 z0, .int .i32 z1] w fun e w' => e = .returned (.bool true) ∧ Below w.heap.size w w' := by
  have cc := Below.refl w.heap.size w
  have i0 : I64 z0 := by unfold I64; omega
  have i1 : I64 z1 := by unfold I64; omega
  have k0 := len_z i0.abs
  have k1 := len_z i1.abs
  have is : I64 (z0 + z1) := by unfold I64; omega
  have hsz : (textZ z0).length ≤ 301 := Nat.le_trans (textZ_len (m := 1) (by omega) (len_one i0.abs)) (by omega)
  have hrd := read_text z0 (by omega)
  have HRD := Lib.hid hrd
  clear hrd
  obtain ⟨t, hte⟩ : ∃ t : ByteArray, t = ⟨(textZ z0).toArray⟩ := ⟨_, rfl⟩
  have htl : t.data.toList = textZ z0 := by rw [hte]
  have htz : t.size = (textZ z0).length := by rw [hte, str_size]
  have hpos : 0 < t.size := by rw [htz]; exact textZ_pos z0
  have hz0b : ((t.size : Int) == 0) = false := beq_eq_false_iff_ne.2 (by omega)
  have h45 : ((t[0].toNat : Int) == 45) = false := by
    have h1 := str_get t 0 hpos
    rw [htl] at h1
    have h2 := textZ_first z0
    rw [h1] at h2
    first | exact beq_iff_eq.2 (by rw [if_pos hneg] at h2; omega) | exact beq_eq_false_iff_ne.2 (by rw [if_neg hneg] at h2; omega)
  have hcz : ¬ cmpZ z0 z1 < 0 := by
    unfold cmpZ
    rw [if_neg hless]; split <;> omega
  obtain ⟨cz, hcze⟩ : ∃ cz, cmpZ z0 z1 = cz := ⟨_, rfl⟩
  rw [hcze] at hcz
  have HCZ := Lib.hid hcze
  have HTE := Lib.hid hte
  have HTL := Lib.hid htl
  have hts : t.size ≤ 301 := by omega
  clear hcze hte htl
  have e1 : IntKind.i64.wrap (z0 + z1) = z0 + z1 := IntWalk.i64_in _ (by omega)
  have e2 : IntKind.i64.wrap (z0 * z1) = z0 * z1 := IntWalk.i64_in _ (by unfold I64 at ip; omega)
  go_enter Tryd.func7, Tryd.ntmps7
  go_wp2_with fail
  refine (zof_N _ z0 i0).mono ?_
  rintro e w1 ⟨b0, A0, n0, c0, rfl, hx, b⟩
  replace cc := cc.trans (b.mono cc.size)
  clear b
  go_wp2_with fail
  refine (zof_N _ z1 i1).mono ?_
  rintro e w2 ⟨b1, A1, n1, c1, rfl, hy, b⟩
  replace hx := hx.on b
  replace cc := cc.trans (b.mono cc.size)
  clear b
  go_wp2_with fail
  have bA : Below w2.heap.size w2 ((w2.alloc (.cells #[.bool b0, .slice A0 n0 c0] 25)).alloc (.cells #[.bool b1, .slice A1 n1 c1] 25)) := (((Below.refl _ w2).alloc (by simp) _).alloc (by simp) _)
  replace hx := hx.on bA
  replace hy := hy.on bA
  replace cc := cc.trans (bA.mono cc.size)
  clear bA
  have x0 : ((w2.alloc (.cells #[.bool b0, .slice A0 n0 c0] 25)).alloc (.cells #[.bool b1, .slice A1 n1 c1] 25)).cell? ⟨w2.heap.size, 0, none⟩ = some (.bool b0) := by simp [go_sem]
  have x1 : ((w2.alloc (.cells #[.bool b0, .slice A0 n0 c0] 25)).alloc (.cells #[.bool b1, .slice A1 n1 c1] 25)).cell? ⟨w2.heap.size, 1, none⟩ = some (.slice A0 n0 c0) := by simp [go_sem]
  have xl : w2.heap.size < ((w2.alloc (.cells #[.bool b0, .slice A0 n0 c0] 25)).alloc (.cells #[.bool b1, .slice A1 n1 c1] 25)).heap.size := by simp <;> omega
  have y0 : ((w2.alloc (.cells #[.bool b0, .slice A0 n0 c0] 25)).alloc (.cells #[.bool b1, .slice A1 n1 c1] 25)).cell? ⟨w2.heap.size + 1, 0, none⟩ = some (.bool b1) := by simp [go_sem]
  have y1 : ((w2.alloc (.cells #[.bool b0, .slice A0 n0 c0] 25)).alloc (.cells #[.bool b1, .slice A1 n1 c1] 25)).cell? ⟨w2.heap.size + 1, 1, none⟩ = some (.slice A1 n1 c1) := by simp [go_sem]
  have yl : w2.heap.size + 1 < ((w2.alloc (.cells #[.bool b0, .slice A0 n0 c0] 25)).alloc (.cells #[.bool b1, .slice A1 n1 c1] 25)).heap.size := by simp <;> omega
  generalize (w2.alloc (.cells #[.bool b0, .slice A0 n0 c0] 25)).alloc (.cells #[.bool b1, .slice A1 n1 c1] 25) = v3 at *
  refine (zadd_N hx hy k0 k1).mono ?_
  rintro e w4 ⟨b2, A2, n2, c2, rfl, hs, b⟩
  replace hx := hx.on b
  replace hy := hy.on b
  replace x0 := (b.cell (p := ⟨w2.heap.size, 0, none⟩) xl).trans x0
  replace x1 := (b.cell (p := ⟨w2.heap.size, 1, none⟩) xl).trans x1
  replace xl := Nat.lt_of_lt_of_le xl b.size
  replace y0 := (b.cell (p := ⟨w2.heap.size + 1, 0, none⟩) yl).trans y0
  replace y1 := (b.cell (p := ⟨w2.heap.size + 1, 1, none⟩) yl).trans y1
  replace yl := Nat.lt_of_lt_of_le yl b.size
  replace cc := cc.trans (b.mono cc.size)
  clear b
  go_wp2_with fail
  refine (zint_yes hs is).mono ?_
  rintro e w5 ⟨rfl, b⟩
  replace hx := hx.on b
  replace hy := hy.on b
  replace hs := hs.on b
  replace x0 := (b.cell (p := ⟨w2.heap.size, 0, none⟩) xl).trans x0
  replace x1 := (b.cell (p := ⟨w2.heap.size, 1, none⟩) xl).trans x1
  replace xl := Nat.lt_of_lt_of_le xl b.size
  replace y0 := (b.cell (p := ⟨w2.heap.size + 1, 0, none⟩) yl).trans y0
  replace y1 := (b.cell (p := ⟨w2.heap.size + 1, 1, none⟩) yl).trans y1
  replace yl := Nat.lt_of_lt_of_le yl b.size
  replace cc := cc.trans (b.mono cc.size)
  clear b
  go_wp2_with fail
  refine (zmul_N hx hy (Nat.le_trans k0 (by omega)) (Nat.le_trans k1 (by omega))).mono ?_
  rintro e w6 ⟨b3, A3, n3, c3, rfl, hm, b⟩
  replace hx := hx.on b
  replace hy := hy.on b
  replace hs := hs.on b
  replace x0 := (b.cell (p := ⟨w2.heap.size, 0, none⟩) xl).trans x0
  replace x1 := (b.cell (p := ⟨w2.heap.size, 1, none⟩) xl).trans x1
  replace xl := Nat.lt_of_lt_of_le xl b.size
  replace y0 := (b.cell (p := ⟨w2.heap.size + 1, 0, none⟩) yl).trans y0
  replace y1 := (b.cell (p := ⟨w2.heap.size + 1, 1, none⟩) yl).trans y1
  replace yl := Nat.lt_of_lt_of_le yl b.size
  replace cc := cc.trans (b.mono cc.size)
  clear b
  go_wp2_with fail
  refine (zint_yes hm ip).mono ?_
  rintro e w7 ⟨rfl, b⟩
  replace hx := hx.on b
  replace hy := hy.on b
  replace hs := hs.on b
  replace hm := hm.on b
  replace x0 := (b.cell (p := ⟨w2.heap.size, 0, none⟩) xl).trans x0
  replace x1 := (b.cell (p := ⟨w2.heap.size, 1, none⟩) xl).trans x1
  replace xl := Nat.lt_of_lt_of_le xl b.size
  replace y0 := (b.cell (p := ⟨w2.heap.size + 1, 0, none⟩) yl).trans y0
  replace y1 := (b.cell (p := ⟨w2.heap.size + 1, 1, none⟩) yl).trans y1
  replace yl := Nat.lt_of_lt_of_le yl b.size
  replace cc := cc.trans (b.mono cc.size)
  clear b
  go_wp2_with fail
  refine (zprint_N hx k0 (ht.on cc)).mono ?_
  rintro e w8 ⟨s, rfl, hsd, b⟩
  obtain rfl : s = t := (str_of hsd).trans HTE.out.symm
  replace hx := hx.on b
  replace hy := hy.on b
  replace hs := hs.on b
  replace hm := hm.on b
  replace x0 := (b.cell (p := ⟨w2.heap.size, 0, none⟩) xl).trans x0
  replace x1 := (b.cell (p := ⟨w2.heap.size, 1, none⟩) xl).trans x1
  replace xl := Nat.lt_of_lt_of_le xl b.size
  replace y0 := (b.cell (p := ⟨w2.heap.size + 1, 0, none⟩) yl).trans y0
  replace y1 := (b.cell (p := ⟨w2.heap.size + 1, 1, none⟩) yl).trans y1
  replace yl := Nat.lt_of_lt_of_le yl b.size
  replace cc := cc.trans (b.mono cc.size)
  clear b
  go_wp2_with fail
  refine (zread_N s _ (by omega)).mono ?_
  intro e w9 hr
  obtain ⟨b4, A4, n4, c4, rfl, hr4, b⟩ := GotR_of hr (show readT s.data.toList = (z0, 0, 0) by rw [HTL.out]; exact HRD.out)
  clear hr
  replace hx := hx.on b
  replace hy := hy.on b
  replace hs := hs.on b
  replace hm := hm.on b
  replace x0 := (b.cell (p := ⟨w2.heap.size, 0, none⟩) xl).trans x0
  replace x1 := (b.cell (p := ⟨w2.heap.size, 1, none⟩) xl).trans x1
  replace xl := Nat.lt_of_lt_of_le xl b.size
  replace y0 := (b.cell (p := ⟨w2.heap.size + 1, 0, none⟩) yl).trans y0
  replace y1 := (b.cell (p := ⟨w2.heap.size + 1, 1, none⟩) yl).trans y1
  replace yl := Nat.lt_of_lt_of_le yl b.size
  replace cc := cc.trans (b.mono cc.size)
  clear b
  go_wp2_with fail
  have bA : Below w9.heap.size w9 (w9.alloc (.cells #[.bool b4, .slice A4 n4 c4] 25)) := ((Below.refl _ w9).alloc (by simp) _)
  replace hx := hx.on bA
  replace hy := hy.on bA
  replace hs := hs.on bA
  replace hm := hm.on bA
  replace hr4 := hr4.on bA
  replace x0 := (bA.cell (p := ⟨w2.heap.size, 0, none⟩) xl).trans x0
  replace x1 := (bA.cell (p := ⟨w2.heap.size, 1, none⟩) xl).trans x1
  replace xl := Nat.lt_of_lt_of_le xl bA.size
  replace y0 := (bA.cell (p := ⟨w2.heap.size + 1, 0, none⟩) yl).trans y0
  replace y1 := (bA.cell (p := ⟨w2.heap.size + 1, 1, none⟩) yl).trans y1
  replace yl := Nat.lt_of_lt_of_le yl bA.size
  replace cc := cc.trans (bA.mono cc.size)
  clear bA
  have r0 : (w9.alloc (.cells #[.bool b4, .slice A4 n4 c4] 25)).cell? ⟨w9.heap.size, 0, none⟩ = some (.bool b4) := by simp [go_sem]
  have r1 : (w9.alloc (.cells #[.bool b4, .slice A4 n4 c4] 25)).cell? ⟨w9.heap.size, 1, none⟩ = some (.slice A4 n4 c4) := by simp [go_sem]
  have rl : w9.heap.size < (w9.alloc (.cells #[.bool b4, .slice A4 n4 c4] 25)).heap.size := by simp <;> omega
  generalize w9.alloc (.cells #[.bool b4, .slice A4 n4 c4] 25) = v10 at *
  refine (zcmp_N hx hy k0 k1).mono ?_
  rintro e w11 ⟨rfl, b⟩
  rw [HCZ.out]
  replace hx := hx.on b
  replace hy := hy.on b
  replace hs := hs.on b
  replace hm := hm.on b
  replace hr4 := hr4.on b
  replace x0 := (b.cell (p := ⟨w2.heap.size, 0, none⟩) xl).trans x0
  replace x1 := (b.cell (p := ⟨w2.heap.size, 1, none⟩) xl).trans x1
  replace xl := Nat.lt_of_lt_of_le xl b.size
  replace y0 := (b.cell (p := ⟨w2.heap.size + 1, 0, none⟩) yl).trans y0
  replace y1 := (b.cell (p := ⟨w2.heap.size + 1, 1, none⟩) yl).trans y1
  replace yl := Nat.lt_of_lt_of_le yl b.size
  replace r0 := (b.cell (p := ⟨w9.heap.size, 0, none⟩) rl).trans r0
  replace r1 := (b.cell (p := ⟨w9.heap.size, 1, none⟩) rl).trans r1
  replace rl := Nat.lt_of_lt_of_le rl b.size
  replace cc := cc.trans (b.mono cc.size)
  clear b
  go_wp2_with fail
  refine (alive_any _ (ht.on cc)).mono ?_
  rintro e w12 ⟨rfl, b⟩
  replace hx := hx.on b
  replace hy := hy.on b
  replace hs := hs.on b
  replace hm := hm.on b
  replace hr4 := hr4.on b
  replace x0 := (b.cell (p := ⟨w2.heap.size, 0, none⟩) xl).trans x0
  replace x1 := (b.cell (p := ⟨w2.heap.size, 1, none⟩) xl).trans x1
  replace xl := Nat.lt_of_lt_of_le xl b.size
  replace y0 := (b.cell (p := ⟨w2.heap.size + 1, 0, none⟩) yl).trans y0
  replace y1 := (b.cell (p := ⟨w2.heap.size + 1, 1, none⟩) yl).trans y1
  replace yl := Nat.lt_of_lt_of_le yl b.size
  replace r0 := (b.cell (p := ⟨w9.heap.size, 0, none⟩) rl).trans r0
  replace r1 := (b.cell (p := ⟨w9.heap.size, 1, none⟩) rl).trans r1
  replace rl := Nat.lt_of_lt_of_le rl b.size
  replace cc := cc.trans (b.mono cc.size)
  clear b
  go_wp2_with fail
  refine (zsame_self hr4 hx k0).mono ?_
  rintro e w13 ⟨rfl, b⟩
  replace hx := hx.on b
  replace hy := hy.on b
  replace hs := hs.on b
  replace hm := hm.on b
  replace hr4 := hr4.on b
  replace x0 := (b.cell (p := ⟨w2.heap.size, 0, none⟩) xl).trans x0
  replace x1 := (b.cell (p := ⟨w2.heap.size, 1, none⟩) xl).trans x1
  replace xl := Nat.lt_of_lt_of_le xl b.size
  replace y0 := (b.cell (p := ⟨w2.heap.size + 1, 0, none⟩) yl).trans y0
  replace y1 := (b.cell (p := ⟨w2.heap.size + 1, 1, none⟩) yl).trans y1
  replace yl := Nat.lt_of_lt_of_le yl b.size
  replace r0 := (b.cell (p := ⟨w9.heap.size, 0, none⟩) rl).trans r0
  replace r1 := (b.cell (p := ⟨w9.heap.size, 1, none⟩) rl).trans r1
  replace rl := Nat.lt_of_lt_of_le rl b.size
  replace cc := cc.trans (b.mono cc.size)
  clear b
  go_wp2_with fail
  go_ret
  exact ⟨congrArg (fun b => Ending.returned (.bool b)) (show (!decide (z0 < 0) && decide (cz < 0) == decide (z0 < z1)) = true by rw [decide_eq_false (Int.not_lt.2 hneg), decide_eq_false (Int.not_lt.2 hcz), decide_eq_false (Int.not_lt.2 hless)]; rfl), cc⟩

end Go.Proofs.YtdaohhbdhmmihaaDoor

/-
  The walk of ZedInts.
-/
namespace Go.Proofs.YtdaohhbdhmmihaaDoor
open Go.RowKit
set_option linter.unusedVariables false

theorem ZedInts_walk {w : World} (ht : Tab w) (z0 : Int) (h0 : (Lit.int .i32 z0).wf = true) (z1 : Int) (h1 : (Lit.int .i32 z1).wf = true) :
    Calls Tryd.prog 7 #[.int .i32 z0, .int .i32 z1] w fun e w' => e = .returned (.bool true) ∧ Below w.heap.size w w' := by
  obtain ⟨a, b⟩ := i32_wf h0
  obtain ⟨c, d⟩ := i32_wf h1
  have ip := mul_i64 a b c d
  by_cases hn : z0 < 0
  · by_cases hl : z0 < z1
    · exact ZedInts_11 ht z0 z1 a b c d ip hn hl
    · exact ZedInts_10 ht z0 z1 a b c d ip hn hl
  · by_cases hl : z0 < z1
    · exact ZedInts_01 ht z0 z1 a b c d ip hn hl
    · exact ZedInts_00 ht z0 z1 a b c d ip hn hl

end Go.Proofs.YtdaohhbdhmmihaaDoor
