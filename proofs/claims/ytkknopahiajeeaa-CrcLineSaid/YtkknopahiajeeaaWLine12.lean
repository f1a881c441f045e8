/-
  The walk of CrcLine.
-/
import Derived.Test.YtkknopahiajeeaaA2
namespace Go.Proofs.Ytkknopahiajeeaa
set_option maxRecDepth 100000
open Go.RowKit
set_option linter.unusedVariables false
set_option linter.unusedSimpArgs false

theorem one_up (w : World) (o : Obj) : Below w.heap.size w (w.alloc o) := (Below.refl _ w).alloc (Nat.le_refl _) _
theorem cell_up {w : World} {o : Obj} {p : Addr} {v : Value} (h : w.cell? p = some v) : (w.alloc o).cell? p = some v := by
  have hlt : p.block < w.heap.size := by
    rcases Nat.lt_or_ge p.block w.heap.size with h1 | h1
    · exact h1
    · simp [World.cell?, Array.getElem?_eq_none h1] at h
  rw [World.cell?_of_block (w := w) (Below.heap_alloc w o p.block hlt)]
  exact h
/-- A row of noughts. -/
def zb (q : Nat) : Obj := .cells (madeCells #[.int .u8 0] q) 5
theorem zb_run (q : Nat) (hq : q ≤ 1000000) (W : World) : (Instr.makeSlice 23 (.int .i64 (q : Int)) (.int .i64 (q : Int))).run Try.prog W = .ok (.slice (some ⟨W.heap.size, 0, none⟩) q q) (W.alloc (zb q)) := by
  obtain ⟨i0, hi, hz0, hz1, hz2⟩ := info_parts infoB
  have h := run_make (P := Try.prog) W 23 5 i0 (.int .u8 0) Try.underlying23 hi hz0 .i64 .i64 (q : Int) (q : Int) (by omega) (Int.le_refl _) (by rw [hz2]; omega) (by omega)
  rw [hz1, Int.toNat_natCast, Nat.mul_one] at h
  exact h
theorem zb_own (q : Nat) (hq : q ≤ 1000000) (W : World) (t : Nat) (ht : t ≤ W.heap.size) : (W.alloc (zb q)).ownsRow t 5 1 (.slice (some ⟨W.heap.size, 0, none⟩) q q) q ((List.replicate q 0).map encB) := by
  refine ⟨by simp, .inr ⟨W.heap.size, q, madeCells #[.int .u8 0] q, rfl, ht, heap_alloc_new W _, Nat.le_refl _, by unfold maxLen; omega, by rw [size_madeCells, Nat.mul_one], ?_⟩⟩
  rw [toList_madeCells_one, List.map_replicate, Nat.mul_one, List.take_of_length_le (by simp)]
  rfl
theorem zb_row (q : Nat) (hq : q ≤ 1000000) (W : World) : BR (W.alloc (zb q)) (some ⟨W.heap.size, 0, none⟩) q q (List.replicate q 0) := BR.of_own (zb_own q hq W 0 (Nat.zero_le _)) (fun x hx => by rw [(List.mem_replicate.1 hx).2]; omega)

set_option maxRecDepth 100000 in
set_option maxHeartbeats 8000000 in
theorem CrcLine_few {w : World} {A B : Option Addr} {n c m d x y : Nat} (h : 2000 < n) :
    Calls Try.prog 6 #[.slice A n c, .slice B m d, .agg #[.int .u8 (x : Int), .int .u8 (y : Int)]] w fun e w' => e = .returned (.bool true) ∧ Below w.heap.size w w' := by
  have t0 : decide (2000 < (n : Int)) = true := decide_eq_true (by omega)
  have u0 : decide (2000 < n) = true := decide_eq_true (by omega)
  clear h
  have cc := Below.refl w.heap.size w
  go_enter Try.func6, Try.ntmps6
  go_wp2_with fail
  have bA : Below w.heap.size w (w.alloc (.cells #[.int .u8 (x : Int), .int .u8 (y : Int)] 41)) := ((Below.refl _ w).alloc (by simp) _)
  replace cc := cc.trans (bA.mono cc.size)
  clear bA
  have pa0 : (w.alloc (.cells #[.int .u8 (x : Int), .int .u8 (y : Int)] 41)).cell? ⟨w.heap.size, 0, none⟩ = some (.int .u8 (x : Int)) := by simp [go_sem]
  have pa1 : (w.alloc (.cells #[.int .u8 (x : Int), .int .u8 (y : Int)] 41)).cell? ⟨w.heap.size, 1, none⟩ = some (.int .u8 (y : Int)) := by simp [go_sem]
  have pal : w.heap.size < (w.alloc (.cells #[.int .u8 (x : Int), .int .u8 (y : Int)] 41)).heap.size := by simp <;> omega
  generalize w.alloc (.cells #[.int .u8 (x : Int), .int .u8 (y : Int)] 41) = v1 at *
  go_wp2_with fail
  refine (alive12_any _).mono ?_
  rintro e w2 ⟨rfl, b⟩
  replace pa0 := (b.cell (p := ⟨w.heap.size, 0, none⟩) pal).trans pa0
  replace pa1 := (b.cell (p := ⟨w.heap.size, 1, none⟩) pal).trans pa1
  replace pal := Nat.lt_of_lt_of_le pal b.size
  replace cc := cc.trans (b.mono cc.size)
  clear b
  go_wp2_with fail
  go_ret
  exact ⟨rfl, cc⟩

set_option maxRecDepth 100000 in
set_option maxHeartbeats 8000000 in
theorem CrcLine_len {w : World} {A B : Option Addr} {n c m d x y : Nat} (h : n ≤ 2000) (hm : n ≠ m) :
    Calls Try.prog 6 #[.slice A n c, .slice B m d, .agg #[.int .u8 (x : Int), .int .u8 (y : Int)]] w fun e w' => e = .returned (.bool true) ∧ Below w.heap.size w w' := by
  have t0 : decide (2000 < (n : Int)) = false := decide_eq_false (by omega)
  have u0 : decide (2000 < n) = false := decide_eq_false (by omega)
  have e1 : ((n : Int) == (m : Int)) = false := beq_eq_false_iff_ne.2 (by omega)
  have e2 : ((n : Int) != (m : Int)) = true := by simp; omega
  have e3 : (n == m) = false := beq_eq_false_iff_ne.2 hm
  have e4 : (n != m) = true := by simp; omega
  clear h hm
  have cc := Below.refl w.heap.size w
  go_enter Try.func6, Try.ntmps6
  go_wp2_with fail
  have bA : Below w.heap.size w (w.alloc (.cells #[.int .u8 (x : Int), .int .u8 (y : Int)] 41)) := ((Below.refl _ w).alloc (by simp) _)
  replace cc := cc.trans (bA.mono cc.size)
  clear bA
  have pa0 : (w.alloc (.cells #[.int .u8 (x : Int), .int .u8 (y : Int)] 41)).cell? ⟨w.heap.size, 0, none⟩ = some (.int .u8 (x : Int)) := by simp [go_sem]
  have pa1 : (w.alloc (.cells #[.int .u8 (x : Int), .int .u8 (y : Int)] 41)).cell? ⟨w.heap.size, 1, none⟩ = some (.int .u8 (y : Int)) := by simp [go_sem]
  have pal : w.heap.size < (w.alloc (.cells #[.int .u8 (x : Int), .int .u8 (y : Int)] 41)).heap.size := by simp <;> omega
  generalize w.alloc (.cells #[.int .u8 (x : Int), .int .u8 (y : Int)] 41) = v1 at *
  go_wp2_with fail
  refine (alive12_any _).mono ?_
  rintro e w2 ⟨rfl, b⟩
  replace pa0 := (b.cell (p := ⟨w.heap.size, 0, none⟩) pal).trans pa0
  replace pa1 := (b.cell (p := ⟨w.heap.size, 1, none⟩) pal).trans pa1
  replace pal := Nat.lt_of_lt_of_le pal b.size
  replace cc := cc.trans (b.mono cc.size)
  clear b
  go_wp2_with fail
  go_ret
  exact ⟨rfl, cc⟩

set_option maxRecDepth 100000 in
set_option maxHeartbeats 8000000 in
theorem CrcLine_main {w : World} {A B : Option Addr} {n c m d x y : Nat} {l r : List Nat} (hA : BR w A n c l) (hB : BR w B m d r) (h : n ≤ 2000) (hm : n = m) (hx : x < 256) (hy : y < 256) :
    Calls Try.prog 6 #[.slice A n c, .slice B m d, .agg #[.int .u8 (x : Int), .int .u8 (y : Int)]] w fun e w' => e = .returned (.bool true) ∧ Below w.heap.size w w' := by
  have t0 : decide (2000 < (n : Int)) = false := decide_eq_false (by omega)
  have u0 : decide (2000 < n) = false := decide_eq_false (by omega)
  subst hm
  obtain ⟨T, eT⟩ : ∃ T, tabV = T := ⟨_, rfl⟩
  have CT := gTable_N
  rw [eT] at CT
  have hTs : T.size = 256 := by rw [← eT]; exact tabV_size
  have hst : ∀ W : World, (storeCells ⟨W.heap.size, 0, none⟩ T.toList 0).run Try.prog (W.alloc (.cells zcT 25)) = .ok () (W.alloc (.cells T 25)) := fun W => by rw [← eT]; exact tab_store W
  have hzT := zcT_run
  have HTT := Lib.hid eT
  clear eT
  have hmk := fun W : World => zb_run n (by omega) W
  have hll : l.length = r.length := by rw [← hA.1, ← hB.1]
  have hln : l.length = n := hA.1.symm
  have HLL := Lib.hid hll
  have HLN := Lib.hid hln
  have HLT := Lib.hid hA.2.2.1
  have HRT := Lib.hid hB.2.2.1
  have H2 := Lib.hid h
  have HX := Lib.hid hx
  have HY := Lib.hid hy
  have hcl := crc_line hll hA.2.2.1 hB.2.2.1
  rw [hln] at hcl
  have CZ := fun {W : World} {C : Option Addr} {q e : Nat} (h : BR W C q e (List.zipWith (· ^^^ ·) l r)) (hq : q ≤ 2000000) => gOf_N h (by omega)
  have CA := fun {W : World} (h : BR W A n c l) => gOf_N h (by omega)
  have CB := fun {W : World} (h : BR W B n d r) => gOf_N h (by omega)
  have CO := fun {W : World} {C : Option Addr} {q e : Nat} (h : BR W C q e (List.replicate n 0)) (hq : q ≤ 2000000) => gOf_N h (by omega)
  have l1 := crcOn_lt (sum := 0) (List.zipWith (· ^^^ ·) l r)
  have l2 := crcOn_lt (sum := 0) (l)
  have l3 := crcOn_lt (sum := 0) (r)
  have l4 := crcOn_lt (sum := 0) (List.replicate n 0)
  generalize crcOn 0 (List.zipWith (· ^^^ ·) l r) = P_ at *
  generalize crcOn 0 (l) = Q_ at *
  generalize crcOn 0 (r) = R_ at *
  generalize crcOn 0 (List.replicate n 0) = Z_ at *
  have xo1 := u32_xor_nat P_ Q_ l1 l2
  have l5 : P_ ^^^ Q_ < 4294967296 := Nat.xor_lt_two_pow (n := 32) l1 l2
  generalize P_ ^^^ Q_ = M_ at *
  have xo2 := u32_xor_nat M_ R_ l5 l3
  rw [hcl] at xo2
  have xo3 := u8_xor_nat x y hx hy
  have l6 : x ^^^ y < 256 := Nat.xor_lt_two_pow (n := 8) hx hy
  have hs2 := stp_two x y
  have s1 := stp_lt (s := 0) (by omega) hx
  have s2 := stp_lt (s := 0) (by omega) hy
  have xo4 := u32_xor_nat (stp 0 x) (stp 0 y) s1 s2
  rw [← hs2] at xo4
  have HTX : Hid (stp 0 x = stp 0 x) := Lib.hid rfl
  generalize x ^^^ y = z_ at *
  obtain ⟨tx, etx⟩ : ∃ v, stp 0 x = v := ⟨_, rfl⟩
  obtain ⟨ty, ety⟩ : ∃ v, stp 0 y = v := ⟨_, rfl⟩
  obtain ⟨tz, etz⟩ : ∃ v, stp 0 z_ = v := ⟨_, rfl⟩
  rw [etx, ety, etz] at xo4
  have E1 := Lib.hid etx
  have E2 := Lib.hid ety
  have E3 := Lib.hid etz
  have L6 := Lib.hid l6
  have x6 : (x : Int) < 256 := by omega
  have y6 : (y : Int) < 256 := by omega
  have z6 : (z_ : Int) < 256 := by omega
  clear hcl l1 l2 l3 l4 l5 l6 hs2 s1 s2 etx ety etz HTX
  clear hll hln
  have cc := Below.refl w.heap.size w
  go_enter Try.func6, Try.ntmps6
  go_wp2_with fail
  have bA : Below w.heap.size w (w.alloc (.cells #[.int .u8 (x : Int), .int .u8 (y : Int)] 41)) := ((Below.refl _ w).alloc (by simp) _)
  replace hA := hA.on bA
  replace hB := hB.on bA
  replace cc := cc.trans (bA.mono cc.size)
  clear bA
  have pa0 : (w.alloc (.cells #[.int .u8 (x : Int), .int .u8 (y : Int)] 41)).cell? ⟨w.heap.size, 0, none⟩ = some (.int .u8 (x : Int)) := by simp [go_sem]
  have pa1 : (w.alloc (.cells #[.int .u8 (x : Int), .int .u8 (y : Int)] 41)).cell? ⟨w.heap.size, 1, none⟩ = some (.int .u8 (y : Int)) := by simp [go_sem]
  have pal : w.heap.size < (w.alloc (.cells #[.int .u8 (x : Int), .int .u8 (y : Int)] 41)).heap.size := by simp <;> omega
  have hvs : (w.alloc (.cells #[.int .u8 (x : Int), .int .u8 (y : Int)] 41)).heap.size = w.heap.size + 1 := by simp
  have hv0 : w.heap.size ≤ (w.alloc (.cells #[.int .u8 (x : Int), .int .u8 (y : Int)] 41)).heap.size := by simp
  generalize w.alloc (.cells #[.int .u8 (x : Int), .int .u8 (y : Int)] 41) = v1 at *
  go_upto_region 4 with fail
  have HAV := Lib.hid hA
  have HBV := Lib.hid hB
  have CCV := Lib.hid cc
  have PA0 := Lib.hid pa0
  have PA1 := Lib.hid pa1
  have PAL := Lib.hid pal
  have hO := zb_own n (by omega) v1 v1.heap.size (Nat.le_refl _)
  obtain ⟨g, hg⟩ : ∃ g, v1.heap.size = g := ⟨_, rfl⟩
  have hwg : w.heap.size ≤ g := by rw [← hg]; exact hv0
  have b1 : Below g v1 (v1.alloc (zb n)) := by rw [← hg]; exact (Below.refl _ v1).alloc (Nat.le_refl _) _
  rw [hg] at hO
  have e0 : (List.replicate n 0).map encB = (XL l r 0).map encB := by show _ = (List.replicate l.length 0).map encB; rw [HLN.out]
  rw [e0] at hO
  generalize v1.alloc (zb n) = vz at *
  have HO := Lib.hid hO
  have HB1 := Lib.hid b1
  have HG := Lib.hid hg
  have HG2 : Hid (w.heap.size + 1 = g) := Lib.hid (by rw [← hg, hvs])
  clear hvs hmk pa0 pa1 pal hA hB cc hO e0 b1 hg hv0
  go_wp2_with fail
  rw [HG2.out]
  go_loopw [8] (fun iv wr => ∃ i : Nat, i ≤ n ∧ iv = .int .i64 (i : Int) ∧ wr.ownsRow g 5 1 (.slice (some ⟨g, 0, none⟩) n n) n ((XL l r i).map encB) ∧ Below g v1 wr) (fun iv _ => n - (intOf iv).toNat)
  case atStart => exact ⟨0, by omega, rfl, HO.out, HB1.out⟩
  case round =>
    obtain ⟨i, hi, rfl, hO, hbl⟩ := hrel
    have hbV : Below v1.heap.size v1 wr := by rw [HG.out]; exact hbl
    have hA := HAV.out.on hbV
    have hB := HBV.out.on hbV
    have cc := CCV.out.trans (hbV.mono CCV.out.size)
    by_cases hlt : i < n
    · obtain ⟨b1, o1, rfl, hb1, hc1⟩ := HAV.out.2.2.2 (by omega)
      obtain ⟨b2, o2, rfl, hb2, hc2⟩ := HBV.out.2.2.2 (by omega)
      have h1 := hA.cell hlt
      have h2 := hB.cell hlt
      have p6 := hA.at hlt
      have q6 := hB.at hlt
      have hS : XL l r (i + 1) = (XL l r i).set i (l[i]?.getD 0 ^^^ r[i]?.getD 0) := rfl
      obtain ⟨p, ep⟩ : ∃ p, l[i]?.getD 0 = p := ⟨_, rfl⟩
      obtain ⟨q, eq⟩ : ∃ q, r[i]?.getD 0 = q := ⟨_, rfl⟩
      rw [ep] at h1 p6 hS
      rw [eq] at h2 q6 hS
      obtain ⟨z, ez⟩ : ∃ z, p ^^^ q = z := ⟨_, rfl⟩
      rw [ez] at hS
      have x1 : bits .xor .u8 (p : Int) (q : Int) = (z : Int) := by rw [u8_xor_nat p q p6 q6, ez]
      have k3 : IntKind.i64.wrap ((i : Int) + 1) = ((i + 1 : Nat) : Int) := by rw [IntWalk.i64_in _ (by omega)]; omega
      have hOd := hO.drew
      have hLK : (XL l r i).length = n := by rw [XL_len, HLN.out]
      have cx := hOd.cellAt i (by omega)
      have fx := hOd.frozenAt i
      obtain ⟨v0_, ev0⟩ : ∃ v, ((XL l r i).map encB)[i]? = some v := ⟨_, List.getElem?_eq_getElem (by rw [List.length_map]; omega)⟩
      rw [ev0] at cx
      obtain ⟨hO2, hg2⟩ := hOd.stored i (.int .u8 (z : Int))
      have HO2 : Hid ((wr.drew.setCell ⟨g, i, none⟩ (.int .u8 (z : Int))).ownsRow g 5 1 (.slice (some ⟨g, 0, none⟩) n n) n ((XL l r (i + 1)).map encB)) := Lib.hid (by rw [hS, List.map_set]; exact hO2)
      have HBW : Hid (Below g v1 (wr.drew.setCell ⟨g, i, none⟩ (.int .u8 (z : Int)))) := Lib.hid ((below_drewN hbl 1).setCell (p := ⟨g, i, none⟩) (by show g ≤ g; omega) _)
      have n1 : b1 ≠ g := by have := HG.out; omega
      have n2 : b2 ≠ g := by have := HG.out; omega
      have s1 : ∀ u, (wr.drew.setCell ⟨g, i, none⟩ u).cell? ⟨b1, o1 + i, none⟩ = some (.int .u8 (p : Int)) := fun u => (World.cell?_setCell_other _ _ _ _ (fun e => n1 (by injection e with e; exact e.symm))).trans h1
      have s2 : ∀ u, (wr.drew.setCell ⟨g, i, none⟩ u).cell? ⟨b2, o2 + i, none⟩ = some (.int .u8 (q : Int)) := fun u => (World.cell?_setCell_other _ _ _ _ (fun e => n2 (by injection e with e; exact e.symm))).trans h2
      clear hA hB hS ep eq ez hO hOd hO2 hg2 hLK ev0 hc1 hc2 p6 q6
      go_wp2_with fail
      go_region_held3 (fun w' => w'.cell? ⟨b1, o1 + i, none⟩ = some (.int .u8 (p : Int)) ∧ w'.cell? ⟨b2, o2 + i, none⟩ = some (.int .u8 (q : Int))) (first | exact ⟨h1, h2⟩ | exact ⟨s1 _, s2 _⟩) (fail)
      go_wp2_with fail
      go_roundw
      case rel => exact ⟨i + 1, by omega, rfl, HO2.out, HBW.out⟩
      case measure => simp [intOf] <;> omega
    · obtain rfl : i = n := by omega
      have hZ : BR wr (some ⟨g, 0, none⟩) i i (List.zipWith (· ^^^ ·) l r) := by rw [← XL_zip HLL.out, HLN.out]; exact BR.of_own hO (by have e := zip_lt HLT.out HRT.out; rw [← XL_zip HLL.out, HLN.out] at e; exact e)
      have pa0 := (hbV.cell PAL.out).trans PA0.out
      have pa1 := (hbV.cell PAL.out).trans PA1.out
      have pal := Nat.lt_of_lt_of_le PAL.out hbV.size
      clear hO hbV hbl
      go_wp2_with fail
      refine (CT _).mono ?_
      rintro e w2 ⟨rfl, b⟩
      replace hA := hA.on b
      replace hB := hB.on b
      replace hZ := hZ.on b
      replace pa0 := (b.cell (p := ⟨w.heap.size, 0, none⟩) pal).trans pa0
      replace pa1 := (b.cell (p := ⟨w.heap.size, 1, none⟩) pal).trans pa1
      replace pal := Nat.lt_of_lt_of_le pal b.size
      replace cc := cc.trans (b.mono cc.size)
      clear b
      go_upto_region 9 with fail
      have bA : Below w2.heap.size w2 (w2.alloc (.cells T 25)) := (Below.refl _ w2).alloc (Nat.le_refl _) _
      replace hA := hA.on bA
      replace hB := hB.on bA
      replace hZ := hZ.on bA
      replace pa0 := (bA.cell (p := ⟨w.heap.size, 0, none⟩) pal).trans pa0
      replace pa1 := (bA.cell (p := ⟨w.heap.size, 1, none⟩) pal).trans pa1
      replace pal := Nat.lt_of_lt_of_le pal bA.size
      replace cc := cc.trans (bA.mono cc.size)
      clear bA
      have t0_ : (w2.alloc (.cells T 25)).cell? ⟨w2.heap.size, 0, none⟩ = some (.int .u32 0) := by rw [World.cell?_alloc_new, ← HTT.out, tabV_at (by omega), stp_zero]; rfl
      have tx_ : (w2.alloc (.cells T 25)).cell? ⟨w2.heap.size, x, none⟩ = some (.int .u32 (tx : Int)) := by rw [World.cell?_alloc_new, ← HTT.out, tabV_at HX.out, E1.out]
      have ty_ : (w2.alloc (.cells T 25)).cell? ⟨w2.heap.size, y, none⟩ = some (.int .u32 (ty : Int)) := by rw [World.cell?_alloc_new, ← HTT.out, tabV_at HY.out, E2.out]
      have tz_ : (w2.alloc (.cells T 25)).cell? ⟨w2.heap.size, z_, none⟩ = some (.int .u32 (tz : Int)) := by rw [World.cell?_alloc_new, ← HTT.out, tabV_at L6.out, E3.out]
      have tbl : w2.heap.size < (w2.alloc (.cells T 25)).heap.size := by simp
      generalize w2.alloc (.cells T 25) = v3 at *
      have hmk := fun W : World => zb_run i (by have := H2.out; omega) W
      clear hst
      have BB0 : Below v3.heap.size v3 v3.drew := below_drewN (Below.refl _ v3) 1
      go_region_held3 (fun w' => w'.cell? ⟨w.heap.size, 0, none⟩ = some (.int .u8 (x : Int)) ∧ w'.cell? ⟨w.heap.size, 1, none⟩ = some (.int .u8 (y : Int)) ∧ w'.cell? ⟨w2.heap.size, 0, none⟩ = some (.int .u32 0) ∧ w'.cell? ⟨w2.heap.size, x, none⟩ = some (.int .u32 (tx : Int)) ∧ w'.cell? ⟨w2.heap.size, y, none⟩ = some (.int .u32 (ty : Int)) ∧ w'.cell? ⟨w2.heap.size, z_, none⟩ = some (.int .u32 (tz : Int)))
        (first | exact ⟨pa0, pa1, t0_, tx_, ty_, tz_⟩ | exact ⟨(qq.cell (p := ⟨w.heap.size, 0, none⟩) pal).trans pa0, (qq.cell (p := ⟨w.heap.size, 1, none⟩) pal).trans pa1, (qq.cell (p := ⟨w2.heap.size, 0, none⟩) tbl).trans t0_, (qq.cell (p := ⟨w2.heap.size, x, none⟩) tbl).trans tx_, (qq.cell (p := ⟨w2.heap.size, y, none⟩) tbl).trans ty_, (qq.cell (p := ⟨w2.heap.size, z_, none⟩) tbl).trans tz_⟩ | exact ⟨cell_up ((qq.cell (p := ⟨w.heap.size, 0, none⟩) pal).trans pa0), cell_up ((qq.cell (p := ⟨w.heap.size, 1, none⟩) pal).trans pa1), cell_up ((qq.cell (p := ⟨w2.heap.size, 0, none⟩) tbl).trans t0_), cell_up ((qq.cell (p := ⟨w2.heap.size, x, none⟩) tbl).trans tx_), cell_up ((qq.cell (p := ⟨w2.heap.size, y, none⟩) tbl).trans ty_), cell_up ((qq.cell (p := ⟨w2.heap.size, z_, none⟩) tbl).trans tz_)⟩)
        (first
          | (go_at_call 8; (with_reducible refine (alive12_any _).mono ?_); rintro e y1 ⟨rfl, q⟩; have qq := BB0.trans (q.mono BB0.size); have hA' := (hA.on BB0).on q; have hB' := (hB.on BB0).on q; have hZ' := (hZ.on BB0).on q; clear q)
          | (go_at_call 15; have up := Below.refl y1.heap.size y1; (with_reducible refine (CZ (hZ'.on up) (by have := H2.out; omega)).mono ?_); rintro e y2 ⟨rfl, q⟩; replace qq := (qq.trans (up.mono qq.size)).trans (q.mono (Nat.le_trans qq.size up.size)); replace hA' := (hA'.on up).on q; replace hB' := (hB'.on up).on q; replace hZ' := (hZ'.on up).on q; (try replace hz := (hz.on up).on q); clear q up)
          | (go_at_call 15; have up := one_up y1 (zb i); (with_reducible refine (CZ (hZ'.on up) (by have := H2.out; omega)).mono ?_); rintro e y2 ⟨rfl, q⟩; replace qq := (qq.trans (up.mono qq.size)).trans (q.mono (Nat.le_trans qq.size up.size)); replace hA' := (hA'.on up).on q; replace hB' := (hB'.on up).on q; replace hZ' := (hZ'.on up).on q; have hz := (zb_row i (by have := H2.out; omega) y1).on q; clear q up)
          | (go_at_call 15; have up := Below.refl y2.heap.size y2; (with_reducible refine (CA (hA'.on up)).mono ?_); rintro e y3 ⟨rfl, q⟩; replace qq := (qq.trans (up.mono qq.size)).trans (q.mono (Nat.le_trans qq.size up.size)); replace hA' := (hA'.on up).on q; replace hB' := (hB'.on up).on q; replace hZ' := (hZ'.on up).on q; (try replace hz := (hz.on up).on q); clear q up)
          | (go_at_call 15; have up := one_up y2 (zb i); (with_reducible refine (CA (hA'.on up)).mono ?_); rintro e y3 ⟨rfl, q⟩; replace qq := (qq.trans (up.mono qq.size)).trans (q.mono (Nat.le_trans qq.size up.size)); replace hA' := (hA'.on up).on q; replace hB' := (hB'.on up).on q; replace hZ' := (hZ'.on up).on q; have hz := (zb_row i (by have := H2.out; omega) y2).on q; clear q up)
          | (go_at_call 15; have up := Below.refl y3.heap.size y3; (with_reducible refine (CB (hB'.on up)).mono ?_); rintro e y4 ⟨rfl, q⟩; replace qq := (qq.trans (up.mono qq.size)).trans (q.mono (Nat.le_trans qq.size up.size)); replace hA' := (hA'.on up).on q; replace hB' := (hB'.on up).on q; replace hZ' := (hZ'.on up).on q; (try replace hz := (hz.on up).on q); clear q up)
          | (go_at_call 15; have up := one_up y3 (zb i); (with_reducible refine (CB (hB'.on up)).mono ?_); rintro e y4 ⟨rfl, q⟩; replace qq := (qq.trans (up.mono qq.size)).trans (q.mono (Nat.le_trans qq.size up.size)); replace hA' := (hA'.on up).on q; replace hB' := (hB'.on up).on q; replace hZ' := (hZ'.on up).on q; have hz := (zb_row i (by have := H2.out; omega) y3).on q; clear q up)
          | (go_at_call 15; have up := Below.refl y4.heap.size y4; (with_reducible refine (CO hz (by have := H2.out; omega)).mono ?_); rintro e y5 ⟨rfl, q⟩; replace qq := (qq.trans (up.mono qq.size)).trans (q.mono (Nat.le_trans qq.size up.size)); clear q up)
          | (go_at_call 15; have up := one_up y4 (zb i); (with_reducible refine (CO (zb_row i (by have := H2.out; omega) y4) (by have := H2.out; omega)).mono ?_); rintro e y5 ⟨rfl, q⟩; replace qq := (qq.trans (up.mono qq.size)).trans (q.mono (Nat.le_trans qq.size up.size)); clear q up))
      all_goals (go_wp2_with fail; go_ret; exact ⟨rfl, cc.trans (qq.mono cc.size)⟩)

theorem CrcLine_walk {w : World} {A B : Option Addr} {n c m d : Nat} {l r : List Nat} (hA : BR w A n c l) (hB : BR w B m d r) (x y : Int) (wx : (Lit.int .u8 x).wf = true) (wy : (Lit.int .u8 y).wf = true) : Calls Try.prog 6 #[.slice A n c, .slice B m d, .agg #[.int .u8 x, .int .u8 y]] w fun e w' => e = .returned (.bool true) ∧ Below w.heap.size w w' := by
  obtain ⟨x, rfl, hx⟩ := u8_nat12 wx
  obtain ⟨y, rfl, hy⟩ := u8_nat12 wy
  by_cases h : 2000 < n
  · exact CrcLine_few h
  by_cases hm : n = m
  · exact CrcLine_main hA hB (by omega) hm hx hy
  · exact CrcLine_len (by omega) hm

end Go.Proofs.Ytkknopahiajeeaa
