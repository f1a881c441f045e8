/-
  The walk of TensRight.
-/
import Derived.Test.YtpidpebgeblenaaGreatA16
import Derived.Test.YtpidpebgeblenaaGreatA3
namespace Go.Proofs.YtpidpebgeblenaaGreat
set_option maxRecDepth 100000
set_option maxHeartbeats 8000000
open Go.RowKit
set_option linter.unusedVariables false
set_option linter.unusedSimpArgs false

theorem TensRight_few {w : World} {kk ks km ko : Int} {A : Option Addr} {n c : Nat} {L : List Int} (hA : IR w A n c L) (h : 24 < n) :
    Calls Tryz.prog 5 #[.agg #[.int .i64 kk, .int .i64 ks, .int .i64 km, .int .i64 ko], .slice A n c] w fun e w' => e = .returned (.bool true) ∧ Below w.heap.size w w' := by
  have t0 : decide (24 < n) = true := decide_eq_true (by omega)
  have t1 : decide ((24 : Int) < (n : Int)) = true := decide_eq_true (by omega)
  clear h hA
  have cc := Below.refl w.heap.size w
  go_enter Tryz.func5, Tryz.ntmps5
  go_wp2_with fail
  generalize hv_ : w.alloc (.cells #[.int .i64 kk, .int .i64 ks, .int .i64 km, .int .i64 ko] 23) = v1
  have bA : Below w.heap.size w v1 := by rw [← hv_]; exact ((Below.refl _ w).alloc (by simp) _)
  replace cc := bK cc bA
  clear bA
  have ka0 : v1.cell? ⟨w.heap.size, 0, none⟩ = some (.int .i64 kk) := by simp [← hv_, go_sem]
  have ka1 : v1.cell? ⟨w.heap.size, 1, none⟩ = some (.int .i64 ks) := by simp [← hv_, go_sem]
  have ka2 : v1.cell? ⟨w.heap.size, 2, none⟩ = some (.int .i64 km) := by simp [← hv_, go_sem]
  have ka3 : v1.cell? ⟨w.heap.size, 3, none⟩ = some (.int .i64 ko) := by simp [← hv_, go_sem]
  have kal : w.heap.size < v1.heap.size := by simp [← hv_] <;> omega
  clear hv_
  go_wp2_with fail
  refine (alive14_any _).mono ?_
  rintro e w2 ⟨rfl, b⟩
  rewrite [cR b kal] at ka0 ka1 ka2 ka3
  replace kal := lK b kal
  replace cc := bK cc b
  clear b
  go_wp2_with fail
  go_ret
  exact ⟨rfl, cc⟩

theorem TensRight_no {w : World} {kk ks km ko : Int} {A : Option Addr} {n c : Nat} {L : List Int} (hA : IR w A n c L) (h : n ≤ 24) (O0 : ∀ {W : World}, IR W A n c L → Calls Tryz.prog 19 #[.agg #[.int .i64 kk, .int .i64 ks, .int .i64 km, .int .i64 ko], .slice A n c] W (GotV W (.tuple #[.agg #[.int .i64 0, .int .i64 0, .int .i64 0, .int .i64 0, .int .i64 0, .slice none 0 0], .int .i64 1]))) :
    Calls Tryz.prog 5 #[.agg #[.int .i64 kk, .int .i64 ks, .int .i64 km, .int .i64 ko], .slice A n c] w fun e w' => e = .returned (.bool true) ∧ Below w.heap.size w w' := by
  have t0 : decide (24 < n) = false := decide_eq_false (by omega)
  have t1 : decide ((24 : Int) < (n : Int)) = false := decide_eq_false (by omega)
  clear h
  have cc := Below.refl w.heap.size w
  go_enter Tryz.func5, Tryz.ntmps5
  go_wp2_with fail
  generalize hv_ : w.alloc (.cells #[.int .i64 kk, .int .i64 ks, .int .i64 km, .int .i64 ko] 23) = v1
  have bA : Below w.heap.size w v1 := by rw [← hv_]; exact ((Below.refl _ w).alloc (by simp) _)
  replace hA := hA.on bA
  replace cc := bK cc bA
  clear bA
  have ka0 : v1.cell? ⟨w.heap.size, 0, none⟩ = some (.int .i64 kk) := by simp [← hv_, go_sem]
  have ka1 : v1.cell? ⟨w.heap.size, 1, none⟩ = some (.int .i64 ks) := by simp [← hv_, go_sem]
  have ka2 : v1.cell? ⟨w.heap.size, 2, none⟩ = some (.int .i64 km) := by simp [← hv_, go_sem]
  have ka3 : v1.cell? ⟨w.heap.size, 3, none⟩ = some (.int .i64 ko) := by simp [← hv_, go_sem]
  have kal : w.heap.size < v1.heap.size := by simp [← hv_] <;> omega
  clear hv_
  go_wp2_with fail
  refine (O0 hA).mono ?_
  rintro e w2 ⟨rfl, b⟩
  replace hA := hA.on b
  rewrite [cR b kal] at ka0 ka1 ka2 ka3
  replace kal := lK b kal
  replace cc := bK cc b
  clear b
  go_upto_region 4 with fail
  have bxqka : w.heap.size < w2.heap.size := kal
  generalize hv_ : w2.alloc (.cells #[.int .i64 0, .int .i64 0, .int .i64 0, .int .i64 0, .int .i64 0, .slice none 0 0] 26) = v3
  have bA : Below w2.heap.size w2 v3 := by rw [← hv_]; exact below_one _ _
  replace hA := hA.on bA
  rewrite [cR bA kal] at ka0 ka1 ka2 ka3
  replace kal := lK bA kal
  replace cc := bK cc bA
  clear bA
  obtain ⟨bx0, bx1, bx2, bx3, bx4, bx5⟩ : Cs6 v3 w2.heap.size (.int .i64 0) (.int .i64 0) (.int .i64 0) (.int .i64 0) (.int .i64 0) (.slice none 0 0) := by simp [Cs6, ← hv_, go_sem]
  have bxl : w2.heap.size < v3.heap.size := by simp [← hv_]
  clear hv_
  go_wp2_with fail
  refine (alive14_any _).mono ?_
  rintro e w4 ⟨rfl, b⟩
  replace hA := hA.on b
  rewrite [cR b kal] at ka0 ka1 ka2 ka3
  replace kal := lK b kal
  rewrite [cR b bxl] at bx0 bx1 bx2 bx3 bx4 bx5
  replace bxl := lK b bxl
  replace cc := bK cc b
  clear b
  go_wp2_with fail
  refine (same14_self (kk := 0) (ks := 0) (km := 0) (ko := 0) (lg := 0) (KR.nil _ none 0) (KR.nil _ none 0) (by decide) (by decide)).mono ?_
  rintro e w5 ⟨rfl, b⟩
  replace hA := hA.on b
  rewrite [cR b kal] at ka0 ka1 ka2 ka3
  replace kal := lK b kal
  rewrite [cR b bxl] at bx0 bx1 bx2 bx3 bx4 bx5
  replace bxl := lK b bxl
  replace cc := bK cc b
  clear b
  go_wp2_with fail
  go_ret
  exact ⟨rfl, cc⟩

theorem TensRight_yes {w : World} {kk ks km ko : Int} {A : Option Addr} {n c : Nat} {L : List Int} (hA : IR w A n c L) (h : n ≤ 24) (hks : 1 ≤ ks ∧ ks ≤ 4096) {D : List Bk} {R : List Int} {gR gL : Int} (hg : gR ≤ gL) (hRl : R.length = n) (hDl : D.length ≤ 24) (hpl : ∀ i, i < n → i / ks.toNat < D.length) (hw : ∀ i, i < n → (D[i / ks.toNat]?.getD bk0).1 = 4 → R[i]?.getD 0 = L[i]?.getD 0) (O0 : ∀ {W : World}, IR W A n c L → Calls Tryz.prog 19 #[.agg #[.int .i64 kk, .int .i64 ks, .int .i64 km, .int .i64 ko], .slice A n c] W (GotSto W kk ks km ko (n : Int) D)) (D0 : ∀ {W : World} {Ax : Option Addr} {nx cx : Nat}, KR W Ax nx cx D → Calls Tryz.prog 17 #[.agg #[.int .i64 kk, .int .i64 ks, .int .i64 km, .int .i64 ko, .int .i64 (n : Int), .slice Ax nx cx]] W (GotI W R)) (R0 : ∀ {W : World} {Ax : Option Addr} {nx cx : Nat}, KR W Ax nx cx D → Calls Tryz.prog 8 #[.agg #[.int .i64 kk, .int .i64 ks, .int .i64 km, .int .i64 ko, .int .i64 (n : Int), .slice Ax nx cx]] W (GotV W (.bool true))) (R1 : ∀ {W : World} {Ax : Option Addr} {nx cx : Nat}, KR W Ax nx cx D → Calls Tryz.prog 11 #[.agg #[.int .i64 kk, .int .i64 ks, .int .i64 km, .int .i64 ko, .int .i64 (n : Int), .slice Ax nx cx]] W (GotV W (.bool true))) (G0 : ∀ {W : World} {A : Option Addr} {n c : Nat}, IR W A n c R → Calls Tryz.prog 21 #[.slice A n c] W (GotV W (.int .i64 gR))) (G1 : ∀ {W : World}, IR W A n c L → Calls Tryz.prog 21 #[.slice A n c] W (GotV W (.int .i64 gL))) :
    Calls Tryz.prog 5 #[.agg #[.int .i64 kk, .int .i64 ks, .int .i64 km, .int .i64 ko], .slice A n c] w fun e w' => e = .returned (.bool true) ∧ Below w.heap.size w w' := by
  have t0 : decide (24 < n) = false := decide_eq_false (by omega)
  have t1 : decide ((24 : Int) < (n : Int)) = false := decide_eq_false (by omega)
  have KE := keep_eq
  have tk : decide (kk = kk ∧ ks = ks ∧ km = km ∧ ko = ko) = true := decide_eq_true ⟨rfl, rfl, rfl, rfl⟩
  have tg : decide (gL < gR) = false := decide_eq_false (by omega)
  have HN := Lib.hid h
  have HKS := Lib.hid hks
  have HRL := Lib.hid hRl
  have HDL := Lib.hid hDl
  have HPL := Lib.hid hpl
  have HW := Lib.hid hw
  clear h hks hRl hDl hpl hw hg
  have cc := Below.refl w.heap.size w
  go_enter Tryz.func5, Tryz.ntmps5
  go_wp2_with fail
  generalize hv_ : w.alloc (.cells #[.int .i64 kk, .int .i64 ks, .int .i64 km, .int .i64 ko] 23) = v1
  have bA : Below w.heap.size w v1 := by rw [← hv_]; exact ((Below.refl _ w).alloc (by simp) _)
  replace hA := hA.on bA
  replace cc := bK cc bA
  clear bA
  have ka0 : v1.cell? ⟨w.heap.size, 0, none⟩ = some (.int .i64 kk) := by simp [← hv_, go_sem]
  have ka1 : v1.cell? ⟨w.heap.size, 1, none⟩ = some (.int .i64 ks) := by simp [← hv_, go_sem]
  have ka2 : v1.cell? ⟨w.heap.size, 2, none⟩ = some (.int .i64 km) := by simp [← hv_, go_sem]
  have ka3 : v1.cell? ⟨w.heap.size, 3, none⟩ = some (.int .i64 ko) := by simp [← hv_, go_sem]
  have kal : w.heap.size < v1.heap.size := by simp [← hv_] <;> omega
  clear hv_
  go_wp2_with fail
  refine (O0 hA).mono ?_
  rintro e w2 ⟨Ax, nx, cx, rfl, hx, b⟩
  replace hA := hA.on b
  rewrite [cR b kal] at ka0 ka1 ka2 ka3
  replace kal := lK b kal
  replace cc := bK cc b
  clear b
  have hnx : nx = D.length := hx.1
  have HNX := Lib.hid hnx
  clear hnx
  go_upto_region 4 with fail
  have bxqka : w.heap.size < w2.heap.size := kal
  generalize hv_ : w2.alloc (.cells #[.int .i64 kk, .int .i64 ks, .int .i64 km, .int .i64 ko, .int .i64 (n : Int), .slice Ax nx cx] 26) = v3
  have bA : Below w2.heap.size w2 v3 := by rw [← hv_]; exact below_one _ _
  replace hA := hA.on bA
  replace hx := hx.on bA
  rewrite [cR bA kal] at ka0 ka1 ka2 ka3
  replace kal := lK bA kal
  replace cc := bK cc bA
  clear bA
  obtain ⟨bx0, bx1, bx2, bx3, bx4, bx5⟩ : Cs6 v3 w2.heap.size (.int .i64 kk) (.int .i64 ks) (.int .i64 km) (.int .i64 ko) (.int .i64 (n : Int)) (.slice Ax nx cx) := by simp [Cs6, ← hv_, go_sem]
  have bxl : w2.heap.size < v3.heap.size := by simp [← hv_]
  clear hv_
  go_wp2_with fail
  refine (D0 hx).mono ?_
  rintro e w4 ⟨Am, nm, cm, rfl, hm, b⟩
  replace hA := hA.on b
  replace hx := hx.on b
  rewrite [cR b kal] at ka0 ka1 ka2 ka3
  replace kal := lK b kal
  rewrite [cR b bxl] at bx0 bx1 bx2 bx3 bx4 bx5
  replace bxl := lK b bxl
  replace cc := bK cc b
  clear b
  obtain rfl : nm = n := hm.1.trans HRL.out
  go_wp2_with fail
  refine (R0 hx).mono ?_
  rintro e w5 ⟨rfl, b⟩
  replace hA := hA.on b
  replace hx := hx.on b
  replace hm := hm.on b
  rewrite [cR b kal] at ka0 ka1 ka2 ka3
  replace kal := lK b kal
  rewrite [cR b bxl] at bx0 bx1 bx2 bx3 bx4 bx5
  replace bxl := lK b bxl
  replace cc := bK cc b
  clear b
  go_wp2_with fail
  refine (R1 hx).mono ?_
  rintro e w6 ⟨rfl, b⟩
  replace hA := hA.on b
  replace hx := hx.on b
  replace hm := hm.on b
  rewrite [cR b kal] at ka0 ka1 ka2 ka3
  replace kal := lK b kal
  rewrite [cR b bxl] at bx0 bx1 bx2 bx3 bx4 bx5
  replace bxl := lK b bxl
  replace cc := bK cc b
  clear b
  go_wp2_with fail
  refine (G0 hm).mono ?_
  rintro e w7 ⟨rfl, b⟩
  replace hA := hA.on b
  replace hx := hx.on b
  replace hm := hm.on b
  rewrite [cR b kal] at ka0 ka1 ka2 ka3
  replace kal := lK b kal
  rewrite [cR b bxl] at bx0 bx1 bx2 bx3 bx4 bx5
  replace bxl := lK b bxl
  replace cc := bK cc b
  clear b
  go_wp2_with fail
  refine (G1 hA).mono ?_
  rintro e w8 ⟨rfl, b⟩
  replace hA := hA.on b
  replace hx := hx.on b
  replace hm := hm.on b
  rewrite [cR b kal] at ka0 ka1 ka2 ka3
  replace kal := lK b kal
  rewrite [cR b bxl] at bx0 bx1 bx2 bx3 bx4 bx5
  replace bxl := lK b bxl
  replace cc := bK cc b
  clear b
  have HKA0 := Lib.hid ka0
  have HKA1 := Lib.hid ka1
  have HKA2 := Lib.hid ka2
  have HKA3 := Lib.hid ka3
  have HBX0 := Lib.hid bx0
  have HBX1 := Lib.hid bx1
  have HBX2 := Lib.hid bx2
  have HBX3 := Lib.hid bx3
  have HBX4 := Lib.hid bx4
  have HBX5 := Lib.hid bx5
  have HKAL := Lib.hid kal
  have HBXL := Lib.hid bxl
  have HXV := Lib.hid hx
  have HMV := Lib.hid hm
  have HAV := Lib.hid hA
  have CCV := Lib.hid cc
  clear cc hx hm hA O0 D0 R0 R1 G0 G1 bxqka ka0 ka1 ka2 ka3 bx0 bx1 bx2 bx3 bx4 bx5 kal bxl
  go_wp2_with fail
  go_loopw [8] (fun iv wr => ∃ i : Nat, i ≤ nm ∧ iv = .int .i64 (i : Int) ∧ Below w8.heap.size w8 wr) (fun iv _ => nm - (intOf iv).toNat)
  case atStart => exact ⟨0, by omega, rfl, Below.refl _ _⟩
  case round =>
    obtain ⟨i, hi, rfl, hbl⟩ := hrel
    have ka0 := (hbl.cell (p := ⟨w.heap.size, 0, none⟩) HKAL.out).trans HKA0.out
    have ka1 := (hbl.cell (p := ⟨w.heap.size, 1, none⟩) HKAL.out).trans HKA1.out
    have ka2 := (hbl.cell (p := ⟨w.heap.size, 2, none⟩) HKAL.out).trans HKA2.out
    have ka3 := (hbl.cell (p := ⟨w.heap.size, 3, none⟩) HKAL.out).trans HKA3.out
    have bx0 := (hbl.cell (p := ⟨w2.heap.size, 0, none⟩) HBXL.out).trans HBX0.out
    have bx1 := (hbl.cell (p := ⟨w2.heap.size, 1, none⟩) HBXL.out).trans HBX1.out
    have bx2 := (hbl.cell (p := ⟨w2.heap.size, 2, none⟩) HBXL.out).trans HBX2.out
    have bx3 := (hbl.cell (p := ⟨w2.heap.size, 3, none⟩) HBXL.out).trans HBX3.out
    have bx4 := (hbl.cell (p := ⟨w2.heap.size, 4, none⟩) HBXL.out).trans HBX4.out
    have bx5 := (hbl.cell (p := ⟨w2.heap.size, 5, none⟩) HBXL.out).trans HBX5.out
    have kal := Nat.lt_of_lt_of_le HKAL.out hbl.size
    have bxl := Nat.lt_of_lt_of_le HBXL.out hbl.size
    have cc := CCV.out.trans (hbl.mono CCV.out.size)
    by_cases hlt : i < nm
    · obtain ⟨bm, om, hme, hbm⟩ := (HMV.out.on hbl).some (by omega)
      subst hme
      have e2 := (HMV.out.on hbl).cell hlt
      obtain ⟨ba_, oa, hae, hba⟩ := (HAV.out.on hbl).some (by omega)
      subst hae
      have e3 := (HAV.out.on hbl).cell hlt
      have n24 := HN.out
      have hks := HKS.out
      have hpq := HPL.out i hlt
      have hwq := HW.out i hlt
      have dq : (i : Int) / ks = ((i / ks.toNat : Nat) : Int) := by rw [Int.natCast_ediv]; congr 1; omega
      obtain ⟨q, hq⟩ : ∃ q, i / ks.toNat = q := ⟨_, rfl⟩
      rw [hq] at dq hpq hwq
      have hqn : q < nx := by rw [HNX.out]; exact hpq
      have hq24 : q ≤ 24 := by have := Nat.div_le_self i ks.toNat; omega
      have k3q : Int.tdiv (i : Int) ks = (q : Int) := by rw [Int.tdiv_eq_ediv_of_nonneg (by omega)]; exact dq
      have k4q : IntKind.i64.wrap (q : Int) = (q : Int) := IntWalk.i64_in _ (by omega)
      have k6q : IntKind.i64.wrap ((i : Int) / ks) = (q : Int) := by rw [dq]; exact k4q
      have k5 : (ks == 0) = false := beq_eq_false_iff_ne.2 (by omega)
      have k7 : ¬ ks = 0 := by omega
      have jq : (q : Int) < (nx : Int) := by omega
      obtain ⟨bk, ok_, hxe, hbk⟩ := (HXV.out.on hbl).some (by omega)
      subst hxe
      obtain ⟨_, _, _, _, _, _, e1, _⟩ := kr_at (HXV.out.on hbl) hqn
      have k3_ : IntKind.i64.wrap ((i : Int) + 1) = ((i + 1 : Nat) : Int) := by rw [IntWalk.i64_in _ (by omega)]; omega
      obtain ⟨y, hy⟩ : ∃ y, (D[q]?.getD bk0).1 = y := ⟨_, rfl⟩
      rw [hy] at e1 hwq
      obtain ⟨x, hx⟩ : ∃ x, R[i]?.getD 0 = x := ⟨_, rfl⟩
      obtain ⟨z, hz⟩ : ∃ z, L[i]?.getD 0 = z := ⟨_, rfl⟩
      rw [hx, hz] at hwq
      rw [hx] at e2
      rw [hz] at e3
      clear hx hz hy hpq hq
      by_cases hy4 : y = 4
      · have hxz : z = x := (hwq hy4).symm
        subst hxz
        have ty : (y == 4) = true := beq_iff_eq.2 hy4
        clear hwq hy4
        have hB1 := hbl
        go_wp2_with fail
        have bD : Below wr.heap.size wr wr.drew := below_drewN (Below.refl _ wr) 1
        replace hB1 := bK hB1 bD
        replace e1 := cK bD e1 hbk
        replace e2 := cK bD e2 hbm
        replace e3 := cK bD e3 hba
        replace hba := lK bD hba
        replace hbk := lK bD hbk
        replace hbm := lK bD hbm
        rewrite [cR bD kal] at ka0 ka1 ka2 ka3
        replace kal := lK bD kal
        rewrite [cR bD bxl] at bx0 bx1 bx2 bx3 bx4 bx5
        replace bxl := lK bD bxl
        replace cc := bK cc bD
        clear bD
        refine wp_region_held_drew (S := fun w' => w'.cell? ⟨bk, ok_ + q * 4, none⟩ = some (.int .i64 y) ∧ w'.cell? ⟨bm, om + i, none⟩ = some (.int .i64 z) ∧ w'.cell? ⟨ba_, oa + i, none⟩ = some (.int .i64 z) ∧ w'.cell? ⟨w.heap.size, 0, none⟩ = some (.int .i64 kk) ∧ w'.cell? ⟨w.heap.size, 1, none⟩ = some (.int .i64 ks) ∧ w'.cell? ⟨w.heap.size, 2, none⟩ = some (.int .i64 km) ∧ w'.cell? ⟨w.heap.size, 3, none⟩ = some (.int .i64 ko) ∧ w'.cell? ⟨w2.heap.size, 0, none⟩ = some (.int .i64 kk) ∧ w'.cell? ⟨w2.heap.size, 1, none⟩ = some (.int .i64 ks) ∧ w'.cell? ⟨w2.heap.size, 2, none⟩ = some (.int .i64 km) ∧ w'.cell? ⟨w2.heap.size, 3, none⟩ = some (.int .i64 ko) ∧ w'.cell? ⟨w2.heap.size, 4, none⟩ = some (.int .i64 (nm : Int)) ∧ w'.cell? ⟨w2.heap.size, 5, none⟩ = some (.slice (some ⟨bk, ok_, none⟩) nx cx)) (by kernel_rfl) ?_ (fun hHeld => ?_)
        · exact ⟨e1, e2, e3, ka0, ka1, ka2, ka3, bx0, bx1, bx2, bx3, bx4, bx5⟩
        refine tY (i := 0) (v := ?_) rfl ?_ hHeld ?_
        rotate_left
        · (intro w hSw; (try dsimp only at hSw); go_simp; (try with_reducible rfl))
        try simp only [Act.put, pT]
        refine tY (i := 1) (v := ?_) rfl ?_ hHeld ?_
        rotate_left
        · (intro w hSw; (try dsimp only at hSw); go_simp; (try with_reducible rfl))
        try simp only [Act.put, pT]
        refine tY (i := 2) (v := ?_) rfl ?_ hHeld ?_
        rotate_left
        · (intro w hSw; (try dsimp only at hSw); go_simp; (try with_reducible rfl))
        try simp only [Act.put, pT]
        refine tY (i := 3) (v := ?_) rfl ?_ hHeld ?_
        rotate_left
        · (intro w hSw; (try dsimp only at hSw); go_simp; (try with_reducible rfl))
        try simp only [Act.put, pT]
        refine tY (i := 4) (v := ?_) rfl ?_ hHeld ?_
        rotate_left
        · (intro w hSw; (try dsimp only at hSw); go_simp; (try with_reducible rfl))
        try simp only [Act.put, pT]
        refine tY (i := 5) (v := ?_) rfl ?_ hHeld ?_
        rotate_left
        · (intro w hSw; (try dsimp only at hSw); go_simp; (try with_reducible rfl))
        try simp only [Act.put, pT]
        refine tY (i := 6) (v := ?_) rfl ?_ hHeld ?_
        rotate_left
        · (intro w hSw; (try dsimp only at hSw); go_simp; (try with_reducible rfl))
        try simp only [Act.put, pT]
        refine tY (i := 7) (v := ?_) rfl ?_ hHeld ?_
        rotate_left
        · (intro w hSw; (try dsimp only at hSw); go_simp; (try with_reducible rfl))
        try simp only [Act.put, pT]
        refine tY (i := 8) (v := ?_) rfl ?_ hHeld ?_
        rotate_left
        · (intro w hSw; (try dsimp only at hSw); go_simp; (try with_reducible rfl))
        try simp only [Act.put, pT]
        refine tY (i := 9) (v := ?_) rfl ?_ hHeld ?_
        rotate_left
        · (intro w hSw; (try dsimp only at hSw); go_simp; (try with_reducible rfl))
        try simp only [Act.put, pT]
        refine tY (i := 10) (v := ?_) rfl ?_ hHeld ?_
        rotate_left
        · (intro w hSw; (try dsimp only at hSw); go_simp; (try with_reducible rfl))
        try simp only [Act.put, pT]
        refine tY (i := 11) (v := ?_) rfl ?_ hHeld ?_
        rotate_left
        · (intro w hSw; (try dsimp only at hSw); go_simp; (try with_reducible rfl))
        try simp only [Act.put, pT]
        refine tY (i := 12) (v := ?_) rfl ?_ hHeld ?_
        rotate_left
        · (intro w hSw; (try dsimp only at hSw); go_simp; (try with_reducible rfl))
        try simp only [Act.put, pT]
        refine tY (i := 13) (v := ?_) rfl ?_ hHeld ?_
        rotate_left
        · (intro w hSw; (try dsimp only at hSw); go_simp; (try with_reducible rfl))
        try simp only [Act.put, pT]
        refine tY (i := 14) (v := ?_) rfl ?_ hHeld ?_
        rotate_left
        · (intro w hSw; (try dsimp only at hSw); go_simp; (try with_reducible rfl))
        try simp only [Act.put, pT]
        refine tY (i := 15) (v := ?_) rfl ?_ hHeld ?_
        rotate_left
        · (intro w hSw; (try dsimp only at hSw); go_simp; (try with_reducible rfl))
        try simp only [Act.put, pT]
        refine tY (i := 16) (v := ?_) rfl ?_ hHeld ?_
        rotate_left
        · (intro w hSw; (try dsimp only at hSw); go_simp; (try with_reducible rfl))
        try simp only [Act.put, pT]
        refine tY (i := 17) (v := ?_) rfl ?_ hHeld ?_
        rotate_left
        · (intro w hSw; (try dsimp only at hSw); go_simp; (try with_reducible rfl))
        try simp only [Act.put, pT]
        refine tY (i := 18) (v := ?_) rfl ?_ hHeld ?_
        rotate_left
        · (intro w hSw; (try dsimp only at hSw); go_simp; (try with_reducible rfl))
        try simp only [Act.put, pT]
        refine tY (i := 19) (v := ?_) rfl ?_ hHeld ?_
        rotate_left
        · (intro w hSw; (try dsimp only at hSw); go_simp; (try with_reducible rfl))
        try simp only [Act.put, pT]
        refine tY (i := 20) (v := ?_) rfl ?_ hHeld ?_
        rotate_left
        · (intro w hSw; (try dsimp only at hSw); go_simp; (try with_reducible rfl))
        try simp only [Act.put, pT]
        refine wpAnyH_done (by kernel_rfl) ?_ _
        clear hHeld
        go_wp2_with fail
        go_roundw
        case rel => exact ⟨i + 1, by omega, by go_num, hB1⟩
        case measure => simp [intOf] <;> omega
      · have ty : (y == 4) = false := beq_eq_false_iff_ne.2 hy4
        clear hwq hy4
        have hB1 := hbl
        go_wp2_with fail
        have bD : Below wr.heap.size wr wr.drew := below_drewN (Below.refl _ wr) 1
        replace hB1 := bK hB1 bD
        replace e1 := cK bD e1 hbk
        replace e2 := cK bD e2 hbm
        replace e3 := cK bD e3 hba
        replace hba := lK bD hba
        replace hbk := lK bD hbk
        replace hbm := lK bD hbm
        rewrite [cR bD kal] at ka0 ka1 ka2 ka3
        replace kal := lK bD kal
        rewrite [cR bD bxl] at bx0 bx1 bx2 bx3 bx4 bx5
        replace bxl := lK bD bxl
        replace cc := bK cc bD
        clear bD
        refine wp_region_held_drew (S := fun w' => w'.cell? ⟨bk, ok_ + q * 4, none⟩ = some (.int .i64 y) ∧ w'.cell? ⟨bm, om + i, none⟩ = some (.int .i64 x) ∧ w'.cell? ⟨ba_, oa + i, none⟩ = some (.int .i64 z) ∧ w'.cell? ⟨w.heap.size, 0, none⟩ = some (.int .i64 kk) ∧ w'.cell? ⟨w.heap.size, 1, none⟩ = some (.int .i64 ks) ∧ w'.cell? ⟨w.heap.size, 2, none⟩ = some (.int .i64 km) ∧ w'.cell? ⟨w.heap.size, 3, none⟩ = some (.int .i64 ko) ∧ w'.cell? ⟨w2.heap.size, 0, none⟩ = some (.int .i64 kk) ∧ w'.cell? ⟨w2.heap.size, 1, none⟩ = some (.int .i64 ks) ∧ w'.cell? ⟨w2.heap.size, 2, none⟩ = some (.int .i64 km) ∧ w'.cell? ⟨w2.heap.size, 3, none⟩ = some (.int .i64 ko) ∧ w'.cell? ⟨w2.heap.size, 4, none⟩ = some (.int .i64 (nm : Int)) ∧ w'.cell? ⟨w2.heap.size, 5, none⟩ = some (.slice (some ⟨bk, ok_, none⟩) nx cx)) (by kernel_rfl) ?_ (fun hHeld => ?_)
        · exact ⟨e1, e2, e3, ka0, ka1, ka2, ka3, bx0, bx1, bx2, bx3, bx4, bx5⟩
        refine tY (i := 0) (v := ?_) rfl ?_ hHeld ?_
        rotate_left
        · (intro w hSw; (try dsimp only at hSw); go_simp; (try with_reducible rfl))
        try simp only [Act.put, pT]
        refine tY (i := 1) (v := ?_) rfl ?_ hHeld ?_
        rotate_left
        · (intro w hSw; (try dsimp only at hSw); go_simp; (try with_reducible rfl))
        try simp only [Act.put, pT]
        refine tY (i := 2) (v := ?_) rfl ?_ hHeld ?_
        rotate_left
        · (intro w hSw; (try dsimp only at hSw); go_simp; (try with_reducible rfl))
        try simp only [Act.put, pT]
        refine tY (i := 3) (v := ?_) rfl ?_ hHeld ?_
        rotate_left
        · (intro w hSw; (try dsimp only at hSw); go_simp; (try with_reducible rfl))
        try simp only [Act.put, pT]
        refine tY (i := 4) (v := ?_) rfl ?_ hHeld ?_
        rotate_left
        · (intro w hSw; (try dsimp only at hSw); go_simp; (try with_reducible rfl))
        try simp only [Act.put, pT]
        refine tY (i := 5) (v := ?_) rfl ?_ hHeld ?_
        rotate_left
        · (intro w hSw; (try dsimp only at hSw); go_simp; (try with_reducible rfl))
        try simp only [Act.put, pT]
        refine tY (i := 6) (v := ?_) rfl ?_ hHeld ?_
        rotate_left
        · (intro w hSw; (try dsimp only at hSw); go_simp; (try with_reducible rfl))
        try simp only [Act.put, pT]
        refine tY (i := 7) (v := ?_) rfl ?_ hHeld ?_
        rotate_left
        · (intro w hSw; (try dsimp only at hSw); go_simp; (try with_reducible rfl))
        try simp only [Act.put, pT]
        refine tY (i := 8) (v := ?_) rfl ?_ hHeld ?_
        rotate_left
        · (intro w hSw; (try dsimp only at hSw); go_simp; (try with_reducible rfl))
        try simp only [Act.put, pT]
        refine tY (i := 9) (v := ?_) rfl ?_ hHeld ?_
        rotate_left
        · (intro w hSw; (try dsimp only at hSw); go_simp; (try with_reducible rfl))
        try simp only [Act.put, pT]
        refine tY (i := 10) (v := ?_) rfl ?_ hHeld ?_
        rotate_left
        · (intro w hSw; (try dsimp only at hSw); go_simp; (try with_reducible rfl))
        try simp only [Act.put, pT]
        refine tU (i := 11) rfl hHeld ?_
        try simp only [Act.put, pT]
        refine tU (i := 12) rfl hHeld ?_
        try simp only [Act.put, pT]
        refine tU (i := 13) rfl hHeld ?_
        try simp only [Act.put, pT]
        refine tU (i := 14) rfl hHeld ?_
        try simp only [Act.put, pT]
        refine tU (i := 15) rfl hHeld ?_
        try simp only [Act.put, pT]
        refine tU (i := 16) rfl hHeld ?_
        try simp only [Act.put, pT]
        refine tU (i := 17) rfl hHeld ?_
        try simp only [Act.put, pT]
        refine tU (i := 18) rfl hHeld ?_
        try simp only [Act.put, pT]
        refine tU (i := 19) rfl hHeld ?_
        try simp only [Act.put, pT]
        refine tY (i := 20) (v := ?_) rfl ?_ hHeld ?_
        rotate_left
        · (intro w hSw; (try dsimp only at hSw); go_simp; (try with_reducible rfl))
        try simp only [Act.put, pT]
        refine wpAnyH_done (by kernel_rfl) ?_ _
        clear hHeld
        go_wp2_with fail
        go_roundw
        case rel => exact ⟨i + 1, by omega, by go_num, hB1⟩
        case measure => simp [intOf] <;> omega
    · obtain rfl : i = nm := by omega
      go_wp2_with fail
      refine (alive14_any _).mono ?_
      rintro e w9 ⟨rfl, b⟩
      replace cc := bK cc b
      clear b
      go_wp2_with fail
      go_ret
      exact ⟨rfl, cc⟩

theorem okO_all {kk km ko lg : Int} {s : Nat} {L : List Int} (hs : 1 ≤ s) (h : OkO kk km ko lg s L (nbk s L.length)) : ∀ x ∈ L, x ≠ -9223372036854775808 := by
  intro x hx
  obtain ⟨j, hj, rfl⟩ := at_mem 0 hx
  have h1 := h _ (place_lt hs hj)
  have h2 := cutL_place (s := s) hs hj
  have h3 : L[j]?.getD 0 ∈ cutL s L (j / s) := by
    rw [← h2]
    rcases hc : (cutL s L (j / s))[j % s]? with _ | y
    · rw [hc] at h2; rw [List.getElem?_eq_getElem hj] at h2; cases h2
    · exact List.mem_of_getElem? hc
  exact (h1.2 _ h3).1
theorem row14 {L : List Int} {g : Int} (hg : g ≤ 9223372036854775807) (h : gr L ≤ g) : ∀ j : Nat, I64 (L[j]?.getD 0) ∧ L[j]?.getD 0 ≠ -9223372036854775808 := by
  intro j
  rcases Nat.lt_or_ge j L.length with hj | hj
  · have := gr_ge hj; unfold I64; omega
  · rw [List.getElem?_eq_none hj]; exact ⟨i64_z, by show (0 : Int) ≠ _; omega⟩
theorem TensRight_walk {w : World} {kk ks km ko : Int} (hI : I64 kk ∧ I64 ks ∧ I64 km ∧ I64 ko) {A : Option Addr} {n c : Nat} {L : List Int} (hA : IR w A n c L) (hi6 : ∀ x ∈ L, I64 x) : Calls Tryz.prog 5 #[.agg #[.int .i64 kk, .int .i64 ks, .int .i64 km, .int .i64 ko], .slice A n c] w fun e w' => e = .returned (.bool true) ∧ Below w.heap.size w w' := by
  by_cases h : 24 < n
  · exact TensRight_few hA h
  by_cases ho : OkT kk ks km ko L
  · obtain ⟨s1, s2, s3, hk⟩ := okT_size ho
    have hl := hA.1
    have hL := row_i64_14 hi6 (okO_all s1 ho.2)
    have hb : gr L ≤ 9223372036854775807 := by have := grk_i64 hL L.length; unfold I64 at this; exact this.2
    have hg : gr (ldS (ofT kk ks km ko L) (nbk ks.toNat L.length)) ≤ gr L := gr_ldS hk s1 s2 ho.2
    have hrl : (ldS (ofT kk ks km ko L) (nbk ks.toNat L.length)).length = L.length := ldS_len_of (L := L) s1 s2 ho.2
    have hS := okT_right ho (by omega)
    rw [← hl] at hS
    have hDl : (ofT kk ks km ko L).length ≤ 24 := by rw [ofT_len]; have := nbk_le (n := L.length) s1; omega
    have eD : ∀ {W : World} {A : Option Addr} {n c : Nat}, KR W A n c (ofT kk ks km ko L) → n = nbk ks.toNat L.length := fun h => by rw [h.1, ofT_len]
    exact TensRight_yes hA (by omega) (by omega) (D := ofT kk ks km ko L) (R := ldS (ofT kk ks km ko L) (nbk ks.toNat L.length)) hg (by rw [hl]; exact hrl) hDl (fun i hi => by rw [ofT_len]; exact place_lt s1 (by omega))
      (fun i hi h4 => by
        have hp := place_lt (L := L) s1 (show i < L.length by omega)
        have e1 : (ofT kk ks km ko L)[i / ks.toNat]?.getD bk0 = ofB kk km ko L.length (cutL ks.toNat L (i / ks.toNat)) := ofL_at hp
        rw [e1] at h4
        exact wide_place s1 s2 ho.2 (by omega) h4)
      (fun g => tnOf_yes hI g hi6 (by omega) ho) (fun g => by have h := tnLoad_N g hS; rw [← eD g]; exact h) (fun g => by have h := rRight14_N (kk := kk) (ks := ks) (km := km) (ko := ko) (lg := (n : Int)) g; rwa [decide_eq_true hS] at h)
      (fun g => by have h := tnRight_N (kk := kk) (ks := ks) (km := km) (ko := ko) (lg := (n : Int)) g (by rw [eD g]; have := nbk_le (n := L.length) s1; omega) ⟨hI.1, hI.2.1, hI.2.2.1, hI.2.2.2, by unfold I64; omega⟩; rwa [decide_eq_true hS] at h)
      (fun g => rgreat_N g (by rw [g.1, hrl]; omega) (row14 hb hg)) (fun g => rgreat_N g (by omega) hL)
  · exact TensRight_no hA (by omega) (fun g => tnOf_no hI g hi6 (by omega) ho)

end Go.Proofs.YtpidpebgeblenaaGreat
